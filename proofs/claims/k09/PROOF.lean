import PyProof.Rows.All
import Wide.All
import OpenK.AllK
import Wide.FinOn
import Lean
import PyProof.EqAt
import PyProof.EqKinds
import PyProof.TupleCall
import PyProof.ExcInit
import PyProof.ExcClass2
import PyProof.ExcClsAt2
import PyProof.ExcBaseAll.ValueError
import PyProof.InstStoreFacts
import PyProof.InstLoad
import PyProof.ExcAttrAll.ValueError
import PyProof.StationsW
import PyProof.RulesAs
import PyProof.NsDelKeeps
import PyProof.IsiBase
import KE.KIsAll
import KE.KLam
import KE.KNestM
import PyProof.DictWalks
import KE.KDictSum
import PyProof.TupleKey
import KE.KSortTup
import PyProof.EnumMake
import PyProof.EnumFor
import PyProof.TupleIter
import PyProof.Rows.Range3
import PyProof.ZipIter
import PySem.Challenge.RW_classtab_k09_groups_made_by_perms
set_option Elab.async false
set_option linter.all false
set_option maxRecDepth 100000
theorem Za {α β:Type _}{l:List α}{f:α->β}:(l.map f).length=l.length:=List.length_map ..
theorem Zb {α:Type _}{l:List α}{i:Nat}{a:α}:l.getD i a=l[i]?.getD a:=List.getD_eq_getElem?_getD ..
theorem Zc {α β:Type _}{f:α->β}{l:List α}{i:Nat}:(l.map f)[i]?=l[i]?.map f:=List.getElem?_map ..
theorem Zd {α:Type _}{a b:List α}:(a++b).length=a.length+b.length:=List.length_append ..
theorem Ze {α:Type _}{n:Nat}{a:α}:(List.replicate n a).length=n:=List.length_replicate ..
theorem Zf {α:Type _}{l:List α}{i:Nat}(h:i<l.length):l[i]?=some l[i]:=List.getElem?_eq_getElem h
theorem Zg {n:Nat}:(List.range n).length=n:=List.length_range ..
theorem Zh {α:Type _}{l:List α}:l.toArray.size=l.length:=List.size_toArray ..
theorem Zi {α:Type _}{a:α}{l:List α}:(a::l).length=l.length+1:=List.length_cons ..
theorem Zj (n:Nat):(n:Int).toNat=n:=Int.toNat_natCast n
theorem Zk {α:Type _}{a:α}:[a].length=1:=List.length_singleton ..
abbrev Zl:=@PySem.wpAny_bind
abbrev Zm:=@PySem.wpAny_pure
abbrev Zn:=@PySem.Heap.get?_push_of_some
abbrev Zo:=@PySem.Heap.get?_push_size
abbrev Zp:=@PySem.Heap.lt_size
abbrev Zq:=@Nat.le_refl
abbrev Zr.{u}:=@Array.length_toList.{u}
namespace L2
open PySem PySem.Spec PyProof.Rows
abbrev Z6:=Sum Int Str
def XW:Z6->Value->Bool
 | .inl k,v=>Value.isInt k v
 | .inr x,v=>Value.isStrOf x v
def Zhq (w:World):Z6->Int
 | .inl k=>hashInt k
 | .inr x=>hashStr w x
theorem ZW:∀{k:Z6}{v:Value},XW k v=true->(∃i t,k=Sum.inl i/\v=Value.int i t)\/(∃x t,k=Sum.inr x/\v=Value.str x t)
 | .inl i,v,h=>by
  obtain⟨t,e⟩:=Value.isInt_shape (k:=i) (v:=v) h
  exact .inl ⟨i,t,rfl,e⟩
 | .inr x,v,h=>by
  obtain⟨t,e⟩:=Value.isStrOf_shape (x:=x) (v:=v) h
  exact .inr ⟨x,t,rfl,e⟩
theorem Zby (i:Int)(t:Tok):XW (.inl i) (.int i t)=true:=by simp[XW,Value.isInt]
theorem Zbx (x:Str)(t:Tok):XW (.inr x) (.str x t)=true:=by simp[XW,Value.isStrOf]
theorem Zfy (a b:Int):decide ((Sum.inl a:Z6)=Sum.inl b)=(a == b):=by
 by_cases e:a=b
 ·subst e;simp
 ·have h:¬(Sum.inl a:Z6)=Sum.inl b:=fun q=>e (Sum.inl.inj q)
  rw[decide_eq_false h]
  exact (beq_eq_false_iff_ne.mpr e).symm
theorem Zfv (a b:Str):decide ((Sum.inr a:Z6)=Sum.inr b)=decide (a=b):=by
 by_cases e:a=b
 ·subst e;simp
 ·have h:¬(Sum.inr a:Z6)=Sum.inr b:=fun q=>e (Sum.inr.inj q)
  rw[decide_eq_false h,decide_eq_false e]
theorem Zfx (a:Int)(b:Str):decide ((Sum.inl a:Z6)=Sum.inr b)=false:=decide_eq_false (fun q=>nomatch q)
theorem Zfw (a:Str)(b:Int):decide ((Sum.inr a:Z6)=Sum.inl b)=false:=decide_eq_false (fun q=>nomatch q)
def ZV (prog:Program)(w:World):PySem.KeyKind prog w Z6 where
 is:=XW
 hash:=Zhq w
 inj:=fun v a b ha hb=>by
  rcases ZW ha with ⟨i,t,rfl,rfl⟩|⟨x,t,rfl,rfl⟩
  ·rcases ZW hb with ⟨j,u,rfl,e⟩|⟨y,u,rfl,e⟩
   ·injection e with e1 _;rw[e1]
   ·exact nomatch e
  ·rcases ZW hb with ⟨j,u,rfl,e⟩|⟨y,u,rfl,e⟩
   ·exact nomatch e
   ·injection e with e1 _;rw[e1]
 byValue:=fun k v h=>by
  rcases ZW h with ⟨i,t,rfl,rfl⟩|⟨x,t,rfl,rfl⟩ <;> rfl
 pyHash:=fun hv h=>by
  rcases ZW hv with ⟨i,t,rfl,rfl⟩|⟨x,t,rfl,rfl⟩
  ·exact wpAny_pyHash_int h
  ·exact wpAny_pyHash_str h
 eqBool:=fun hu hv h=>by
  rcases ZW hu with ⟨i,t,rfl,rfl⟩|⟨x,t,rfl,rfl⟩
  ·rcases ZW hv with ⟨j,u,rfl,rfl⟩|⟨y,u,rfl,rfl⟩
   ·rw[Zfy] at h;exact wpAny_eqBool_int h
   ·rw[Zfx] at h;exact SeqAt.EqAt.int_str i t y u _ _ _ _ h
  ·rcases ZW hv with ⟨j,u,rfl,rfl⟩|⟨y,u,rfl,rfl⟩
   ·rw[Zfw] at h;exact SeqAt.EqAt.str_int x t j u _ _ _ _ h
   ·rw[Zfv] at h;exact wpAny_eqBool_str h
 «strs»:=fun k x t v h=>by
  rcases ZW h with ⟨i,u,rfl,e⟩|⟨y,u,rfl,e⟩
  ·exact nomatch e
  ·injection e with e1 _
   subst e1
   cases v <;> rfl
theorem VV (prog:Program)(w:World)(i:Int)(t:Tok):(ZV prog w).is (.inl i) (.int i t)=true:=Zby i t
theorem VU (prog:Program)(w:World)(x:Str)(t:Tok):(ZV prog w).is (.inr x) (.str x t)=true:=Zbx x t
inductive V where
 |non|bl (b:Bool)|int (i:Int)|str (x:Str)|byt (b:Array UInt8)|flt (b:UInt64)|ref (a:Addr)|ty (n:String)
 deriving DecidableEq
def RelV:V->Value->Prop
 | .non,u=>u=Value.none
 | .bl b,u=>u=Value.bool b
 | .int i,u=>∃t,u=Value.int i t
 | .str x,u=>∃t,u=Value.str x t
 | .byt b,u=>∃t,u=Value.bytes b t
 | .flt b,u=>∃t,u=Value.float b t
 | .ref a,u=>u=Value.ref a
 | .ty n,u=>u=Value.type n
abbrev ZC:List V->List Value->Prop:=Paired RelV
theorem ZC.length {xs:List V}{us:List Value}(r:ZC xs us):xs.length=us.length:=Paired.length r
theorem ZC.get:∀{xs:List V}{us:List Value}{i:Nat}{x:V},ZC xs us->xs[i]?=some x->∃u,us[i]?=some u/\RelV x u
 |_,_,_,_,.nil,e=>by simp at e
 |_,_,0,_,.cons r _,e=>by simp at e;subst e;exact⟨_,rfl,r⟩
 |_,_,i+1,x,.cons _ t,e=>by
  obtain⟨u,h1,h2⟩:=ZC.get (i:=i) (x:=x) t (by simpa using e)
  exact⟨u,by simpa using h1,h2⟩
theorem ZC.set {x:V}{u:Value}(r:RelV x u):∀{xs:List V}{us:List Value} (i:Nat),ZC xs us->ZC (xs.set i x) (us.set i u)
 |_,_,_,.nil=>.nil
 |_,_,0,.cons _ t=>.cons r t
 |_,_,i+1,.cons q t=>.cons q (ZC.set r i t)
theorem ZC.append:∀{xs ys:List V}{us ws:List Value},ZC xs us->ZC ys ws->ZC (xs++ys) (us++ws)
 |_,_,_,_,.nil,s=>s
 |_,_,_,_,.cons r t,s=>.cons r (ZC.append t s)
theorem ZC.take:∀{xs:List V}{us:List Value} (n:Nat),ZC xs us->ZC (xs.take n) (us.take n)
 |_,_,0,_=>.nil
 |_,_,_+1,.nil=>.nil
 |_,_,n+1,.cons r t=>.cons r (ZC.take n t)
theorem ZC.drop:∀{xs:List V}{us:List Value} (n:Nat),ZC xs us->ZC (xs.drop n) (us.drop n)
 |_,_,0,r=>r
 |_,_,_+1,.nil=>.nil
 |_,_,n+1,.cons _ t=>ZC.drop n t
def WR:Option V->Option Value->Prop
 |some v,some u=>RelV v u
 |none,none=>True
 |_,_=>False
def KV {κ:Type}:List (κ×V)->List (κ×Value)->Prop:=Paired fun (p:κ×V) (q:κ×Value)=>p.1=q.1/\RelV p.2 q.2
def kV:Z6->V
 | .inl i=>.int i
 | .inr x=>.str x
inductive HO where
 |lst (xs:List V)
 |tup (xs:List V)
 |dK (kvs:List (Z6×V))|dT (kvs:List (List Z6×V))
 |set (S:Int->Bool) (n:Nat)
 |ins (C dx:Addr) (fs:List (Str×V))
 |own (x:Addr)
 |xd (fs:List (Str×V))
 |met (f x:Addr)
 |rng (lo hi:Int)
 |frz (o:Obj) (u:HO)
 |tbl (ps:Array Value)
 |ext (φ:Heap->Prop)
abbrev Hp:=Addr->Option HO
def upd (H:Hp)(a:Addr)(o:HO):Hp:=fun b=>if b=a then some o else H b
theorem Zs {H:Hp}{a:Addr}{o:HO}:upd H a o a=some o:=by unfold upd;rw[if_pos rfl]
theorem Zw {H:Hp}{a b:Addr}{o:HO}(h:b≠a):upd H a o b=H b:=by unfold upd;rw[if_neg h]
theorem ZeG {H:Hp}{a b:Addr}{o u:HO}(h:H a=some o)(h':H b=some u)(d:o≠u):a≠b:=by
 intro e;subst e;rw[h] at h';exact d (Option.some.inj h')
theorem Zz {H:Hp}{a b:Addr}{o:HO}(h:H a=some o)(h':H b=none):a≠b:=by
 intro e;subst e;rw[h] at h';cases h'
section
variable (P:Program)(w:World)
def ZG (H:Hp)(h:Heap)(a:Addr):HO->Prop
 | .lst xs=>xs.length<=sizeLine/\∃(its:List Value) (n:Nat),ZC xs its/\h.get? a=some {cls:=.type "list",data:=.seq its.toArray n}
 | .tup xs=>xs.length<=sizeLine/\∃its:List Value,ZC xs its/\IsTup h a its.toArray
 | .dK kvs=>kvs.length<=sizeLine/\(a == sysModules)=false/\∃vs,KV kvs vs/\h.DictOf (ZV P w) a vs
 | .dT kvs=>kvs.length<=sizeLine/\(a == sysModules)=false/\∃xs:List (List Z6×Addr×Value),
   Paired (fun (p:List Z6×V) (q:List Z6×Addr×Value)=>p.1=q.1/\H q.2.1=some (.tup (p.1.map kV))/\RelV p.2 q.2.2) kvs xs/\
   ∃o es ep,h.get? a=some o/\o.ExactDict/\o.data=.dict es ep/\es.toList=xs.map (entryOfKey (tupleKind (ZV P w)))/\(xs.map (·.1)).Nodup
 | .set S n=>h.SetOf (intKind P w) a S n
 | .ins C dx fs=>H dx=some (.own a)/\fs.length<=1000/\dx≠a/\h.get? a=some (PySem.W.instObj C dx)/\
   ∃mA,h.Ns1 dx mA/\(∀f,WR (fs.lookup f) (mA f))/\PySem.Within mA (fs.map (·.1))
 | .own _=>∃o,h.get? a=some o
 | .xd fs=>∃mA,h.Ns1 a mA/\∀f,WR (fs.lookup f) (mA f)
 | .rng lo hi=>∃t u v,h.get? a=some {cls:=.type "range",data:=.fields #[.int lo t,.int hi u,.int 1 v]}
 | .frz o u=>h.get? a=some o/\ZG H h a u
 | .tbl ps=>h.get? a=some {cls:=.none,data:=.fields ps}
 | .met f x=>h.get? a=some (PySem.W.methodObj (.ref f) (.ref x))
 | .ext φ=>φ h/\(∃o,h.get? a=some o)/\∀h1 h2:Heap,φ h1->(∀o,h1.get? a=some o->h2.get? a=some o)->φ h2
def Ww (H:Hp)(h:Heap):Prop:=∀a o,H a=some o->ZG P w H h a o
end
section
variable {P:Program}{w:World}{H H':Hp}{h h':Heap}{a:Addr}{o:HO}
theorem ZG.lt (x:ZG P w H h a o):a<h.objs.size:=by
 cases o with
 |lst xs=>obtain⟨_,_,_,_,e⟩:=x;exact Zp e
 |tup xs=>obtain⟨_,_,_,p⟩:=x;exact p.lt
 |dK kvs=>obtain⟨_,_,_,_,o,_,_,e,_⟩:=x;exact Zp e
 |dT kvs=>obtain⟨_,_,_,_,o,_,_,e,_⟩:=x;exact Zp e
 |set S n=>obtain⟨o,_,_,_,e,_⟩:=x;exact Zp e
 |ins C dx fs=>obtain⟨_,_,_,e,_⟩:=x;exact Zp e
 |own y=>obtain⟨_,e⟩:=x;exact Zp e
 |xd fs=>obtain⟨_,⟨_,_,_,e,_⟩,_⟩:=x;exact Zp e
 |rng lo hi=>obtain⟨_,_,_,e⟩:=x;exact Zp e
 |frz ob u=>obtain⟨e,_⟩:=x;exact Zp e
 |tbl ps=>exact Zp (show h.get? a=some _ from x)
 |met f y=>exact Zp (show h.get? a=some _ from x)
 |ext φ=>obtain⟨_,⟨_,e⟩,_⟩:=x;exact Zp e
theorem Paired.mapP {α β:Type}{F G:α->β->Prop}:∀{l₁:List α}{l₂:List β},Paired F l₁ l₂->(∀a b,F a b->G a b)->Paired G l₁ l₂
 |_,_,.nil,_=>.nil
 |_,_,.cons r t,f=>.cons (f _ _ r) (Paired.mapP t f)
theorem ZG.stay (x:ZG P w H h a o)(k:∀b u,(b=a\/H b=some (.own a))->h.get? b=some u->h'.get? b=some u)
  (ho:∀b,H b=some (.own a)->H' b=some (.own a)) (ht:∀b xs,H b=some (.tup xs)->H' b=some (.tup xs)):ZG P w H' h' a o:=by
 induction o with
 |lst xs=>obtain⟨z,its,n,r,e⟩:=x;exact⟨z,its,n,r,k _ _ (.inl rfl) e⟩
 |tup xs=>obtain⟨z,its,r,ob,e,c⟩:=x;exact⟨z,its,r,ob,k _ _ (.inl rfl) e,c⟩
 |dK kvs=>obtain⟨z,y,vs,r,ob,es,ep,e,c⟩:=x;exact⟨z,y,vs,r,ob,es,ep,k _ _ (.inl rfl) e,c⟩
 |dT kvs=>
  obtain⟨z,y,xs,r,ob,es,ep,e,c⟩:=x
  exact⟨z,y,xs,Paired.mapP r fun p q z=>⟨z.1,ht _ _ z.2.1,z.2.2⟩,ob,es,ep,k _ _ (.inl rfl) e,c⟩
 |set S n=>obtain⟨ob,es,ep,t,e,c⟩:=x;exact⟨ob,es,ep,t,k _ _ (.inl rfl) e,c⟩
 |ins C dx fs=>
  obtain⟨d,z,ne,e,mA,⟨od,es,ep,e2,c⟩,r⟩:=x
  exact⟨ho _ d,z,ne,k _ _ (.inl rfl) e,mA,⟨od,es,ep,k _ _ (.inr d) e2,c⟩,r⟩
 |own y=>obtain⟨ob,e⟩:=x;exact⟨ob,k _ _ (.inl rfl) e⟩
 |xd fs=>obtain⟨mA,⟨od,es,ep,e,c⟩,r⟩:=x;exact⟨mA,⟨od,es,ep,k _ _ (.inl rfl) e,c⟩,r⟩
 |rng lo hi=>obtain⟨t,u,v,e⟩:=x;exact⟨t,u,v,k _ _ (.inl rfl) e⟩
 |frz ob u ih=>obtain⟨e,q⟩:=x;exact⟨k _ _ (.inl rfl) e,ih q⟩
 |tbl ps=>
  have e:h.get? a=some {cls:=.none,data:=.fields ps}:=x
  show h'.get? a=some {cls:=.none,data:=.fields ps}
  exact k a _ (.inl rfl) e
 |met f y=>
  have e:h.get? a=some (PySem.W.methodObj (.ref f) (.ref y)):=x
  show h'.get? a=some (PySem.W.methodObj (.ref f) (.ref y))
  exact k a _ (.inl rfl) e
 |ext φ=>obtain⟨p,⟨o,e⟩,st⟩:=x;exact⟨st _ _ p fun o q=>k _ _ (.inl rfl) q,⟨o,k _ _ (.inl rfl) e⟩,st⟩
theorem Ww.lt (x:Ww P w H h)(e:H a=some o):a<h.objs.size:=(x a o e).lt
theorem Ww.fresh (x:Ww P w H h)(e:h.objs.size<=a):H a=none:=by
 cases q:H a with
 |none=>rfl
 |some u=>exact absurd (Nat.lt_of_lt_of_le (x.lt q) e) (Nat.lt_irrefl _)
theorem Ww.kept (x:Ww P w H h)(k:∀b u,h.get? b=some u->h'.get? b=some u):Ww P w H h':=fun a o e=>
 (x a o e).stay (fun b u _ q=>k b u q) (fun _ q=>q) fun _ _ q=>q
theorem Ww.laid (x:Ww P w H h)(k:∀b u,h.get? b=some u->h'.get? b=some u)(hp:h.objs.size<=a)(new:ZG P w (upd H a o) h' a o):Ww P w (upd H a o) h':=fun b u e=>by
 have hn:=x.fresh hp
 by_cases hb:b=a
 ·subst hb;rw[Zs] at e;cases e;exact new
 ·rw[Zw hb] at e
  exact (x b u e).stay (fun c v _ q=>k c v q) (fun c q=>by rw[Zw (Zz q hn)];exact q) fun c xs q=>by rw[Zw (Zz q hn)];exact q
end
def Rd (H:Hp)(a:Addr)(u:HO):Prop:=H a=some u\/∃o,H a=some (.frz o u)
theorem Rd.ok {P:Program}{w:World}{H:Hp}{h:Heap}{a:Addr}{u:HO}(r:Rd H a u)(x:Ww P w H h):ZG P w H h a u:=by
 rcases r with r|⟨o,r⟩
 ·exact x a u r
 ·obtain⟨_,q⟩:=x a _ r
  exact q
def Mut:Option HO->Prop
 |some (.lst _)=>True
 |some (.dK _)=>True
 |some (.dT _)=>True
 |some (.set _ _)=>True
 |some (.ins _ _ _)=>True
 |some (.ext _)=>True
 |_=>False
section
variable {P:Program}{w:World}{H:Hp}{h h':Heap}{x e:Addr}{o':HO}
theorem Ww.write (ok:Ww P w H h)(mu:Mut (H x))(he:e=x\/H e=some (.own x))(k:∀b u,b≠e->h.get? b=some u->h'.get? b=some u)(heo:∃u,h'.get? e=some u)
  (new:ZG P w (upd H x o') h' x o'):Ww P w (upd H x o') h':=fun b u q=>by
 have nown:∀c y,H c=some (.own y)->c≠x:=fun c y r z=>by subst z;rw[r] at mu;exact mu
 have ntup:∀c xs,H c=some (.tup xs)->c≠x:=fun c xs r z=>by subst z;rw[r] at mu;exact mu
 by_cases hb:b=x
 ·subst hb;rw[Zs] at q;cases q;exact new
 ·rw[Zw hb] at q
  by_cases hbe:b=e
  ·have q':H b=some (.own x):=by
    rcases he with z|z
    ·exact absurd (hbe.trans z) hb
    ·rw[hbe];exact z
   rw[q] at q';cases q'
   obtain⟨v,hv⟩:=heo
   exact⟨v,by rw[hbe];exact hv⟩
  ·refine (ok b u q).stay (fun c v hc r=>k c v ?_ r) (fun c r=>by rw[Zw (nown c b r)];exact r) fun c xs r=>by rw[Zw (ntup c xs r)];exact r
   rcases hc with rfl|hc
   ·exact hbe
   ·rintro rfl
    rcases he with z|z
    ·exact nown c b hc z
    ·rw[hc] at z;cases z;exact hb rfl
end
structure Un (fs ex:List Addr)(H H':Hp)(h h':Heap):Prop where
 keep:∀b o,h.get? b=some o->H b=none->b∉fs->b∉ex->h'.get? b=some o
 slot:∀b o,h.get? b=some o->H b=none->b∈fs->b∉ex->∃sl,h'.get? b=some {o with slots:=sl}
 free:∀b o,h.get? b=some o->H b=none->b∉ex->H' b=none
 there:∀b o,h.get? b=some o->b∉ex->∃o',h'.get? b=some o'
 tups:∀b xs,H b=some (.tup xs)->H' b=some (.tup xs)
 frzs:∀b o u,H b=some (.frz o u)->H' b=some (.frz o u)
 tbls:∀b ps,H b=some (.tbl ps)->∃more,H' b=some (.tbl (ps++more))
section
variable {fs fs' ex ex':List Addr}{H H1 H2:Hp}{h h1 h2 h':Heap}{a x e:Addr}{o:HO}
theorem Un.any (u:Un fs ex H H1 h h1){b:Addr}{ob:Obj}(q:h.get? b=some ob)(n:H b=none)(hx:b∉ex):∃sl,h1.get? b=some {ob with slots:=sl}:=by
 by_cases hb:b∈fs
 ·exact u.slot b ob q n hb hx
 ·exact⟨ob.slots,u.keep b ob q n hb hx⟩
theorem Un.kept (k:∀b u,h.get? b=some u->h'.get? b=some u):Un fs ex H H h h':=
 ⟨fun b ob q _ _ _=>k b ob q,fun b ob q _ _ _=>⟨ob.slots,k b ob q⟩,fun _ _ _ n _=>n,fun b ob q _=>⟨ob,k b ob q⟩,fun _ _ q=>q,fun _ _ _ q=>q,fun _ ps q=>⟨#[],by rw[q];simp⟩⟩
theorem Un.refl:Un fs ex H H h h:=Un.kept fun _ _ q=>q
theorem Un.laid (k:∀b u,h.get? b=some u->h'.get? b=some u)(hp:h.objs.size<=a)(hn:H a=none):Un fs ex H (upd H a o) h h' where
 keep:=fun b u q _ _ _=>k b u q
 slot:=fun b u q _ _ _=>⟨u.slots,k b u q⟩
 free:=fun b u q n _=>by rw[Zw (Nat.ne_of_lt (Nat.lt_of_lt_of_le (Zp q) hp))];exact n
 there:=fun b u q _=>⟨u,k b u q⟩
 tups:=fun b xs q=>by rw[Zw (Zz q hn)];exact q
 frzs:=fun b u xs q=>by rw[Zw (Zz q hn)];exact q
 tbls:=fun b ps q=>⟨#[],by rw[Zw (Zz q hn),q];simp⟩
theorem Un.write (mu:Mut (H x))(he:e=x\/H e=some (.own x))(k:∀b u,b≠e->h.get? b=some u->h'.get? b=some u)(heo:∃u,h'.get? e=some u):Un fs ex H (upd H x o) h h':=by
 have hx:∀b,H b=none->b≠x:=fun b n z=>by subst z;rw[n] at mu;exact mu
 have hb:∀b,H b=none->b≠e:=fun b n z=>by
  subst z
  rcases he with r|r
  ·exact hx b n r
  ·rw[n] at r;cases r
 have hm:∀b u,H b=some u->¬Mut (some u)->b≠x:=fun b u q nm z=>by subst z;rw[q] at mu;exact nm mu
 refine⟨fun b u q n _ _=>k b u (hb b n) q,fun b u q n _ _=>⟨u.slots,k b u (hb b n) q⟩,fun b u q n _=>by rw[Zw (hx b n)];exact n,fun b u q _=>?_,
  fun b xs q=>by rw[Zw (hm b _ q fun z=>z)];exact q,fun b u xs q=>by rw[Zw (hm b _ q fun z=>z)];exact q,fun b ps q=>⟨#[],by rw[Zw (hm b _ q fun z=>z),q];simp⟩⟩
 by_cases hbe:b=e
 ·subst hbe;exact heo
 ·exact⟨u,k b u hbe q⟩
end
def trk (h:Heap)(H:Hp):List Addr:=(List.range h.objs.size).filter fun a=>(H a).isSome
def Xx (h:Heap)(H:Hp):Heap:=PySem.W.hideAll h (trk h H)
theorem ZbC (h:Heap)(H:Hp):(Xx h H).objs.size=h.objs.size:=PySem.W.hideAll_size _ _
theorem Zc0 {h:Heap}{H:Hp}{b:Addr}{o:Obj}(e:h.get? b=some o)(n:H b=none):(Xx h H).get? b=some o:=
 PySem.W.hideAll_get _ e fun hm=>by
  have q:(H b).isSome=true:=(List.mem_filter.mp hm).2
  rw[n] at q;simp at q
theorem ZdX {h:Heap}{H:Hp}{b:Addr}{o:Obj}(e:(Xx h H).get? b=some o):h.get? b=some o/\H b=none:=by
 have e':h.get? b=some o:=PySem.W.of_hideAll (trk h H) e
 refine⟨e',?_⟩
 cases q:H b with
 |none=>rfl
 |some x=>
  have hm:b∈trk h H:=List.mem_filter.mpr ⟨List.mem_range.mpr (Zp e'),by simp[q]⟩
  have z:(Xx h H).get? b=none:=PySem.W.hideAll_none (trk h H) hm
  rw[z] at e;cases e
structure Mod (K:PySem.W.Frag)(mg:Str->Option Value)(base:Heap):Prop where
 kin:K.In base
 glob:base.Ns mainGlobals mg
 blt:∃mb,base.Ns builtinsNs mb/\∀x:Str,x ≠ "__name__"->mb x=bootBuiltins x
 nolimit:base.NoLimit
structure Cx where
 prog:Program
 w:World
 K:PySem.W.Frag
 mg:Str->Option Value
 base:Heap
 A:Around
 N:List Str
 s₀:Shared
 H₀:Hp
 env:Env
 outer:List Env
 stack:List Env
 ex:List Addr
 fn:Str->Bool
 calm:Bool
 pn:List (Addr×Obj)
 xe:Value->Shared->Prop
def Uz (l:List Env):List Addr:=l.filterMap (·.frame)
abbrev Cx.fs (X:Cx):List Addr:=Uz X.outer
def Vis (sc:Scope)(x:Str):Prop:=sc.names.lookup x=some .local\/sc.names.lookup x=some .cell\/sc.names.lookup x=some .free
def Loc (sc:Scope)(x:Str):Prop:=sc.names.lookup x=some .local\/sc.names.lookup x=some .cell
def Look (env:Env)(h:Heap)(m:Str->Option Value)(x:Str)(u:Value):Prop:=
 (env.kindOf x=some .local/\m x=some u)\/((env.kindOf x=some .cell\/env.kindOf x=some .free)/\∃c,env.cells.lookup x=some c/\h.IsCell c (some u))
structure Cx.Ok (X:Cx):Prop where
 mod:Mod X.K X.mg X.base
 kind:X.env.scope.kind=.function
 glob:X.env.globals=mainGlobals
 blt:X.env.builtins=builtinsNs
 above:X.s₀.heap.objs.size<=X.env.locals
 inj:∀x y c,X.env.cells.lookup x=some c->X.env.cells.lookup y=some c->x=y
 has:∀x,(X.env.kindOf x=some .cell\/X.env.kindOf x=some .free)->∃c,X.env.cells.lookup x=some c
 cab:∀x c,X.fn x=true->X.env.cells.lookup x=some c->X.s₀.heap.objs.size<=c
 hd:X.calm=true->X.A.handled=none
 frames:X.A.frames=some X.stack
 stk:X.stack=X.outer\/(X.stack=X.env::X.outer/\X.env.frame=some X.env.locals)
 exf:∀b∈X.ex,b≠X.env.locals/\∀x c,X.env.cells.lookup x=some c->c≠b
 bs:∀b o,X.base.get? b=some o->X.s₀.heap.get? b=some o/\X.H₀ b=none
 bsz:X.base.objs.size<=X.s₀.heap.objs.size
 noex:∀b o,X.base.get? b=some o->b∉X.ex
 exfs:∀b∈X.ex,b∉X.fs
 funs:X.s₀.heap.FunFrames X.base X.outer
 frf:∀b∈X.fs,X.H₀ b=none
structure Inv (X:Cx)(pins:List (Addr×Obj))(σ:List (Option V))(H:Hp)(s:Shared):Prop where
 ok:X.Ok
 os:s.os=X.s₀.os
 bare:AllBare s.gens
 base:Un X.fs X.ex X.H₀ H X.s₀.heap s.heap
 loc:∃m,s.heap.Ns X.env.locals m/\∀(i:Nat) (x:Str) (v:V),X.N[i]?=some x->σ[i]?=some (some v)->Vis X.env.scope x->∃u,RelV v u/\Look X.env s.heap m x u
 cell:∀x c,X.env.cells.lookup x=some c->∃v,s.heap.IsCell c v
 free:H X.env.locals=none
 freeC:∀x c,X.env.cells.lookup x=some c->H c=none
 pin:∀p∈X.pn++pins,s.heap.get? p.1=some p.2/\H p.1=none/\p.1≠X.env.locals/\p.1∉X.fs/\∀v,p.2.data≠.cell v
 hok:Ww X.prog X.w H s.heap
 len:σ.length=X.N.length
section
variable {X:Cx}{pins:List (Addr×Obj)}{σ:List (Option V)}{H H':Hp}{s:Shared}{h':Heap}
theorem Cx.Ok.nofr (ok:X.Ok){b:Addr}{o:Obj}(e:X.base.get? b=some o):b∉X.fs:=fun hb=>by
 have:=(ok.funs.mem hb).1
 rw[e] at this;cases this
theorem Inv.bs (I:Inv X pins σ H s):∀b o,X.base.get? b=some o->s.heap.get? b=some o/\H b=none:=fun b o e=>
 ⟨I.base.keep b o (I.ok.bs b o e).1 (I.ok.bs b o e).2 (I.ok.nofr e) (I.ok.noex b o e),I.base.free b o (I.ok.bs b o e).1 (I.ok.bs b o e).2 (I.ok.noex b o e)⟩
theorem Inv.bk (I:Inv X pins σ H s):∀b o,X.base.get? b=some o->s.heap.get? b=some o:=fun b o e=>(I.bs b o e).1
theorem Inv.mod (I:Inv X pins σ H s):Mod X.K X.mg X.base:=I.ok.mod
theorem Inv.kIn (I:Inv X pins σ H s):X.K.In s.heap:=I.ok.mod.kin.keeps I.bk
theorem Inv.lt (I:Inv X pins σ H s):X.env.locals<s.heap.objs.size:=let ⟨_,hn,_⟩:=I.loc;hn.lt
theorem Inv.sz (I:Inv X pins σ H s):X.s₀.heap.objs.size<=s.heap.objs.size:=Nat.le_trans I.ok.above (Nat.le_of_lt I.lt)
theorem Inv.nofs (I:Inv X pins σ H s){a:Addr}(h:s.heap.objs.size<=a):a∉X.fs:=fun hb=>by
 obtain⟨_,o,ho,_⟩:=I.ok.funs.mem hb
 exact absurd (Nat.lt_of_lt_of_le (Zp ho) (Nat.le_trans I.sz h)) (Nat.lt_irrefl _)
theorem Inv.cne (I:Inv X pins σ H s):∀x c,X.env.cells.lookup x=some c->c≠X.env.locals:=fun x c e z=>by
 obtain⟨v,o,ho,hd⟩:=I.cell x c e
 obtain⟨m,⟨o',es,ep,ho',hd',_⟩,_⟩:=I.loc
 rw[z,ho'] at ho;cases ho;rw[hd'] at hd;cases hd
theorem Inv.funs (I:Inv X pins σ H s):s.heap.FunFrames X.base X.outer:=by
 have all:∀(l:List Env),(∀b∈Uz l,b∈X.fs)->X.s₀.heap.FunFrames X.base l->s.heap.FunFrames X.base l:=by
  intro l
  induction l with
  |nil=>intro _ _;trivial
  |cons env r ih=>
   intro hs hl
   obtain⟨hk,⟨L,o,hf,hn,ho,hd⟩,hr⟩:=hl
   have hL:L∈X.fs:=hs L (by unfold Uz;rw[List.filterMap_cons,hf];exact List.mem_cons_self)
   obtain⟨sl,e⟩:=I.base.slot L o ho (I.ok.frf L hL) hL fun z=>I.ok.exfs L z hL
   exact⟨hk,⟨L,_,hf,hn,e,hd⟩,ih (fun b hb=>hs b (by unfold Uz;rw[List.filterMap_cons,hf];exact List.mem_cons_of_mem _ hb)) hr⟩
 exact all X.outer (fun _ hb=>hb) I.ok.funs
theorem Inv.stack (I:Inv X pins σ H s):s.heap.FunFrames X.base X.stack:=by
 rcases I.ok.stk with e|⟨e,hf⟩
 ·rw[e];exact I.funs
 ·rw[e]
  obtain⟨m,hn,_⟩:=I.loc
  refine .cons (by rw[I.ok.kind];decide) hf hn ?_ I.funs
  exact Heap.get?_none_of_le (Nat.le_trans I.ok.bsz I.ok.above)
theorem Inv.stkSub (I:Inv X pins σ H s):∀b∈Uz X.stack,b∈X.env.locals::X.fs:=fun b hb=>by
 rcases I.ok.stk with e|⟨e,hf⟩
 ·rw[e] at hb;exact List.mem_cons_of_mem _ hb
 ·rw[e] at hb
  unfold Uz at hb
  rw[List.filterMap_cons,hf] at hb
  exact hb
theorem Inv.stkFree (I:Inv X pins σ H s):∀b∈Uz X.stack,H b=none:=fun b hb=>by
 rcases List.mem_cons.mp (I.stkSub b hb) with e|hb
 ·rw[e];exact I.free
 ·obtain⟨_,o,ho,_⟩:=I.ok.funs.mem hb
  exact I.base.free b o ho (I.ok.frf b hb) fun z=>I.ok.exfs b z hb
theorem Inv.step {g':Array GenState}{t':Nat}{d':Drawn}{ch:List Addr}(I:Inv X pins σ H s)
  (hch:∀b∈ch,(b∈X.ex\/X.s₀.heap.objs.size<=b)/\b≠X.env.locals/\(∀x c,X.env.cells.lookup x=some c->c≠b)/\∀p∈X.pn++pins,p.1≠b)
  (keep:∀b o,b≠X.env.locals->b∉X.fs->b∉ch->s.heap.get? b=some o->H b=none->h'.get? b=some o)
  (slot:∀b o,b≠X.env.locals->b∈X.fs->b∉ch->s.heap.get? b=some o->H b=none->∃sl,h'.get? b=some {o with slots:=sl}) (free:∀b o,b∉ch->s.heap.get? b=some o->H b=none->H' b=none)
  (there:∀b o,b∉ch->s.heap.get? b=some o->∃o',h'.get? b=some o')
  (tups:∀b xs,H b=some (.tup xs)->H' b=some (.tup xs)) (frzs:∀b o u,H b=some (.frz o u)->H' b=some (.frz o u)) (tbls:∀b ps,H b=some (.tbl ps)->∃more,H' b=some (.tbl (ps++more)))
  (ns:∀m,s.heap.Ns X.env.locals m->h'.Ns X.env.locals m) (hok:Ww X.prog X.w H' h') (hg:AllBare g') :
  Inv X pins σ H' {s with heap:=h',gens:=g',drawn:=d',toks:=t'}:=by
 have neL:∀b o,X.s₀.heap.get? b=some o->b≠X.env.locals:=fun b o e=>Nat.ne_of_lt (Nat.lt_of_lt_of_le (Zp e) I.ok.above)
 have neC:∀b o,X.s₀.heap.get? b=some o->b∉X.ex->b∉ch:=fun b o e hx hb=>by
  rcases (hch b hb).1 with z|z
  ·exact hx z
  ·exact absurd (Nat.lt_of_lt_of_le (Zp e) z) (Nat.lt_irrefl _)
 have cellK:∀x c,X.env.cells.lookup x=some c->∀v,s.heap.IsCell c v->h'.IsCell c v:=fun x c e v ⟨o,ho,hd⟩=>by
  have nch:c∉ch:=fun z=>(hch c z).2.2.1 x c e rfl
  by_cases hc:c∈X.fs
  ·obtain⟨sl,q⟩:=slot c o (I.cne x c e) hc nch ho (I.freeC x c e)
   exact⟨_,q,hd⟩
  ·exact⟨o,keep c o (I.cne x c e) hc nch ho (I.freeC x c e),hd⟩
 refine⟨I.ok,I.os,hg,⟨fun b o e n hb hx=>?_,fun b o e n hb hx=>?_,fun b o e n hx=>?_,fun b o e hx=>?_,fun b xs e=>tups b xs (I.base.tups b xs e),fun b o xs e=>frzs b o xs (I.base.frzs b o xs e),fun b ps e=>?_⟩,?_,fun x c e=>?_,?_,fun x c e=>?_,fun p hp=>?_,hok,I.len⟩
 ·exact keep b o (neL b o e) hb (neC b o e hx) (I.base.keep b o e n hb hx) (I.base.free b o e n hx)
 ·obtain⟨sl,e1⟩:=I.base.slot b o e n hb hx
  obtain⟨sl',e2⟩:=slot b _ (neL b o e) hb (neC b o e hx) e1 (I.base.free b o e n hx)
  exact⟨sl',e2⟩
 ·obtain⟨o',e1⟩:=I.base.there b o e hx
  exact free b o' (neC b o e hx) e1 (I.base.free b o e n hx)
 ·obtain⟨o',e1⟩:=I.base.there b o e hx
  exact there b o' (neC b o e hx) e1
 ·obtain⟨m1,e1⟩:=I.base.tbls b ps e
  obtain⟨m2,e2⟩:=tbls b _ e1
  exact⟨m1++m2,by rw[e2,Array.append_assoc]⟩
 ·obtain⟨m,hn,hl⟩:=I.loc
  refine⟨m,ns m hn,fun i x v e1 e2 e3=>?_⟩
  obtain⟨u,r,l⟩:=hl i x v e1 e2 e3
  refine⟨u,r,?_⟩
  rcases l with l|⟨k,c,e,z⟩
  ·exact .inl l
  ·exact .inr ⟨k,c,e,cellK x c e _ z⟩
 ·obtain⟨v,z⟩:=I.cell x c e
  exact⟨v,cellK x c e v z⟩
 ·obtain⟨m,⟨o,_,_,ho,_⟩,_⟩:=I.loc
  exact free _ o (fun z=>(hch _ z).2.1 rfl) ho I.free
 ·obtain⟨v,o,ho,hd⟩:=I.cell x c e
  exact free c o (fun z=>(hch c z).2.2.1 x c e rfl) ho (I.freeC x c e)
 ·obtain⟨e,n,ne,nf,d⟩:=I.pin p hp
  have nch:p.1∉ch:=fun z=>(hch p.1 z).2.2.2 p hp rfl
  exact⟨keep p.1 p.2 ne nf nch e n,free p.1 p.2 nch e n,ne,nf,d⟩
theorem Inv.un {t':Nat}(I:Inv X pins σ H s)(u:Un X.fs [] H H' s.heap h')(hok:Ww X.prog X.w H' h'):Inv X pins σ H' {s with heap:=h',toks:=t'}:=by
 obtain⟨m,⟨o,es,ep,ho,r⟩,_⟩:=id I.loc
 obtain⟨sl,hL⟩:=u.any ho I.free (by simp)
 exact I.step (g':=s.gens) (d':=s.drawn) (ch:=[]) (fun _ z=>nomatch z) (fun b o _ hb _ e n=>u.keep b o e n hb (by simp)) (fun b o _ hb _ e n=>u.slot b o e n hb (by simp)) (fun b o _ e n=>u.free b o e n (by simp)) (fun b o _ e=>u.there b o e (by simp)) u.tups u.frzs u.tbls (fun m' hm=>by
  obtain⟨o',es',ep',ho',r'⟩:=hm
  rw[ho] at ho';cases ho'
  exact⟨_,es',ep',hL,r'⟩) hok I.bare
theorem Inv.call {g':Array GenState}{t':Nat}{d':Drawn}{ch:List Addr}(I:Inv X pins σ H s)(u:Un (Uz X.stack) ch H H' s.heap h')(hok:Ww X.prog X.w H' h')(hg:AllBare g')
  (hch:∀b∈ch,(b∈X.ex\/X.s₀.heap.objs.size<=b)/\b≠X.env.locals/\(∀x c,X.env.cells.lookup x=some c->c≠b)/\∀p∈X.pn++pins,p.1≠b) :
  Inv X pins σ H' {s with heap:=h',gens:=g',drawn:=d',toks:=t'}:=by
 obtain⟨m,⟨o,es,ep,ho,r⟩,_⟩:=id I.loc
 obtain⟨sl,hL⟩:=u.any ho I.free fun z=>(hch _ z).2.1 rfl
 exact I.step (ch:=ch) hch (fun b o hL hb hc e n=>u.keep b o e n (fun z=>(List.mem_cons.mp (I.stkSub b z)).elim hL hb) hc) (fun b o _ _ hc e n=>u.any e n hc) (fun b o hc e n=>u.free b o e n hc) (fun b o hc e=>u.there b o e hc) u.tups u.frzs u.tbls (fun m' hm=>by
  obtain⟨o',es',ep',ho',r'⟩:=hm
  rw[ho] at ho';cases ho'
  exact⟨_,es',ep',hL,r'⟩) hok hg
theorem Inv.turned {t':Nat}{it:Addr}(I:Inv X pins σ H s)(k:∀b o,b≠it->s.heap.get? b=some o->h'.get? b=some o)(hn:H it=none)(hL:it≠X.env.locals)
  (h1:it∈X.ex\/X.s₀.heap.objs.size<=it) (h2:∀x c,X.env.cells.lookup x=some c->c≠it) (h3:∀p∈X.pn++pins,p.1≠it):Inv X pins σ H {s with heap:=h',toks:=t'}:=by
 have nit:∀b u,H b=some u->b≠it:=fun b u e z=>by rw[z,hn] at e;cases e
 refine I.step (g':=s.gens) (d':=s.drawn) (ch:=[it]) (fun b hb=>?_) (fun b o _ _ hc e _=>k b o (fun z=>hc (by simp[z])) e) (fun b o _ _ hc e _=>⟨o.slots,k b o (fun z=>hc (by simp[z])) e⟩) (fun _ _ _ _ n=>n)
  (fun b o hc e=>⟨o,k b o (fun z=>hc (by simp[z])) e⟩) (fun _ _ e=>e) (fun _ _ _ e=>e) (fun b ps e=>⟨#[],by rw[e];simp⟩) (fun m hm=>?_) (fun b u e=>?_) I.bare
 ·have e:b=it:=by simpa using hb
  subst e
  exact⟨h1,hL,h2,h3⟩
 ·obtain⟨o,es,ep,ho,r⟩:=hm
  exact⟨o,es,ep,k _ o (Ne.symm hL) ho,r⟩
 ·refine (I.hok b u e).stay (fun c v hc q=>k c v ?_ q) (fun _ q=>q) fun _ _ q=>q
  rcases hc with z|z
  ·rw[z];exact nit b u e
  ·exact nit c _ z
theorem Inv.tok (I:Inv X pins σ H s)(t:Nat):Inv X pins σ H {s with toks:=t}:=I.un (h':=s.heap) (t':=t) Un.refl I.hok
theorem Inv.kept {t':Nat}(I:Inv X pins σ H s)(k:∀b u,s.heap.get? b=some u->h'.get? b=some u):Inv X pins σ H {s with heap:=h',toks:=t'}:=I.un (Un.kept k) (I.hok.kept k)
theorem Inv.laid {a:Addr}{o:HO}{t':Nat}(I:Inv X pins σ H s)(k:∀b u,s.heap.get? b=some u->h'.get? b=some u)(hp:s.heap.objs.size<=a)(new:ZG X.prog X.w (upd H a o) h' a o) :
  Inv X pins σ (upd H a o) {s with heap:=h',toks:=t'}:=I.un (Un.laid k hp (I.hok.fresh hp)) (I.hok.laid k hp new)
theorem Inv.write {x e:Addr}{o:HO}{t':Nat}(I:Inv X pins σ H s)(mu:Mut (H x))(he:e=x\/H e=some (.own x))(k:∀b u,b≠e->s.heap.get? b=some u->h'.get? b=some u)(heo:∃u,h'.get? e=some u)
  (new:ZG X.prog X.w (upd H x o) h' x o):Inv X pins σ (upd H x o) {s with heap:=h',toks:=t'}:=I.un (Un.write mu he k heo) (I.hok.write mu he k heo new)
theorem Inv.weak {σ':List (Option V)}(I:Inv X pins σ H s)(hl:σ'.length=σ.length)(w:∀(i:Nat) v,σ'[i]?=some (some v)->σ[i]?=some (some v)):Inv X pins σ' H s:=
 ⟨I.ok,I.os,I.bare,I.base,let ⟨m,hn,hl'⟩:=I.loc;⟨m,hn,fun i x v e1 e2 e3=>hl' i x v e1 (w i v e2) e3⟩,I.cell,I.free,I.freeC,I.pin,I.hok,hl.trans I.len⟩
theorem Inv.pins_of {pins':List (Addr×Obj)}(I:Inv X pins σ H s)(h:∀p∈pins',s.heap.get? p.1=some p.2/\H p.1=none/\p.1≠X.env.locals/\p.1∉X.fs/\∀v,p.2.data≠.cell v):Inv X pins' σ H s:=
 ⟨I.ok,I.os,I.bare,I.base,I.loc,I.cell,I.free,I.freeC,fun p hp=>(List.mem_append.mp hp).elim (fun z=>I.pin p (List.mem_append_left _ z)) (h p),I.hok,I.len⟩
theorem J9 {N:List Str}(hN:N.Nodup){i j:Nat}{x:Str}(a:N[i]?=some x)(b:N[j]?=some x):i=j:=by
 obtain⟨h1,e1⟩:=List.getElem?_eq_some_iff.mp a
 obtain⟨h2,e2⟩:=List.getElem?_eq_some_iff.mp b
 exact (List.getElem_inj hN).mp (e1.trans e2.symm)
theorem Za7 {M:Model}{A:Around}{E:Value->Shared->Prop}{i:Nat}{x:Str}{v:V}{u:Value}{Q:Unit->Shared->Prop}(I:Inv X pins σ H s)(hN:X.N.Nodup)(hi:X.N[i]?=some x)(hx:Loc X.env.scope x)(r:RelV v u)
  (h:∀s',Inv X pins (σ.set i (some v)) H s'->(∃a,Heap.SameBut a s.heap s'.heap/\(a=X.env.locals\/X.env.cells.lookup x=some a))->Q () s') (hf:X.fn x=true\/X.env.scope.names.lookup x=some .local:=by first|exact .inl rfl|exact .inr rfl|assumption):wpAny M A (storeName X.env x u) Q E s:=by
 obtain⟨m,hn,hl⟩:=id I.loc
 have hcls:(X.env.scope.kind == .class || (X.env.scope.kind == .module && X.env.locals != X.env.globals))=false:=by rw[I.ok.kind];rfl
 have hiσ:i < σ.length:=by rw[I.len];exact (List.getElem?_eq_some_iff.mp hi).1
 have cne:=I.cne
 have tracked:∀{a:Addr}{h':Heap},(∃o,s.heap.get? a=some o/\H a=none)->Heap.SameBut a s.heap h'->Ww X.prog X.w H h':=fun {a h'} ha hs b ob e=>by
  obtain⟨_,_,hfree⟩:=ha
  refine (I.hok b ob e).stay (fun c w' hc q=>(hs.2 c ?_).trans q) (fun _ q=>q) fun _ _ q=>q
  rintro rfl
  rcases hc with rfl|hc
  ·rw[hfree] at e;cases e
  ·rw[hfree] at hc;cases hc
 rcases hx with hk|hk
 ·refine wpAny_storeName_local hk hn (fun h' hn' hs=>?_) hcls
  obtain⟨oL,_,_,hoL,_⟩:=id hn
  refine h _ ⟨I.ok,I.os,I.bare,⟨fun b o e n hb hx=>?_,fun b o e n hb hx=>?_,I.base.free,fun b o e hx=>?_,I.base.tups,I.base.frzs,I.base.tbls⟩,⟨_,hn',fun j y v' e1 e2 e3=>?_⟩,fun y c e=>?_,I.free,I.freeC,fun p hp=>?_,tracked ⟨oL,hoL,I.free⟩ hs,by simpa using I.len⟩ ⟨_,hs,.inl rfl⟩
  ·exact (hs.2 b (Nat.ne_of_lt (Nat.lt_of_lt_of_le (Zp e) I.ok.above))).trans (I.base.keep b o e n hb hx)
  ·obtain⟨sl,e1⟩:=I.base.slot b o e n hb hx
   exact⟨sl,(hs.2 b (Nat.ne_of_lt (Nat.lt_of_lt_of_le (Zp e) I.ok.above))).trans e1⟩
  ·obtain⟨o',e1⟩:=I.base.there b o e hx
   exact⟨o',(hs.2 b (Nat.ne_of_lt (Nat.lt_of_lt_of_le (Zp e) I.ok.above))).trans e1⟩
  ·by_cases hj:j=i
   ·subst hj
    rw[hi] at e1;cases e1
    rw[List.getElem?_set_self hiσ] at e2
    cases e2
    exact⟨u,r,.inl ⟨hk,by simp⟩⟩
   ·rw[List.getElem?_set_ne (Ne.symm hj)] at e2
    obtain⟨u',r',q⟩:=hl j y v' e1 e2 e3
    refine⟨u',r',?_⟩
    rcases q with ⟨k,e⟩|⟨k,c,e,z⟩
    ·refine .inl ⟨k,?_⟩
     have:y≠x:=fun e=>hj (J9 hN e1 (e▸hi))
     simp[this,e]
    ·exact .inr ⟨k,c,e,z.sameBut hs (cne y c e)⟩
  ·obtain⟨w',z⟩:=I.cell y c e
   exact⟨w',z.sameBut hs (cne y c e)⟩
  ·obtain⟨e,n,ne,nf,d⟩:=I.pin p hp
   exact⟨(hs.2 p.1 ne).trans e,n,ne,nf,d⟩
 ·have hfn:X.fn x=true:=by
   rcases hf with z|z
   ·exact z
   ·rw[z] at hk;cases hk
  obtain⟨c,hc⟩:=I.ok.has x (.inl hk)
  obtain⟨w',z⟩:=I.cell x c hc
  refine wpAny_storeName_cell I.ok.kind hk hc z (fun h' hc' hs=>?_)
  obtain⟨oc,hoc,hocd⟩:=id z
  refine h {s with heap:=h'} ⟨I.ok,I.os,I.bare,⟨fun b o e n hb hx=>?_,fun b o e n hb hx=>?_,I.base.free,fun b o e hx=>?_,I.base.tups,I.base.frzs,I.base.tbls⟩,⟨m,hn.sameBut hs (Ne.symm (cne x c hc)),fun j y v' e1 e2 e3=>?_⟩,fun y c' e=>?_,I.free,I.freeC,fun p hp=>?_,tracked ⟨oc,hoc,I.freeC x c hc⟩ hs,by simpa using I.len⟩ ⟨c,hs,.inr hc⟩
  ·exact (hs.2 b (Nat.ne_of_lt (Nat.lt_of_lt_of_le (Zp e) (I.ok.cab x c hfn hc)))).trans (I.base.keep b o e n hb hx)
  ·obtain⟨sl,e1⟩:=I.base.slot b o e n hb hx
   exact⟨sl,(hs.2 b (Nat.ne_of_lt (Nat.lt_of_lt_of_le (Zp e) (I.ok.cab x c hfn hc)))).trans e1⟩
  ·obtain⟨o',e1⟩:=I.base.there b o e hx
   exact⟨o',(hs.2 b (Nat.ne_of_lt (Nat.lt_of_lt_of_le (Zp e) (I.ok.cab x c hfn hc)))).trans e1⟩
  ·by_cases hj:j=i
   ·subst hj
    rw[hi] at e1;cases e1
    rw[List.getElem?_set_self hiσ] at e2
    cases e2
    exact⟨u,r,.inr ⟨.inl hk,c,hc,hc'⟩⟩
   ·rw[List.getElem?_set_ne (Ne.symm hj)] at e2
    obtain⟨u',r',q⟩:=hl j y v' e1 e2 e3
    refine⟨u',r',?_⟩
    rcases q with q|⟨k,c',e,z'⟩
    ·exact .inl q
    ·refine .inr ⟨k,c',e,z'.sameBut hs ?_⟩
     rintro rfl
     exact hj (J9 hN e1 (I.ok.inj _ _ _ e hc▸hi))
  ·by_cases hcc:c'=c
   ·subst hcc;exact⟨_,hc'⟩
   ·obtain⟨w2,z2⟩:=I.cell y c' e
    exact⟨w2,z2.sameBut hs hcc⟩
  ·obtain⟨e,n,ne,nf,d⟩:=I.pin p hp
   refine⟨(hs.2 p.1 ?_).trans e,n,ne,nf,d⟩
   intro q
   rw[q,hoc] at e
   have q':oc=p.2:=Option.some.inj e
   exact d w' (by rw[<-q'];exact hocd)
theorem Wf {M:Model}{A:Around}{E:Value->Shared->Prop}{i:Nat}{x:Str}{v:V}{u:Value}{Q:Unit->Shared->Prop}(I:Inv X pins σ H s)(hN:X.N.Nodup)(hi:X.N[i]?=some x)(hx:Loc X.env.scope x)(r:RelV v u)
  (h:∀s',Inv X pins (σ.set i (some v)) H s'->Q () s') (hf:X.fn x=true\/X.env.scope.names.lookup x=some .local:=by first|exact .inl rfl|exact .inr rfl|assumption):wpAny M A (storeName X.env x u) Q E s:=
 Za7 I hN hi hx r (fun s' I' _=>h s' I') hf
theorem Inv.call' {s':Shared}{ch:List Addr}(I:Inv X pins σ H s)(ho:s'.os=s.os)(u:Un (Uz X.stack) ch H H' s.heap s'.heap)(hok:Ww X.prog X.w H' s'.heap)(hg:AllBare s'.gens)
  (hch:∀b∈ch,(b∈X.ex\/X.s₀.heap.objs.size<=b)/\b≠X.env.locals/\(∀x c,X.env.cells.lookup x=some c->c≠b)/\∀p∈X.pn++pins,p.1≠b):Inv X pins σ H' s':=by
 obtain⟨h',g',d',t',o'⟩:=s'
 have e:o'=s.os:=ho
 subst e
 exact I.call (g':=g') (t':=t') (d':=d') u hok hg hch
end
abbrev XK:=Value->Option Addr->Hp->Prop
abbrev St:=List (Option V)
abbrev VK:=V->Hp->Prop
abbrev TE:=St->Hp->VK->Prop
abbrev TT:=St->Hp->(Bool->Hp->Prop)->Prop
abbrev TA:=St->Hp->(List V->Hp->Prop)->Prop
structure Wx where
 nx:St->Hp->Prop
 rt:VK
 bk:St->Hp->Prop:=fun _ _=>False
 ct:St->Hp->Prop:=fun _ _=>False
abbrev TS:=Wx->St->Hp->Prop
def EP (X:Cx)(pins:List (Addr×Obj))(σ:St)(Q:VK)(u:Value)(s':Shared):Prop:=∃v H',Inv X pins σ H' s'/\RelV v u/\Q v H'
def TP (X:Cx)(pins:List (Addr×Obj))(σ:St)(Q:Bool->Hp->Prop)(b:Bool)(s':Shared):Prop:=∃H',Inv X pins σ H' s'/\Q b H'
def AP (X:Cx)(pins:List (Addr×Obj))(σ:St)(Q:List V->Hp->Prop)(us:List Value)(s':Shared):Prop:=∃vs H',Inv X pins σ H' s'/\ZC vs us/\Q vs H'
def SP (X:Cx)(pins:List (Addr×Obj))(D:Wx)(f:Flow)(s':Shared):Prop:=
 match f with
 | .next=>∃ σ' H',Inv X pins σ' H' s'/\D.nx σ' H'
 | .brk=>∃ σ' H',Inv X pins σ' H' s'/\D.bk σ' H'
 | .cont=>∃ σ' H',Inv X pins σ' H' s'/\D.ct σ' H'
 | .ret u=>∃v σ' H',Inv X pins σ' H' s'/\RelV v u/\D.rt v H'
def PE (X:Cx)(e:Expr)(t:TE):Prop:=
 ∀(pins:List (Addr×Obj)) (s:Shared) (σ:St) (H:Hp) (Q:VK),Inv X pins σ H s->t σ H Q->wpAny (model X.prog X.w) X.A (eval e X.env) (EP X pins σ Q) X.xe s
def PT (X:Cx)(e:Expr)(t:TT):Prop:=
 ∀(pins:List (Addr×Obj)) (s:Shared) (σ:St) (H:Hp) (Q:Bool->Hp->Prop),Inv X pins σ H s->t σ H Q->wpAny (model X.prog X.w) X.A (isTrue e X.env (eval e X.env)) (TP X pins σ Q) X.xe s
def PW (X:Cx)(e:Expr)(t:TT):Prop:=
 ∀(whole:Sem Value) (pins:List (Addr×Obj)) (s:Shared) (σ:St) (H:Hp) (Q:Bool->Hp->Prop),Inv X pins σ H s->t σ H Q->wpAny (model X.prog X.w) X.A (isTrue e X.env whole) (TP X pins σ Q) X.xe s
theorem PW.pt {X:Cx}{e:Expr}{t:TT}(h:PW X e t):PT X e t:=h _
def PA (X:Cx)(es:List Expr)(t:TA):Prop:=
 ∀(pos:Pos) (pins:List (Addr×Obj)) (s:Shared) (σ:St) (H:Hp) (Q:List V->Hp->Prop),Inv X pins σ H s->t σ H Q->wpAny (model X.prog X.w) X.A (spliced (backTo pos (starEach es X.env))) (AP X pins σ Q) X.xe s
def PS (X:Cx)(st:Stmt)(t:TS):Prop:=
 ∀(pins:List (Addr×Obj)) (s:Shared) (σ:St) (H:Hp) (D:Wx),Inv X pins σ H s->t D σ H->wpAny (model X.prog X.w) X.A (exec st X.env) (SP X pins D) X.xe s
def X6 (X:Cx)(st:List Stmt)(t:TS):Prop:=
 ∀(pins:List (Addr×Obj)) (s:Shared) (σ:St) (H:Hp) (D:Wx),Inv X pins σ H s->t D σ H->wpAny (model X.prog X.w) X.A (execs st X.env) (SP X pins D) X.xe s
theorem ZT {α:Type}{t:Sem α}{Q Q':α->Shared->Prop}{M:Model}{A:Around}{E:Value->Shared->Prop}{s:Shared}(h:wpAny M A t Q E s)(hQ:∀a s,Q a s->Q' a s):wpAny M A t Q' E s:=wpAny_mono h hQ fun _ _ x=>x
section
variable {X:Cx}
def JQ (i:Nat):TE:=fun σ H Q=>∃v,σ[i]?=some (some v)/\Q v H
def tC (v:V):TE:=fun _ H Q=>Q v H
theorem Zfe {i:Nat}{x:Str}{pos:Pos}(hN:X.N[i]?=some x)(hv:Vis X.env.scope x)(hd:(x == ("__debug__":Str))=false:=by decide)(hcd:(x == ("__classdict__":Str))=false:=by decide):PE X (.Name x pos) (JQ i):=by
 intro pins s σ H Q I h
 obtain⟨v,e,h⟩:=h
 obtain⟨m,hn,hl⟩:=I.loc
 obtain⟨u,r,l⟩:=hl i x v hN e hv
 have fin:EP X pins σ Q u s:=⟨v,H,I,r,h⟩
 rcases l with ⟨hk,hm⟩|⟨hk,c,hc,hcell⟩
 ·exact wpAny_Name (wpAny_loadName_local I.ok.kind hk hn hm fin) hd
 ·rcases hk with hk|hk
  ·exact wpAny_Name (wpAny_loadName_cell I.ok.kind hk hc hcell fin) hd
  ·exact wpAny_Name (wpAny_loadName_free I.ok.kind hk hc hcell fin hcd) hd
theorem Zu {i j pos}:PE X (.Constant (.int i) j pos) (tC (.int i)):=fun _ _ _ H _ I h=>wpAny_Constant_int ⟨.int i,H,I.tok _,⟨_,rfl⟩,h⟩
theorem XM {b j pos}:PE X (.Constant (.bool b) j pos) (tC (.bl b)):=fun _ _ _ H _ I h=>Constant_bool ⟨.bl b,H,I,rfl,h⟩
theorem J8 {j pos}:PE X (.Constant .none j pos) (tC .non):=fun _ _ _ H _ I h=>Constant_none ⟨.non,H,I,rfl,h⟩
theorem YL {x j pos}:PE X (.Constant (.str x) j pos) (tC (.str x)):=fun _ _ _ H _ I h=>Calls.Constant_str ⟨.str x,H,I.tok _,⟨_,rfl⟩,h⟩
def Gl (X:Cx)(x:Str):Prop:=X.env.kindOf x=some .globalImplicit
theorem WA {E:Value->Shared->Prop}{pins:List (Addr×Obj)}{s:Shared}{σ:St}{H:Hp}{x:Str}{u:Value}{pos:Pos}{Q:Value->Shared->Prop}(I:Inv X pins σ H s)(hg:Gl X x)(hm:X.mg x=some u)(h:Q u s)
  (hd:(x == ("__debug__":Str))=false:=by decide):wpAny (model X.prog X.w) X.A (eval (.Name x pos) X.env) Q E s:=
 Calls.Name_function_global I.ok.kind hg (Calls.loadGlobal_global (by rw[I.ok.glob];exact I.mod.glob.keeps I.bk) hm h) hd
theorem Xb {E:Value->Shared->Prop}{pins:List (Addr×Obj)}{s:Shared}{σ:St}{H:Hp}{x:Str}{u:Value}{pos:Pos}{Q:Value->Shared->Prop}(I:Inv X pins σ H s)(hg:Gl X x)(hm:X.mg x=none)(hv:bootBuiltins x=some u)(h:Q u s)
  (hn:x ≠ "__name__":=by decide) (hd:(x == ("__debug__":Str))=false:=by decide):wpAny (model X.prog X.w) X.A (eval (.Name x pos) X.env) Q E s:=by
 obtain⟨mb,h1,h2⟩:=I.mod.blt
 exact Calls.Name_function_global I.ok.kind hg (Calls.loadGlobal_builtin (by rw[I.ok.glob];exact I.mod.glob.keeps I.bk) hm (by rw[I.ok.blt];exact h1.keeps I.bk) ((h2 x hn).trans hv) h) hd
theorem Vi {x:Str}{v:V}{u:Value}{pos:Pos}(hg:Gl X x)(hm:X.mg x=some u)(r:RelV v u)(hd:(x == ("__debug__":Str))=false:=by decide):PE X (.Name x pos) (tC v):=
 fun _ _ _ H _ I h=>WA I hg hm ⟨v,H,I,r,h⟩ hd
theorem ZdJ {x:Str}{v:V}{u:Value}{pos:Pos}(hg:Gl X x)(hm:X.mg x=none)(hv:bootBuiltins x=some u)(r:RelV v u)(hn:x ≠ "__name__":=by decide)(hd:(x == ("__debug__":Str))=false:=by decide):PE X (.Name x pos) (tC v):=
 fun _ _ _ H _ I h=>Xb I hg hm hv ⟨v,H,I,r,h⟩ hn hd
variable {a b:Expr}{ta tb:TE}{pos:Pos}
def PC (X:Cx)(op:CmpOp)(a b:Expr)(t:TE):Prop:=
 ∀(pins:List (Addr×Obj)) (s:Shared) (σ:St) (H:Hp) (Q:VK),Inv X pins σ H s->t σ H Q->
  wpAny (model X.prog X.w) X.A (eval a X.env) (fun v s₁=>wpAny (model X.prog X.w) X.A (eval b X.env) (fun u s₂=>wpAny (model X.prog X.w) X.A (compareOp op v u) (EP X pins σ Q) X.xe s₂) X.xe s₁) X.xe s
theorem ZcO (b:Expr){op:CmpOp}(h:op≠.In)(h2:op≠.NotIn):behindInMarks op b=false:=by
 have e1:(op == CmpOp.In)=false:=by cases op <;> first|rfl|exact absurd rfl h
 have e2:(op == CmpOp.NotIn)=false:=by cases op <;> first|rfl|exact absurd rfl h2
 cases b <;> simp[behindInMarks,e1,e2]
def Zhb (ta:TE):TE:=fun σ H Q=>ta σ H fun x H1=>Q (.bl (decide (x=.non))) H1
theorem RelV.none_iff {x:V}{v:Value}(r:RelV x v):(v == Value.none)=decide (x=.non):=by
 cases x with
 |non=>cases r;rfl
 |bl _=>cases r;rfl
 |int _=>obtain⟨t,rfl⟩:=r;rfl
 |str _=>obtain⟨t,rfl⟩:=r;rfl
 |byt _=>obtain⟨t,rfl⟩:=r;rfl
 |flt _=>obtain⟨t,rfl⟩:=r;rfl
 |ref _=>cases r;rfl
 |ty _=>cases r;rfl
theorem ZcJ {j pos'}(ha:PE X a ta):PC X .Is a (.Constant .none j pos') (Zhb ta):=by
 intro pins s σ H Q I h
 refine ZT (ha pins s σ H _ I h) fun v s1 ⟨x,H1,I1,r1,q1⟩=>?_
 exact Constant_none (is_none_gen ⟨.bl _,H1,I1,by rw[r1.none_iff];rfl,q1⟩)
def tB (t:TE):TT:=fun σ H Q=>t σ H fun x H1=>∃c,x=.bl c/\Q c H1
theorem UU {op:CmpOp}{t:TE}(h:PC X op a b t)(h1:behindInMarks op b=false:=by first|exact ZcO _ (by decide) (by decide)|rfl):PT X (.Compare a [op] [b] pos) (tB t):=by
 intro pins s σ H Q I hw
 refine wpAny_isTrue_Compare1 (ZT (h pins s σ H _ I hw) fun v s1 h1=>ZT h1 fun u s2 h2=>ZT h2 fun c s3 ⟨x,H1,I1,r1,q1⟩=>?_) h1
 obtain⟨d,rfl,q⟩:=q1
 cases r1
 exact wpAny_truthy_bool ⟨H1,I1,q⟩
theorem Wg {e:Expr}{t:TE}(h:PE X e t)(he:∀whole,isTrue e X.env whole=(do let v <-whole;standAt e.pos;holding [v] (truthy v)):=by intro _;rfl):PT X e (tB t):=by
 intro pins s σ H Q I hw
 refine isTrue_plain (ZT (h pins s σ H _ I hw) fun v s1 ⟨x,H1,I1,r1,q1⟩=>?_) (he _)
 obtain⟨d,rfl,q⟩:=q1
 cases r1
 exact wpAny_truthy_bool ⟨H1,I1,q⟩
variable {tA tB':TT}{rest:List Expr}
def Zhd (t u:TT):TT:=fun σ H Q=>t σ H fun c H1=>if c=true then u σ H1 Q else Q false H1
def tOr (t u:TT):TT:=fun σ H Q=>t σ H fun c H1=>if c=true then Q true H1 else u σ H1 Q
def Zg9 (t:TT):TT:=fun σ H Q=>t σ H fun c H1=>Q (!c) H1
theorem Vh (ha:PT X a tA):PW X (.BoolOp .And [a] pos) tA:=by
 intro wh pins s σ H Q I h
 refine isTrue_and (ZT (ha pins s σ H Q I h) fun c s1 e=>?_)
 cases c with
 |true=>exact isTrue_and_nil e
 |false=>exact e
theorem JX (ha:PT X a tA):PW X (.BoolOp .Or [a] pos) tA:=by
 intro wh pins s σ H Q I h
 refine isTrue_or (ZT (ha pins s σ H Q I h) fun c s1 e=>?_)
 cases c with
 |false=>exact isTrue_or_nil e
 |true=>exact e
theorem UT (ha:PT X a tA)(hb:PW X (.BoolOp .And (b::rest) pos) tB'):PW X (.BoolOp .And (a::b::rest) pos) (Zhd tA tB'):=by
 intro wh pins s σ H Q I h
 refine isTrue_and (ZT (ha pins s σ H _ I h) fun c s1 ⟨H1,I1,q1⟩=>?_)
 cases c with
 |true=>exact hb wh pins s1 σ H1 Q I1 q1
 |false=>exact⟨H1,I1,q1⟩
theorem JY (ha:PT X a tA)(hb:PW X (.BoolOp .Or (b::rest) pos) tB'):PW X (.BoolOp .Or (a::b::rest) pos) (tOr tA tB'):=by
 intro wh pins s σ H Q I h
 refine isTrue_or (ZT (ha pins s σ H _ I h) fun c s1 ⟨H1,I1,q1⟩=>?_)
 cases c with
 |true=>exact⟨H1,I1,q1⟩
 |false=>exact hb wh pins s1 σ H1 Q I1 q1
theorem JZ (ha:PT X a tA):PT X (.UnaryOp .Not a pos) (Zg9 tA):=by
 intro pins s σ H Q I h
 exact isTrue_not (ha pins s σ H (fun c H1=>Q (!c) H1) I h)
def Zer (ta tb:TE):TE:=fun σ H Q=>ta σ H fun x H1=>∃c,x=.bl c/\if c=true then tb σ H1 Q else Q (.bl false) H1
def Zg8 (ta tb:TE):TE:=fun σ H Q=>ta σ H fun x H1=>∃c,x=.bl c/\if c=true then Q (.bl true) H1 else tb σ H1 Q
def ZfZ (ta:TE):TE:=fun σ H Q=>ta σ H fun x H1=>∃c,x=.bl c/\Q (.bl (!c)) H1
theorem WJ {op}{t:TE}(h:PE X a t):PE X (.BoolOp op [a] pos) t:=fun pins s σ H Q I hw=>BoolOp_one (h pins s σ H Q I hw)
theorem Jf (ha:PE X a ta)(hb:PE X (.BoolOp .And (b::rest) pos) tb):PE X (.BoolOp .And (a::b::rest) pos) (Zer ta tb):=by
 intro pins s σ H Q I h
 refine BoolOp_and (ZT (ha pins s σ H _ I h) fun v s1 ⟨x,H1,I1,r1,q1⟩=>?_)
 obtain⟨c,rfl,q1⟩:=q1
 cases r1
 refine wpAny_truthy_bool ?_
 cases c with
 |true=>exact hb pins s1 σ H1 Q I1 q1
 |false=>exact⟨.bl false,H1,I1,rfl,q1⟩
theorem ZeE (ha:PE X a ta)(hb:PE X (.BoolOp .Or (b::rest) pos) tb):PE X (.BoolOp .Or (a::b::rest) pos) (Zg8 ta tb):=by
 intro pins s σ H Q I h
 refine BoolOp_or (ZT (ha pins s σ H _ I h) fun v s1 ⟨x,H1,I1,r1,q1⟩=>?_)
 obtain⟨c,rfl,q1⟩:=q1
 cases r1
 refine wpAny_truthy_bool ?_
 cases c with
 |false=>exact hb pins s1 σ H1 Q I1 q1
 |true=>exact⟨.bl true,H1,I1,rfl,q1⟩
theorem ZcC (ha:PE X a ta):PE X (.UnaryOp .Not a pos) (ZfZ ta):=by
 intro pins s σ H Q I h
 refine UnaryOp_ (ZT (ha pins s σ H _ I h) fun v s1 ⟨x,H1,I1,r1,q1⟩=>?_)
 obtain⟨c,rfl,q1⟩:=q1
 cases r1
 exact not_of (wpAny_truthy_bool ⟨.bl (!c),H1,I1,rfl,q1⟩)
def tIf (t:TT)(ta tb:TE):TE:=fun σ H Q=>t σ H fun c H1=>if c=true then ta σ H1 Q else tb σ H1 Q
theorem W1 {c:Expr}(hc:PT X c tA)(ha:PE X a ta)(hb:PE X b tb):PE X (.IfExp c a b pos) (tIf tA ta tb):=by
 intro pins s σ H Q I h
 refine wpAny_IfExp (ZT (hc pins s σ H _ I h) fun d s1 ⟨H1,I1,q1⟩=>?_)
 cases d with
 |true=>exact ha pins s1 σ H1 Q I1 q1
 |false=>exact hb pins s1 σ H1 Q I1 q1
end
def Wa (K:PySem.W.Frag)(H:Hp)(a:Addr)(xs:List V):Prop:=
 Rd H a (.lst xs)\/
  ∃(o:Obj) (its:Array Value) (n:Nat),K.lookup a=some o/\o.cls=.type "list"/\o.dict=none/\o.data=.seq its n/\its.size<=sizeLine/\ZC xs its.toList
def WG (K:PySem.W.Frag)(H:Hp)(a:Addr)(xs:List V):Prop:=
 Rd H a (.tup xs)\/
  ∃(o:Obj) (its:Array Value) (n:Nat),K.lookup a=some o/\o.cls=.type "tuple"/\o.data=.seq its n/\its.size<=sizeLine/\ZC xs its.toList
def Zhw:Value->Option V
 | .none=>some .non
 | .bool b=>some (.bl b)
 | .int i _=>some (.int i)
 | .str x _=>some (.str x)
 | .bytes b _=>some (.byt b)
 | .float b _=>some (.flt b)
 | .ref a=>some (.ref a)
 | .type n=>some (.ty n)
 |_=>none
theorem RelV.abs {x:V}{u:Value}(r:RelV x u):Zhw u=some x:=by
 cases x with
 |non=>cases r;rfl
 |bl _=>cases r;rfl
 |int _=>obtain⟨t,rfl⟩:=r;rfl
 |str _=>obtain⟨t,rfl⟩:=r;rfl
 |byt _=>obtain⟨t,rfl⟩:=r;rfl
 |flt _=>obtain⟨t,rfl⟩:=r;rfl
 |ref _=>cases r;rfl
 |ty _=>cases r;rfl
theorem RelV.inj {x y:V}{u:Value}(r:RelV x u)(q:RelV y u):x=y:=Option.some.inj (r.abs.symm.trans q.abs)
theorem ZC.inj:∀{xs ys:List V}{us:List Value},ZC xs us->ZC ys us->xs=ys
 |_,_,_,.nil,.nil=>rfl
 |_,_,_,.cons r t,.cons r' t'=>by rw[r.inj r',ZC.inj t t']
section
variable {X:Cx}{pins:List (Addr×Obj)}{σ:St}{H:Hp}{s:Shared}{a:Addr}{xs ys:List V}
theorem Wa.of {K:PySem.W.Frag}(h:H a=some (.lst xs)):Wa K H a xs:=.inl (.inl h)
theorem WG.of {K:PySem.W.Frag}(h:H a=some (.tup xs)):WG K H a xs:=.inl (.inl h)
theorem Inv.list (I:Inv X pins σ H s)(h:Wa X.K H a xs):∃its:List Value,ZC xs its/\PlainL s.heap a its.toArray/\xs.length<=sizeLine:=by
 rcases h with h|⟨o,its,n,hk,hc,hd,hs,hz,r⟩
 ·obtain⟨z,its,n,r,e⟩:=h.ok I.hok
  exact⟨its,r,⟨_,n,e,rfl,rfl,rfl⟩,z⟩
 ·refine⟨its.toList,r,⟨o,n,I.kIn a o hk,hc,hd,by simpa using hs⟩,?_⟩
  have e:=r.length
  simp only[Zr] at e
  omega
theorem Inv.tuple (I:Inv X pins σ H s)(h:WG X.K H a xs):∃its:List Value,ZC xs its/\IsTup s.heap a its.toArray/\xs.length<=sizeLine:=by
 rcases h with h|⟨o,its,n,hk,hc,hs,hz,r⟩
 ·obtain⟨z,its,r,p⟩:=h.ok I.hok
  exact⟨its,r,p,z⟩
 ·refine⟨its.toList,r,⟨o,I.kIn a o hk,hc,n,by simpa using hs⟩,?_⟩
  have e:=r.length
  simp only[Zr] at e
  omega
theorem Inv.list_inj (I:Inv X pins σ H s)(h:Wa X.K H a xs)(h':Wa X.K H a ys):xs=ys:=by
 obtain⟨its,r,⟨o,n,e,_,_,d⟩,_⟩:=I.list h
 obtain⟨its',r',⟨o',n',e',_,_,d'⟩,_⟩:=I.list h'
 rw[e] at e';cases e'
 rw[d] at d'
 injection d' with d1 _
 have:its=its':=by simpa using congrArg Array.toList d1
 subst this
 exact r.inj r'
theorem Inv.tuple_inj (I:Inv X pins σ H s)(h:WG X.K H a xs)(h':WG X.K H a ys):xs=ys:=by
 obtain⟨its,r,⟨o,e,_,n,d⟩,_⟩:=I.tuple h
 obtain⟨its',r',⟨o',e',_,n',d'⟩,_⟩:=I.tuple h'
 rw[e] at e';cases e'
 rw[d] at d'
 injection d' with d1 _
 have:its=its':=by simpa using congrArg Array.toList d1
 subst this
 exact r.inj r'
end
abbrev Cx.wish (X:Cx)(E:Value->Shared->Prop):Cx:={X with xe:=E}
abbrev Cx.nox (X:Cx):Cx:=X.wish fun _ _=>False
theorem Cx.Ok.wish {X:Cx}(ok:X.Ok)(E:Value->Shared->Prop):(X.wish E).Ok:=
 ⟨ok.mod,ok.kind,ok.glob,ok.blt,ok.above,ok.inj,ok.has,ok.cab,ok.hd,ok.frames,ok.stk,ok.exf,ok.bs,ok.bsz,ok.noex,ok.exfs,ok.funs,ok.frf⟩
theorem Cx.Ok.unwish {X:Cx}{E:Value->Shared->Prop}(ok:(X.wish E).Ok):X.Ok:=
 ⟨ok.mod,ok.kind,ok.glob,ok.blt,ok.above,ok.inj,ok.has,ok.cab,ok.hd,ok.frames,ok.stk,ok.exf,ok.bs,ok.bsz,ok.noex,ok.exfs,ok.funs,ok.frf⟩
section
variable {X:Cx}{pins:List (Addr×Obj)}{σ:St}{H:Hp}{s:Shared}{E:Value->Shared->Prop}
theorem Inv.wish (I:Inv X pins σ H s)(E:Value->Shared->Prop):Inv (X.wish E) pins σ H s:=⟨I.ok.wish E,I.os,I.bare,I.base,I.loc,I.cell,I.free,I.freeC,I.pin,I.hok,I.len⟩
theorem Inv.unwish (I:Inv (X.wish E) pins σ H s):Inv X pins σ H s:=⟨I.ok.unwish,I.os,I.bare,I.base,I.loc,I.cell,I.free,I.freeC,I.pin,I.hok,I.len⟩
theorem SP.unwish {D:Wx}{f:Flow}{s':Shared}(h:SP (X.wish E) pins D f s'):SP X pins D f s':=by
 cases f with
 |next=>obtain⟨σ',H',I,q⟩:=h;exact⟨σ',H',I.unwish,q⟩
 |brk=>obtain⟨σ',H',I,q⟩:=h;exact⟨σ',H',I.unwish,q⟩
 |cont=>obtain⟨σ',H',I,q⟩:=h;exact⟨σ',H',I.unwish,q⟩
 |ret u=>obtain⟨v,σ',H',I,r,q⟩:=h;exact⟨v,σ',H',I.unwish,r,q⟩
theorem X6.nox {st:List Stmt}{t:TS}(h:X6 X.nox st t):X6 X st t:=fun pins s σ H D I hw=>
 wpAny_mono (h pins s σ H D (I.wish _) hw) (fun _ _ q=>q.unwish) fun _ _ z=>False.elim z
end
section
variable {X:Cx}{st:Stmt}{rest:List Stmt}{t u:TS}{e:Expr}{te:TE}{pos:Pos}
def Zf1:TS:=fun D σ H=>D.nx σ H
def Za5 (t u:TS):TS:=fun D σ H=>t {D with nx:=u D} σ H
theorem ZU:X6 X [] Zf1:=fun _ _ σ H _ I h=>wpAny_execs_nil ⟨σ,H,I,h⟩
theorem Zx (h1:PS X st t)(h2:X6 X rest u):X6 X (st::rest) (Za5 t u):=by
 intro pins s σ H D I h
 refine wpAny_execs_cons (ZT (h1 pins s σ H {D with nx:=u D} I h) fun f s1 q=>?_)
 cases f with
 |next=>
  obtain⟨σ',H',I',q⟩:=q
  exact h2 pins s1 σ' H' D I' q
 |ret v=>exact q
 |brk=>exact q
 |cont=>exact q
theorem Zy (h1:PS X st t):X6 X [st] t:=by
 intro pins s σ H D I h
 refine wpAny_execs_cons (ZT (h1 pins s σ H D I h) fun f s1 q=>?_)
 cases f with
 |next=>exact wpAny_execs_nil q
 |ret v=>exact q
 |brk=>exact q
 |cont=>exact q
theorem Inv.quiet {pins:List (Addr×Obj)}{σ:St}{H:Hp}{s:Shared}(I:Inv X pins σ H s):interactive X.env=false:=by simp[interactive,I.ok.kind]
def Zf4 (te:TE):TS:=fun D σ H=>te σ H fun _ H1=>D.nx σ H1
theorem Y5 (he:PE X e te)(hs:swapsWith e none pos.line X.env=pure false:=by rfl):PS X (.Expr e pos) (Zf4 te):=by
 intro pins s σ H D I h
 exact wpAny_Expr_any (ZT (he pins s σ H _ I h) fun v s1 ⟨x,H1,I1,r1,q1⟩=>⟨σ,H1,I1,q1⟩) I.quiet hs
def ZeX (te:TE):TS:=fun D σ H=>te σ H D.rt
theorem ZP (he:PE X e te):PS X (.Return (some e) pos) (ZeX te):=by
 intro pins s σ H D I h
 exact wpAny_Return_some (ZT (he pins s σ H _ I h) fun v s1 ⟨x,H1,I1,r1,q1⟩=>⟨x,σ,H1,I1,r1,q1⟩)
def Zf3 (c:TT)(t u:TS):TS:=fun D σ H=>c σ H fun b H1=>if b=true then t D σ H1 else u D σ H1
theorem Yn {c:Expr}{a b:List Stmt}{tc:TT}(hc:PT X c tc)(ha:X6 X a t)(hb:X6 X b u):PS X (.If c a b pos) (Zf3 tc t u):=by
 intro pins s σ H D I h
 refine wpAny_If (ZT (hc pins s σ H _ I h) fun d s1 ⟨H1,I1,q1⟩=>?_)
 cases d with
 |true=>exact ha pins s1 σ H1 D I1 q1
 |false=>exact hb pins s1 σ H1 D I1 q1
def ZeY:TS:=fun _ _ _=>False
theorem Zbc {sts:List Stmt}:X6 X sts ZeY:=fun _ _ _ _ _ _ h=>h.elim
end
abbrev TG:=V->St->Hp->(St->Hp->Prop)->Prop
abbrev TGs:=List V->St->Hp->(St->Hp->Prop)->Prop
def PG (X:Cx)(target:Expr)(t:TG):Prop:=
 ∀(pins:List (Addr×Obj)) (s:Shared) (σ:St) (H:Hp) (v:V) (u:Value) (Q:St->Hp->Prop),Inv X pins σ H s->RelV v u->t v σ H Q->
  wpAny (model X.prog X.w) X.A (assign target X.env u) (fun _ s'=>∃ σ' H',Inv X pins σ' H' s'/\Q σ' H') X.xe s
def PGs (X:Cx)(ts:List Expr)(t:TGs):Prop:=
 ∀(pins:List (Addr×Obj)) (s:Shared) (σ:St) (H:Hp) (vs:List V) (us:List Value) (Q:St->Hp->Prop),Inv X pins σ H s->ZC vs us->t vs σ H Q->
  wpAny (model X.prog X.w) X.A (assignInOrder ((assignEach ts X.env).map (·.2)) us) (fun _ s'=>∃ σ' H',Inv X pins σ' H' s'/\Q σ' H') X.xe s
abbrev ZfK:=V->V->V->Hp->(Hp->Prop)->Prop
def ZgJ (X:Cx)(t:ZfK):Prop:=
 ∀(pins:List (Addr×Obj)) (s:Shared) (σ:St) (H:Hp) (o i v:V) (ov iv u:Value) (Q:Hp->Prop),Inv X pins σ H s->RelV o ov->RelV i iv->RelV v u->t o i v H Q->
  wpAny (model X.prog X.w) X.A (setItem ov iv u) (fun _ s'=>∃H',Inv X pins σ H' s'/\Q H') X.xe s
section
variable {X:Cx}{pos:Pos}
def Yf (i:Nat):TG:=fun v σ H Q=>Q (σ.set i (some v)) H
theorem ZaF {i:Nat}{x:Str}(hN:X.N.Nodup)(hi:X.N[i]?=some x)(hx:Loc X.env.scope x)(hf:X.fn x=true\/X.env.scope.names.lookup x=some .local:=by first|exact .inl rfl|exact .inr rfl|assumption):PG X (.Name x pos) (Yf i):=by
 intro pins s σ H v u Q I r h
 exact wpAny_assign_Name (Wf I hN hi hx r (fun s' I'=>⟨_,H,I',h⟩) hf)
def ZgA:TGs:=fun vs σ H Q=>vs=[]/\Q σ H
def Zc2 (t:TG)(u:TGs):TGs:=fun vs σ H Q=>∃v r,vs=v::r/\t v σ H fun σ' H'=>u r σ' H' Q
theorem ZaE:PGs X [] ZgA:=by
 intro pins s σ H vs us Q I r h
 obtain⟨e,h⟩:=h
 subst e
 cases r
 exact assignInOrder_nil ⟨σ,H,I,h⟩
theorem WX {e:Expr}{es:List Expr}{t:TG}{u:TGs}(h1:PG X e t)(h2:PGs X es u)
  (hs:(assignEach (e::es) X.env).map (·.2)=assign e X.env::(assignEach es X.env).map (·.2):=by rfl):PGs X (e::es) (Zc2 t u):=by
 intro pins s σ H vs us Q I r h
 obtain⟨v,vr,e1,h⟩:=h
 subst e1
 cases r with
 |cons r rr=>
  rw[hs]
  refine assignInOrder_cons (ZT (h1 pins s σ H _ _ _ I r h) fun _ s1 ⟨σ1,H1,I1,q1⟩=>?_)
  exact h2 pins s1 σ1 H1 _ _ Q I1 rr q1
def Zgz (K:PySem.W.Frag)(n:Nat)(t:TGs):TG:=fun v σ H Q=>∃a xs,v=.ref a/\WG K H a xs/\xs.length=n/\t xs σ H Q
theorem Zcz {es:List Expr}{k:Nat}{t:TGs}{n:Nat}(hc:X.calm=true)(h:PGs X es t)
  (hn:(assignEach es X.env).length=n:=by rfl) (hst:(assignEach es X.env).findIdx? (·.1)=none:=by rfl):PG X (.Tuple es k pos) (Zgz X.K n t):=by
 intro pins s σ H v u Q I r hw
 obtain⟨a,xs,e1,hq,hl,hw⟩:=hw
 subst e1
 cases r
 obtain⟨its,rv,ht,hz⟩:=I.tuple hq
 refine assign_Tuple_tuple (I.ok.hd hc) ht (by simp[hn,<-hl,rv.length]) hst fun h' hx=>?_
 have I1:Inv X pins σ H {s with heap:=h'}:=I.kept (t':=s.toks) fun b o e=>hx b o (Nat.ne_of_lt (Zp e)) e
 exact h pins _ σ H xs _ Q I1 (by simpa using rv) hw
def Zhv (to ti:TE)(t:ZfK):TG:=fun v σ H Q=>to σ H fun o H1=>ti σ H1 fun i H2=>t o i v H2 fun H3=>Q σ H3
theorem Je {o i:Expr}{to ti:TE}{t:ZfK}(ho:PE X o to)(hi:PE X i ti)(hs:ZgJ X t)
  (ha:∀v,assign (.Subscript o i pos) X.env v=(do
   let ov <-holding [v] (eval o X.env)
   let iv <-holding [v,ov] (eval i X.env)
   standAt pos
   holding [v,ov,iv] (setItem ov iv v)
   release [v,ov,iv] []):=by intro _;rfl):PG X (.Subscript o i pos) (Zhv to ti t):=by
 intro pins s σ H v u Q I r h
 rw[ha]
 refine Zl (wpAny_holding (ZT (ho pins s σ H _ I h) fun ov s1 ⟨x,H1,I1,r1,q1⟩=>?_))
 refine Zl (wpAny_holding (ZT (hi pins s1 σ H1 _ I1 q1) fun iv s2 ⟨y,H2,I2,r2,q2⟩=>?_))
 refine Zl (wpAny_standAt (Zl (wpAny_holding (ZT (hs pins s2 σ H2 x y v ov iv u _ I2 r1 r2 r q2) fun _ s3 ⟨H3,I3,q3⟩=>?_))))
 exact wpAny_release ⟨σ,H3,I3,q3⟩
def Za6 (te:TE)(g:TG):TS:=fun D σ H=>te σ H fun x H1=>g x σ H1 D.nx
theorem J4 {tg e:Expr}{te:TE}{g:TG}(he:PE X e te)(hg:PG X tg g)(hs:swapsWithSole [tg] e pos.line X.env=pure false:=by rfl)(hw:swappedStores [tg] e X.env=pure none:=by rfl)
  (h1:(assignEach [tg] X.env).map (·.2)=[assign tg X.env]:=by rfl):PS X (.Assign [tg] e pos) (Za6 te g):=by
 intro pins s σ H D I h
 refine wpAny_Assign_stores (ZT (he pins s σ H _ I h) fun v s1 ⟨x,H1,I1,r1,q1⟩=>?_) hs hw
 rw[h1]
 exact ZT (hg pins s1 σ H1 x v _ I1 r1 q1) fun _ s2 q=>q
theorem Zfb {i:Nat}{x:Str}{e:Expr}{te:TE}{pos':Pos}(hN:X.N.Nodup)(hi:X.N[i]?=some x)(hx:Loc X.env.scope x)(he:PE X e te)(hs:swapsWith e (some (.Name x pos')) pos.line X.env=pure false:=by rfl)(hf:X.fn x=true\/X.env.scope.names.lookup x=some .local:=by first|exact .inl rfl|exact .inr rfl|assumption) :
  PS X (.Assign [.Name x pos'] e pos) (Za6 te (Yf i)):=by
 intro pins s σ H D I h
 refine wpAny_Assign_Name (ZT (he pins s σ H _ I h) fun v s1 ⟨y,H1,I1,r1,q1⟩=>?_) hs
 exact Wf I1 hN hi hx r1 (fun s2 I2=>⟨_,H1,I2,q1⟩) hf
def ZfY (i j:Nat)(ta:TA):TS:=fun D σ H=>ta σ H fun vs H1=>∃v w,vs=[v,w]/\D.nx ((σ.set i (some v)).set j (some w)) H1
theorem Zfc {i j:Nat}{x y:Str}{a b:Expr}{ta:TA}{px py pt:Pos}{kt k2 pt2}(hc:X.calm=true)(hN:X.N.Nodup)(hi:X.N[i]?=some x)(hj:X.N[j]?=some y)(hij:i≠j)
  (hx:X.env.scope.names.lookup x=some .local) (hy:X.env.scope.names.lookup y=some .local) (ha:PA X [a,b] ta)
  (hw:swappedStores [.Tuple [.Name x px,.Name y py] kt pt] (.Tuple [a,b] k2 pt2) X.env=pure (some [x,y]))
  (hs:swapsWithSole [.Tuple [.Name x px,.Name y py] kt pt] (.Tuple [a,b] k2 pt2) pos.line X.env=pure false:=by rfl) :
  PS X (.Assign [.Tuple [.Name x px,.Name y py] kt pt] (.Tuple [a,b] k2 pt2) pos) (ZfY i j ta):=by
 intro pins s σ H D I h
 rw[exec_Assign_arm]
 refine Zl (wpAny_standAt ?_)
 rw[hs]
 refine Zl (Zm ?_)
 rw[if_neg (by decide)]
 refine Zl (Tuple_ (ZT (ha _ pins s σ H _ I h) fun us s1 ⟨vs,H1,I1,r1,q1⟩=>?_))
 obtain⟨v,w,e1,q1⟩:=q1
 subst e1
 obtain⟨u1,u2,rfl,rv,rw'⟩:∃u1 u2,us=[u1,u2]/\RelV v u1/\RelV w u2:=by
  cases r1 with
  |cons p q=>
   cases q with
   |cons p' q'=>
    cases q'
    exact⟨_,_,rfl,p,p'⟩
 refine wpAny_newObj_type ?_ (by show 2<=sizeLine;decide)
 have I2:Inv X pins σ H1 {s1 with heap:=s1.heap.push {cls:=.type "tuple",data:=.seq [u1,u2].toArray}}:=I1.kept (t':=s1.toks) fun b o e=>Zn _ e
 rw[hw]
 refine Zl (Zm ?_)
 show wpAny (model X.prog X.w) X.A (do rule "assign.swapped-stores";let items <-unpackItems (.ref s1.heap.objs.size) 2 none;assignInOrder [fun v=>bindName X.env y v,fun v=>bindName X.env x v] items.reverse;pure Flow.next) _ _ _
 refine Zl (wpAny_rule (Zl (unpackItems_tuple (items:=#[u1,u2]) (I.ok.hd hc) (IsTup.new s1.heap _) fun h' hx'=>?_)))
 have I3:=I2.kept (h':=h') (t':=s1.toks) fun b o e=>hx' b o (Nat.ne_of_lt (Zp e)) e
 show wpAny _ _ (assignInOrder [fun v=>bindName X.env y v,fun v=>bindName X.env x v] [u2,u1] >>= fun _=>pure Flow.next) _ _ _
 refine Zl (assignInOrder_cons (wpAny_bindName (Wf I3 hN hj (.inl hy) rw' (fun s2 I4=>?_) (.inr hy))))
 refine assignInOrder_cons (wpAny_bindName (Wf I4 hN hi (.inl hx) rv (fun s3 I5=>assignInOrder_nil (Zm ?_)) (.inr hx)))
 rw[List.set_comm _ _ (Ne.symm hij)] at I5
 exact⟨_,H1,I5,q1⟩
end
section
variable {X:Cx}{pos:Pos}
def Zb3 (c:TT)(tb:TS):TS:=fun D σ H=>∃W:Nat->St->Hp->Prop,(∃m,W m σ H)/\∀m σ H,W m σ H->
 c σ H fun b H1=>if b=true then ∃N:St->Hp->Prop,(∀ σ' H',N σ' H'->∃m',m'<m/\W m' σ' H')/\tb {D with nx:=N,ct:=N,bk:=D.nx} σ H1 else D.nx σ H1
theorem J3 {c:Expr}{body:List Stmt}{tc:TT}{tb:TS}(hp:PassesOwn (model X.prog X.w) X.A X.env X.xe)(hc:PT X c tc)(hb:X6 X body tb):PS X (.While c body [] pos) (Zb3 tc tb):=by
 intro pins s σ H D I h
 obtain⟨W,⟨m0,w0⟩,turn⟩:=h
 refine wpAny_While (codeAny_whileLoop (fun n s'=>∃ σ' H',Inv X pins σ' H' s'/\W n σ' H') ?_ m0 ⟨σ,H,I,w0⟩)
 rintro n s1 ⟨σ1,H1,I1,w1⟩
 refine wpAny_passesOwn hp (ZT (hc pins s1 σ1 H1 _ I1 (turn n σ1 H1 w1)) fun b s2 ⟨H2,I2,q2⟩=>?_)
 cases b with
 |true=>
  obtain⟨N,hN,q2⟩:=q2
  rw[if_pos rfl]
  refine wpAny_passesOwn hp (ZT (hb pins s2 σ1 H2 _ I2 q2) fun f s3 q3=>?_)
  cases f with
  |next=>
   obtain⟨σ3,H3,I3,n3⟩:=q3
   obtain⟨m',hm,w3⟩:=hN σ3 H3 n3
   exact⟨m',hm,σ3,H3,I3,w3⟩
  |cont=>
   obtain⟨σ3,H3,I3,n3⟩:=q3
   obtain⟨m',hm,w3⟩:=hN σ3 H3 n3
   exact⟨m',hm,σ3,H3,I3,w3⟩
  |brk=>exact q3
  |ret v=>exact q3
 |false=>
  rw[if_neg Bool.false_ne_true]
  exact wpAny_execs_nil ⟨σ1,H2,I2,q2⟩
end
structure It where
 go:Nat->Hp->Prop
 yld:Nat->Hp->V->Hp->Prop
 stop:Nat->Hp->Prop
def XD (X:Cx)(pins:List (Addr×Obj))(H:Hp)(b:Addr):Prop:=
 H b=none/\b≠X.env.locals/\b∉X.fs/\(b∈X.ex\/X.s₀.heap.objs.size<=b)/\(∀x c,X.env.cells.lookup x=some c->c≠b)/\∀p∈X.pn++pins,p.1≠b
theorem Inv.fpOk {X:Cx}{pins:List (Addr×Obj)}{σ:St}{H H':Hp}{s:Shared}{b:Addr}(I:Inv X pins σ H s)(hb:s.heap.objs.size<=b)(hn:H' b=none):XD X pins H' b:=by
 refine⟨hn,Nat.ne_of_gt (Nat.lt_of_lt_of_le I.lt hb),I.nofs hb,.inr (Nat.le_trans I.sz hb),fun x c e z=>?_,fun p hp z=>?_⟩
 ·obtain⟨v,q⟩:=I.cell x c e
  exact absurd (Nat.lt_of_lt_of_le q.lt (by rw[z];exact hb)) (Nat.lt_irrefl _)
 ·exact absurd (Nat.lt_of_lt_of_le (Zp (I.pin p hp).1) (by rw[z];exact hb)) (Nat.lt_irrefl _)
structure Zam (P:Program)(w:World)(K:PySem.W.Frag)(tg:Expr)(J:It)(fp:List Addr)(it:Addr)(tn:Nat->Heap->Prop):Prop where
 mem:it∈fp
 obj:∀i h,tn i h->∀b∈fp,∃o,h.get? b=some o/\∀v,o.data≠.cell v
 keep:∀i h h',tn i h->(∀b∈fp,∀o,h.get? b=some o->h'.get? b=some o)->tn i h'
 item:∀(X:Cx),X.prog=P->X.w=w->X.K=K->X.calm=true->∀(i:Nat) (pins:List (Addr×Obj)) (s:Shared) (σ:St) (H:Hp) (E:Value->Shared->Prop),Inv X pins σ H s->(∀b∈fp,XD X pins H b)->tn i s.heap->J.go i H->
  wpAny (model P w) X.A (pyNext (.ref it)) (fun r s1=>∃u,r=some u/\
   wpAny (model P w) X.A (letOwnedTupleGo tg (.ref it) u) (fun _ s2=>∃x H',Inv X pins σ H' s2/\RelV x u/\J.yld i H x H'/\tn (i+1) s2.heap/\∀b∈fp,H' b=none) E s1) E s
 done:∀(X:Cx),X.prog=P->X.w=w->X.K=K->X.calm=true->∀(i:Nat) (pins:List (Addr×Obj)) (s:Shared) (σ:St) (H:Hp) (E:Value->Shared->Prop),Inv X pins σ H s->(∀b∈fp,XD X pins H b)->tn i s.heap->J.stop i H->
  wpAny (model P w) X.A (pyNext (.ref it)) (fun r s1=>r=none/\Inv X pins σ H s1) E s
 self:∀(A:Around) (i:Nat) (s:Shared) (Q:Value->Shared->Prop) (E:Value->Shared->Prop),tn i s.heap->Q (.ref it) s->wpAny (model P w) A (pyIter (.ref it)) Q E s
abbrev TI:=St->Hp->(It->Hp->Prop)->Prop
def PIE (X:Cx)(pins:List (Addr×Obj))(σ:St)(tg:Expr)(R:It->Hp->Prop)(itv:Value)(s2:Shared):Prop:=
 ∃(it:Addr) (fp:List Addr) (tn:Nat->Heap->Prop) (J:It) (H':Hp),itv=.ref it/\Inv X pins σ H' s2/\Zam X.prog X.w X.K tg J fp it tn/\tn 0 s2.heap/\(∀b∈fp,XD X pins H' b)/\R J H'
def PI (X:Cx)(tg iter:Expr)(wi:TI):Prop:=
 ∀(pins:List (Addr×Obj)) (s:Shared) (σ:St) (H:Hp) (R:It->Hp->Prop),Inv X pins σ H s->wi σ H R->
  wpAny (model X.prog X.w) X.A (eval iter X.env) (fun v s1=>wpAny (model X.prog X.w) X.A (pyIter v) (PIE X pins σ tg R) X.xe s1) X.xe s
theorem Zc1 {M:Model}{A:Around}{E:Value->Shared->Prop}{s:Shared}{tg:Expr}{it:Addr}{u:Value}{o:Obj}{n:String}{vs:Array Value}{Q:Unit->Shared->Prop}(ho:s.heap.get? it=some o)(hc:o.cls=.type n)(hd:o.data=.fields vs)
    (hn:["enumerate", "zip", "dict_itemiterator", "dict_reverseitemiterator", "odict_iterator", "itertools.zip_longest", "itertools.pairwise"].contains n=false) (hQ:Q () s):wpAny M A (letOwnedTupleGo tg (.ref it) u) Q E s:=by
  unfold letOwnedTupleGo
  cases tg <;> first
    |exact Zm hQ
    |(cases u <;> first
        |exact Zm hQ
        | (refine Zl (wpAny_load ho ?_)
           rw[hc,hd]
           show wpAny M A (if (["enumerate", "zip", "dict_itemiterator", "dict_reverseitemiterator", "odict_iterator", "itertools.zip_longest", "itertools.pairwise"].contains n && vs[0]? == some (rawInt _))=true then _ else _) Q E s
           rw[if_neg (by intro h;rw[hn,Bool.false_and] at h;cases h)]
           exact Zm hQ))
def Itl (K:PySem.W.Frag)(a:Addr):It:=
 ⟨fun i H=>∃xs x,Wa K H a xs/\xs[i]?=some x,fun i H x H'=>H'=H/\∀xs,Wa K H a xs->xs[i]?=some x,fun i H=>∃xs,Wa K H a xs/\xs.length<=i⟩
def Itt (K:PySem.W.Frag)(a:Addr):It:=
 ⟨fun i H=>∃xs x,WG K H a xs/\xs[i]?=some x,fun i H x H'=>H'=H/\∀xs,WG K H a xs->xs[i]?=some x,fun i H=>∃xs,WG K H a xs/\xs.length<=i⟩
def Itr (lo:Int)(n:Nat):It:=⟨fun i _=>i<n,fun i H x H'=>H'=H/\x=.int (lo+i),fun i _=>n<=i⟩
theorem Za2 {P:Program}{w:World}{K:PySem.W.Frag}{tg:Expr}(a it:Addr):Zam P w K tg (Itl K a) [it] it (fun i h=>h.IsListIter it a i) where
 mem:=by simp
 obj:=fun i h st b hb=>by
  have e:b=it:=by simpa using hb
  subst e
  obtain⟨o,e,c,d⟩:=st
  exact⟨o,e,fun v z=>by rw[d] at z;cases z⟩
 keep:=fun i h h' st k=>st.at fun o e=>k it (by simp) o e
 item:=by
  intro X hP hw hK hc i pins s σ H E I hf st hg
  subst hP hw hK
  obtain⟨xs,x,hq,hx⟩:=hg
  obtain⟨its,rv,p,hz⟩:=I.list hq
  obtain⟨u,hu,ru⟩:=rv.get hx
  obtain⟨f0,f1,f2,f3,f4,f5⟩:=hf it (by simp)
  refine wpAny_pyNext_list_item st p.isList (x:=u) (by simpa using hu) fun h' st' sb=>?_
  have I1:Inv X pins σ H {s with heap:=h'}:=I.turned (t':=s.toks) (fun b o hb e=>(sb.2 b hb).trans e) f0 f1 f3 f4 f5
  obtain⟨o,e,c,d⟩:=id st'
  exact⟨u,rfl,Zc1 (s:={s with heap:=h'}) e c d (by decide) ⟨x,H,I1,ru,⟨rfl,fun ys hy=>by rw[I.list_inj hy hq];exact hx⟩,st',fun b hb=>(hf b hb).1⟩⟩
 done:=by
  intro X hP hw hK hc i pins s σ H E I hf st hg
  subst hP hw hK
  obtain⟨xs,hq,hx⟩:=hg
  obtain⟨its,rv,p,hz⟩:=I.list hq
  obtain⟨f0,f1,f2,f3,f4,f5⟩:=hf it (by simp)
  have hl:=rv.length
  exact wpAny_pyNext_list_end (I.ok.hd hc) st p.isList (by simp;omega) fun h' eb=>⟨rfl,I.turned (t':=s.toks) (fun b o hb e=>eb b o hb e) f0 f1 f3 f4 f5⟩
 self:=fun _ _ _ _ _ st h=>wpAny_pyIter_listiter st h
theorem UB {P:Program}{w:World}{K:PySem.W.Frag}{tg:Expr}(a it:Addr):Zam P w K tg (Itt K a) [it] it (fun i h=>h.IsTupleIter it a i) where
 mem:=by simp
 obj:=fun i h st b hb=>by
  have e:b=it:=by simpa using hb
  subst e
  obtain⟨o,e,c,d⟩:=st
  exact⟨o,e,fun v z=>by rw[d] at z;cases z⟩
 keep:=fun i h h' st k=>st.at fun o e=>k it (by simp) o e
 item:=by
  intro X hP hw hK hc i pins s σ H E I hf st hg
  subst hP hw hK
  obtain⟨xs,x,hq,hx⟩:=hg
  obtain⟨its,rv,p,hz⟩:=I.tuple hq
  obtain⟨u,hu,ru⟩:=rv.get hx
  obtain⟨f0,f1,f2,f3,f4,f5⟩:=hf it (by simp)
  refine wpAny_pyNext_tuple_item st (show s.heap.IsTuple a its.toArray from p) (x:=u) (by simpa using hu) fun h' st' sb=>?_
  have I1:Inv X pins σ H {s with heap:=h'}:=I.turned (t':=s.toks) (fun b o hb e=>(sb.2 b hb).trans e) f0 f1 f3 f4 f5
  obtain⟨o,e,c,d⟩:=id st'
  exact⟨u,rfl,Zc1 (s:={s with heap:=h'}) e c d (by decide) ⟨x,H,I1,ru,⟨rfl,fun ys hy=>by rw[I.tuple_inj hy hq];exact hx⟩,st',fun b hb=>(hf b hb).1⟩⟩
 done:=by
  intro X hP hw hK hc i pins s σ H E I hf st hg
  subst hP hw hK
  obtain⟨xs,hq,hx⟩:=hg
  obtain⟨its,rv,p,hz⟩:=I.tuple hq
  obtain⟨f0,f1,f2,f3,f4,f5⟩:=hf it (by simp)
  have hl:=rv.length
  exact wpAny_pyNext_tuple_end (I.ok.hd hc) st (show s.heap.IsTuple a its.toArray from p) (by simp;omega) fun h' eb=>⟨rfl,I.turned (t':=s.toks) (fun b o hb e=>eb b o hb e) f0 f1 f3 f4 f5⟩
 self:=fun _ _ _ _ _ st h=>wpAny_pyIter_tupleiter st h
theorem UC {P:Program}{w:World}{K:PySem.W.Frag}{tg:Expr}(it:Addr)(lo:Int)(n:Nat):Zam P w K tg (Itr lo n) [it] it (fun i h=>IsRangeIter h it (lo+(i:Nat)*1) ((n:Int)-(i:Nat)) 1) where
 mem:=by simp
 obj:=fun i h st b hb=>by
  have e:b=it:=by simpa using hb
  subst e
  exact⟨_,st,fun v z=>by
   have z':Data.fields _=Data.cell v:=z
   cases z'⟩
 keep:=fun i h h' st k=>k it (by simp) _ st
 item:=by
  intro X hP hw hK hc i pins s σ H E I hf st hg
  subst hP hw hK
  obtain⟨f0,f1,f2,f3,f4,f5⟩:=hf it (by simp)
  have W:=Walks.range (prog:=X.prog) (w:=X.w) (I.ok.hd hc) it lo 1 n
  refine W.item i s _ _ hg st fun v h' tk hv st' kk=>?_
  obtain⟨t,rfl⟩:=hv
  have I1:Inv X pins σ H {s with heap:=h',toks:=tk}:=I.turned (fun b o hb e=>kk b o (by simpa using hb) e) f0 f1 f3 f4 f5
  refine⟨_,rfl,Zc1 (s:={s with heap:=h',toks:=tk}) (n:="range_iterator") st' rfl rfl (by decide) ⟨.int (lo+i),H,I1,⟨t,?_⟩,⟨rfl,rfl⟩,st',fun b hb=>(hf b hb).1⟩⟩
  rw[Int.mul_one]
 done:=by
  intro X hP hw hK hc i pins s σ H E I hf st hg
  subst hP hw hK
  obtain⟨f0,f1,f2,f3,f4,f5⟩:=hf it (by simp)
  exact wpAny_pyNext_range_end (I.ok.hd hc) st (by have:n<=i:=hg;omega) fun h' eb=>⟨rfl,I.turned (t':=s.toks) (fun b o hb e=>eb b o hb e) f0 f1 f3 f4 f5⟩
 self:=fun _ _ _ _ _ st h=>wpAny_pyIter_rangeiter st h
section
variable {X:Cx}{tg:Expr}
def ZeJ (K:PySem.W.Frag)(tl:TE):TI:=fun σ H R=>tl σ H fun x H1=>∃a,x=.ref a/\(∃xs,Wa K H1 a xs)/\R (Itl K a) H1
def Zgu (K:PySem.W.Frag)(tl:TE):TI:=fun σ H R=>tl σ H fun x H1=>∃a,x=.ref a/\(∃xs,WG K H1 a xs)/\R (Itt K a) H1
theorem ZdF {l:Expr}{tl:TE}(hl:PE X l tl):PI X tg l (ZeJ X.K tl):=by
 intro pins s σ H R I h
 refine ZT (hl pins s σ H _ I h) fun v s1 ⟨x,H1,I1,r1,q1⟩=>?_
 obtain⟨a,e,⟨xs,hq⟩,q⟩:=q1
 subst e
 cases r1
 obtain⟨its,rv,p,hz⟩:=I1.list hq
 refine wpAny_pyIter_list p.isList ?_
 refine⟨s1.heap.objs.size,[s1.heap.objs.size],_,_,H1,rfl,I1.kept (t':=s1.toks) fun b o e=>Zn _ e,Za2 a _,⟨_,Zo _ rfl,rfl,rfl⟩,fun b hb=>?_,q⟩
 have e:b=s1.heap.objs.size:=by simpa using hb
 subst e
 exact I1.fpOk (Zq _) (I1.hok.fresh (Zq _))
theorem Zcy {l:Expr}{tl:TE}(hl:PE X l tl):PI X tg l (Zgu X.K tl):=by
 intro pins s σ H R I h
 refine ZT (hl pins s σ H _ I h) fun v s1 ⟨x,H1,I1,r1,q1⟩=>?_
 obtain⟨a,e,⟨xs,hq⟩,q⟩:=q1
 subst e
 cases r1
 obtain⟨its,rv,p,hz⟩:=I1.tuple hq
 refine wpAny_pyIter_tuple (show s1.heap.IsTuple a its.toArray from p) ?_
 refine⟨s1.heap.objs.size,[s1.heap.objs.size],_,_,H1,rfl,I1.kept (t':=s1.toks) fun b o e=>Zn _ e,UB a _,⟨_,Zo _ rfl,rfl,rfl⟩,fun b hb=>?_,q⟩
 have e:b=s1.heap.objs.size:=by simpa using hb
 subst e
 exact I1.fpOk (Zq _) (I1.hok.fresh (Zq _))
theorem Zcs {pins:List (Addr×Obj)}{σ:St}{H:Hp}{s:Shared}{R:It->Hp->Prop}{E:Value->Shared->Prop}{lo hi:Int}{t u v:Tok}{tk:Nat}(I:Inv X pins σ H s)(h1:-(2 ^ 62)<=lo)(h2:lo<2 ^ 62)(h3:-(2 ^ 62)<=hi)(h4:hi<2 ^ 62)
  (q:R (Itr lo (hi-lo).toNat) H):wpAny (model X.prog X.w) X.A (pyIter (.ref s.heap.objs.size)) (PIE X pins σ tg R) E {s with heap:=s.heap.push {cls:=.type "range",data:=.fields #[.int lo t,.int hi u,.int 1 v]},toks:=tk}:=by
 refine wpAny_pyIter_range (IsRange.new ..) (small_one h1 h2 h3 h4) ?_
 have I1:Inv X pins σ H {s with heap:=s.heap.push {cls:=.type "range",data:=.fields #[.int lo t,.int hi u,.int 1 v]},toks:=tk}:=I.kept fun b o e=>Zn _ e
 refine⟨(s.heap.push {cls:=.type "range",data:=.fields #[.int lo t,.int hi u,.int 1 v]}).objs.size,[(s.heap.push {cls:=.type "range",data:=.fields #[.int lo t,.int hi u,.int 1 v]}).objs.size],_,_,H,rfl,
  I1.kept (t':=tk) fun b o e=>Zn _ e,UC _ lo (hi-lo).toNat,?_,fun b hb=>?_,q⟩
 ·have e1:lo+((0:Nat):Int)*1=lo:=by simp
  have e2:(((hi-lo).toNat:Nat):Int)-((0:Nat):Int)=Builtin.Range.rangeSize lo hi 1:=by rw[rangeSize_one];split <;> omega
  show IsRangeIter _ _ (lo+((0:Nat):Int)*1) ((((hi-lo).toNat:Nat):Int)-((0:Nat):Int)) 1
  rw[e1,e2]
  exact Zo _ rfl
 ·have e:b=(s.heap.push {cls:=.type "range",data:=.fields #[.int lo t,.int hi u,.int 1 v]}).objs.size:=by simpa using hb
  subst e
  exact I1.fpOk (Zq _) (I1.hok.fresh (Zq _))
def ZeI (ta:TA):TI:=fun σ H R=>ta σ H fun vs H1=>∃j:Int,vs=[.int j]/\-(2 ^ 62)<=j/\j<2 ^ 62/\R (Itr 0 j.toNat) H1
theorem Zbg {a:Expr}{ta:TA}{p pos:Pos}(hg:Gl X "range")(hm:X.mg "range"=none)(ha:PA X [a] ta)(hs:starEach [a] X.env=[(false,eval a X.env)]:=by rfl):PI X tg (.Call (.Name "range" p) [a] [] pos) (ZeI ta):=by
 intro pins s σ H R I h
 refine Call_ (Xb I hg hm boot_range (PyProof.Rows.callWith_type1 (ZT (ha pos pins s σ H _ I h) fun us s1 ⟨vs,H1,I1,r1,q1⟩=>?_) hs rfl))
 obtain⟨j,e,q1,q2,q⟩:=q1
 subst e
 cases r1 with
 |cons r rr=>
  cases rr
  obtain⟨t,rfl⟩:=r
  exact call_range_1 (Zcs I1 (by omega) (by omega) q1 q2 (by simpa using q))
def Zhc (wi:TI)(g:TG)(tb:TS):TS:=fun D σ H=>wi σ H fun J H1=>∃W:Nat->Nat->St->Hp->Prop,(∃m,W 0 m σ H1)/\∀i m σ H,W i m σ H->
 (J.stop i H/\D.nx σ H)\/(J.go i H/\∃N:St->Hp->Prop,(∀ σ' H',N σ' H'->∃m',m'<m/\W (i+1) m' σ' H')/\∀x H',J.yld i H x H'->g x σ H' fun σ2 H2=>tb {D with nx:=N,ct:=N,bk:=D.nx} σ2 H2)
def J7 (fp:List Addr)(h:Heap):List (Addr×Obj):=fp.filterMap fun b=>(h.get? b).map fun o=>(b,o)
theorem Y7 {fp:List Addr}{h:Heap}{b:Addr}{o:Obj}(hb:b∈fp)(e:h.get? b=some o):(b,o)∈J7 fp h:=List.mem_filterMap.mpr ⟨b,hb,by rw[e];rfl⟩
theorem Zbm {fp:List Addr}{h:Heap}{p:Addr×Obj}(hp:p∈J7 fp h):p.1∈fp/\h.get? p.1=some p.2:=by
 obtain⟨b,hb,e⟩:=List.mem_filterMap.mp hp
 cases q:h.get? b with
 |none=>rw[q] at e;cases e
 |some o=>
  rw[q] at e
  have e':(b,o)=p:=Option.some.inj e
  subst e'
  exact⟨hb,q⟩
theorem Inv.pinned {pins:List (Addr×Obj)}{σ:St}{H:Hp}{s:Shared}{fp:List Addr}(I:Inv X pins σ H s)(hf:∀b∈fp,XD X pins H b)(ho:∀b∈fp,∃o,s.heap.get? b=some o/\∀v,o.data≠.cell v):Inv X (pins++J7 fp s.heap) σ H s:=
 I.pins_of fun p hp=>(List.mem_append.mp hp).elim (fun z=>I.pin p (List.mem_append_right _ z)) fun z=>by
  obtain⟨hb,e⟩:=Zbm z
  obtain⟨f0,f1,f2,_⟩:=hf p.1 hb
  obtain⟨o,e',d⟩:=ho p.1 hb
  rw[e] at e';cases e'
  exact⟨e,f0,f1,f2,d⟩
theorem Inv.unpinned {pins pl:List (Addr×Obj)}{σ:St}{H:Hp}{s:Shared}(I:Inv X (pins++pl) σ H s):Inv X pins σ H s:=I.pins_of fun p hp=>I.pin p (List.mem_append_right _ (List.mem_append_left _ hp))
theorem Yr {iter:Expr}{body:List Stmt}{wi:TI}{g:TG}{tb:TS}{pos:Pos}(hp:PassesOwn (model X.prog X.w) X.A X.env X.xe)(hc:X.calm=true)(hi:PI X tg iter wi)(hg:PG X tg g)(hb:X6 X body tb)
  (hs:∀x,foldedSetIterable iter X.env x=pure x:=by intro _;rfl):PS X (.For tg iter body [] pos) (Zhc wi g tb):=by
 intro pins s σ H D I h
 refine wpAny_For (ZT (hi pins s σ H _ I h) fun v s1 h1=>ZT h1 fun itv s2 h2=>?_) hs
 obtain⟨it,fp,tn,J,H2,e,I2,T,st2,f2,W,⟨m0,w0⟩,turn⟩:=h2
 subst e
 have stat:∀{H':Hp},(∀b∈fp,H' b=none)->∀b∈fp,XD X pins H' b:=fun hn b hb=>⟨hn b hb,(f2 b hb).2⟩
 refine codeAny_forLoop_any (fun n s'=>∃i σ' H',Inv X pins σ' H' s'/\tn i s'.heap/\(∀b∈fp,H' b=none)/\W i n σ' H') ?_ m0 ⟨0,σ,H2,I2,st2,fun b hb=>(f2 b hb).1,w0⟩
 rintro n s3 ⟨i,σ3,H3,I3,st3,fr3,w3⟩
 rcases turn i n σ3 H3 w3 with ⟨stop,qn⟩|⟨go,N,hN,step⟩
 ·refine wpAny_passesOwn hp (ZT (T.done X rfl rfl rfl hc i pins s3 σ3 H3 X.xe I3 (stat fr3) st3 stop) fun r s4 ⟨hr,I4⟩=>?_)
  subst hr
  exact wpAny_execs_nil ⟨σ3,H3,I4,qn⟩
 ·refine wpAny_passesOwn hp (ZT (T.item X rfl rfl rfl hc i pins s3 σ3 H3 X.xe I3 (stat fr3) st3 go) fun r s4 ⟨u,hr,h4⟩=>?_)
  subst hr
  refine wpAny_passesOwn hp (ZT h4 fun _ s5 ⟨x,H5,I5,r5,y5,st5,fr5⟩=>?_)
  have I5':=I5.pinned (stat fr5) (T.obj _ _ st5)
  refine wpAny_passesOwn hp (ZT (hg _ s5 σ3 H5 x u _ I5' r5 (step x H5 y5)) fun _ s6 ⟨σ6,H6,I6,q6⟩=>?_)
  refine wpAny_passesOwn hp (ZT (hb _ s6 σ6 H6 _ I6 q6) fun f s7 q7=>?_)
  have again:∀{σ7:St}{H7:Hp},Inv X (pins++J7 fp s5.heap) σ7 H7 s7->N σ7 H7->∃m,m<n/\∃i σ' H',Inv X pins σ' H' s7/\tn i s7.heap/\(∀b∈fp,H' b=none)/\W i m σ' H':=fun {σ7 H7} I7 n7=>by
   obtain⟨m',hm,w7⟩:=hN σ7 H7 n7
   refine⟨m',hm,i+1,σ7,H7,I7.unpinned,T.keep _ _ _ st5 fun b hb o e=>(I7.pin (b,o) (List.mem_append_right _ (List.mem_append_right _ (Y7 hb e)))).1,fun b hb=>?_,w7⟩
   obtain⟨o,e,d⟩:=T.obj _ _ st5 b hb
   exact (I7.pin (b,o) (List.mem_append_right _ (List.mem_append_right _ (Y7 hb e)))).2.1
  cases f with
  |next=>obtain⟨σ7,H7,I7,n7⟩:=q7;exact again I7 n7
  |cont=>obtain⟨σ7,H7,I7,n7⟩:=q7;exact again I7 n7
  |brk=>obtain⟨σ7,H7,I7,q7⟩:=q7;exact⟨σ7,H7,I7.unpinned,q7⟩
  |ret v=>obtain⟨x7,σ7,H7,I7,r7,q7⟩:=q7;exact⟨x7,σ7,H7,I7.unpinned,r7,q7⟩
end
theorem Y0 {lo:Int}{n:Nat}{g:TG}{tb:TS}{D:Wx}{σ:St}{H:Hp}(Pv:Nat->St->Hp->Prop)(h0:Pv 0 σ H)
  (hs:∀i σ H,i<n->Pv i σ H->g (.int (lo+i)) σ H fun σ2 H2=>tb {D with nx:=Pv (i+1),ct:=Pv (i+1),bk:=D.nx} σ2 H2) (hd:∀ σ H,Pv n σ H->D.nx σ H) :
  ∃W:Nat->Nat->St->Hp->Prop,(∃m,W 0 m σ H)/\∀i m σ H,W i m σ H->
   ((Itr lo n).stop i H/\D.nx σ H)\/((Itr lo n).go i H/\∃N:St->Hp->Prop,(∀ σ' H',N σ' H'->∃m',m'<m/\W (i+1) m' σ' H')/\∀x H',(Itr lo n).yld i H x H'->g x σ H' fun σ2 H2=>tb {D with nx:=N,ct:=N,bk:=D.nx} σ2 H2):=by
 refine⟨fun i m σ H=>m=n-i/\i<=n/\Pv i σ H,⟨n,by simp,Nat.zero_le _,h0⟩,?_⟩
 rintro i m σ H ⟨rfl,hi,p⟩
 by_cases hlt:i<n
 ·refine .inr ⟨hlt,Pv (i+1),fun σ' H' p'=>⟨n-(i+1),by omega,rfl,hlt,p'⟩,fun x H' y=>?_⟩
  obtain⟨e,y⟩:=y
  subst e y
  exact hs i σ _ hlt p
 ·have e:i=n:=by omega
  subst e
  exact .inl ⟨Zq _,hd σ H p⟩
abbrev R2:=V->V->Hp->VK->Prop
def Jb (X:Cx)(f:Value->Value->Sem Value)(r:R2):Prop:=
 ∀(pins:List (Addr×Obj)) (s:Shared) (σ:St) (H:Hp) (x y:V) (v u:Value) (Q:VK),Inv X pins σ H s->RelV x v->RelV y u->r x y H Q->
  wpAny (model X.prog X.w) X.A (f v u) (EP X pins σ Q) X.xe s
def ZR (X:Cx)(f:Value)(r:List V->Hp->VK->Prop):Prop:=
 ∀(pins:List (Addr×Obj)) (s:Shared) (σ:St) (H:Hp) (xs:List V) (us:List Value) (Q:VK),Inv X pins σ H s->ZC xs us->r xs H Q->
  wpAny (model X.prog X.w) X.A (call f us) (EP X pins σ Q) X.xe s
def Zhx (X:Cx)(r:V->Hp->(Bool->Hp->Prop)->Prop):Prop:=
 ∀(pins:List (Addr×Obj)) (s:Shared) (σ:St) (H:Hp) (x:V) (v:Value) (Q:Bool->Hp->Prop),Inv X pins σ H s->RelV x v->r x H Q->
  wpAny (model X.prog X.w) X.A (truthy v) (TP X pins σ Q) X.xe s
def X7 (r:R2)(ta tb:TE):TE:=fun σ H Q=>ta σ H fun x H1=>tb σ H1 fun y H2=>r x y H2 Q
def rI (C:Int->Int->Prop)(g:Int->Int->V):R2:=fun x y H Q=>∃i j,x=.int i/\y=.int j/\C i j/\Q (g i j) H
def rI0 (g:Int->Int->V):R2:=fun x y H Q=>∃i j,x=.int i/\y=.int j/\Q (g i j) H
section
variable {X:Cx}{a b c:Expr}{ta tb tc:TE}{pos:Pos}
theorem ZfJ (ha:PE X a ta)(hb:PE X b tb){pins:List (Addr×Obj)}{s:Shared}{σ:St}{H:Hp}{R:V->V->Hp->Prop}(I:Inv X pins σ H s)
  (h:ta σ H fun x H1=>tb σ H1 fun y H2=>R x y H2) {Q:Value->Shared->Prop}{f:Value->Value->Sem Value}
  (hf:∀v u s2 x y H2,Inv X pins σ H2 s2->RelV x v->RelV y u->R x y H2->wpAny (model X.prog X.w) X.A (f v u) Q X.xe s2) :
  wpAny (model X.prog X.w) X.A (eval a X.env) (fun v s₁=>wpAny (model X.prog X.w) X.A (eval b X.env) (fun u s₂=>wpAny (model X.prog X.w) X.A (f v u) Q X.xe s₂) X.xe s₁) X.xe s:=by
 refine ZT (ha pins s σ H _ I h) fun v s1 ⟨x,H1,I1,r1,q1⟩=>?_
 refine ZT (hb pins s1 σ H1 _ I1 q1) fun u s2 ⟨y,H2,I2,r2,q2⟩=>?_
 exact hf v u s2 x y H2 I2 r1 r2 q2
theorem ZX {op:Operator}{r:R2}(ho:Jb X (binaryOp op) r)(ha:PE X a ta)(hb:PE X b tb):PE X (.BinOp a op b pos) (X7 r ta tb):=by
 intro pins s σ H Q I h
 exact wpAny_BinOp (ZfJ ha hb I h fun v u s2 x y H2 I2 rx ry q=>ho pins s2 σ H2 x y v u Q I2 rx ry q)
theorem opI {f:Value->Value->Sem Value}{C:Int->Int->Prop}{g:Int->Int->Int}
  (rule:∀(i j:Int) (t u:Tok) (s:Shared) (Q:Value->Shared->Prop) (E:Value->Shared->Prop),C i j->Q (.int (g i j) s.toks) {s with toks:=s.toks+1}->wpAny (model X.prog X.w) X.A (f (.int i t) (.int j u)) Q E s) :
  Jb X f (rI C fun i j=>.int (g i j)):=by
 intro pins s σ H x y v u Q I rx ry h
 obtain⟨i,j,rfl,rfl,hc,q⟩:=h
 obtain⟨t,rfl⟩:=rx
 obtain⟨t',rfl⟩:=ry
 exact rule i j t t' s _ _ hc ⟨.int (g i j),H,I.tok _,⟨_,rfl⟩,q⟩
theorem Zhm {f:Value->Value->Sem Value}{g:Int->Int->Int}
  (rule:∀(i j:Int) (t u:Tok) (s:Shared) (Q:Value->Shared->Prop) (E:Value->Shared->Prop),Q (.int (g i j) s.toks) {s with toks:=s.toks+1}->wpAny (model X.prog X.w) X.A (f (.int i t) (.int j u)) Q E s) :
  Jb X f (rI0 fun i j=>.int (g i j)):=by
 intro pins s σ H x y v u Q I rx ry h
 obtain⟨i,j,rfl,rfl,q⟩:=h
 obtain⟨t,rfl⟩:=rx
 obtain⟨t',rfl⟩:=ry
 exact rule i j t t' s _ _ ⟨.int (g i j),H,I.tok _,⟨_,rfl⟩,q⟩
theorem ZdL {f:Value->Value->Sem Value}{g:Int->Int->Bool}
  (rule:∀(i j:Int) (t u:Tok) (s:Shared) (Q:Value->Shared->Prop) (E:Value->Shared->Prop),Q (.bool (g i j)) s->wpAny (model X.prog X.w) X.A (f (.int i t) (.int j u)) Q E s) :
  Jb X f (rI0 fun i j=>.bl (g i j)):=by
 intro pins s σ H x y v u Q I rx ry h
 obtain⟨i,j,rfl,rfl,q⟩:=h
 obtain⟨t,rfl⟩:=rx
 obtain⟨t',rfl⟩:=ry
 exact rule i j t t' s _ _ ⟨.bl (g i j),H,I,rfl,q⟩
def ZhD (i j:Int):Prop:=0<=j/\j<=1000000/\i.natAbs<2 ^ 64
def Zaq (i j:Int):Prop:=(-(2 ^ 64)<i/\i<2 ^ 64)\/(-(2 ^ 64)<j/\j<2 ^ 64)
theorem Zaq.ok {i j:Int}(h:Zaq i j):IntMulOk i j:=by
 rcases h with ⟨h1,h2⟩|⟨h1,h2⟩
 ·exact .of_left (intBits_le_64 h1 h2)
 ·exact .of_right (intBits_le_64 h1 h2)
theorem YA:Jb X (binaryOp .Add) (rI0 fun i j=>.int (i+j)):=Zhm fun _ _ _ _ _ _ _ q=>add_int q
theorem Vk:Jb X (binaryOp .Mult) (rI Zaq fun i j=>.int (i*j)):=opI fun _ _ _ _ _ _ _ hc q=>mul_int q hc.ok
theorem WK:Jb X (binaryOp .Mod) (rI (fun _ j=>0<j) fun i j=>.int (i % j)):=opI fun i j _ _ _ _ _ hc q=>by
 have h1:(0:Int)<j:=hc
 exact mod_int' (by omega) (by rw[Int.fmod_eq_emod_of_nonneg i (by omega)];exact q)
theorem Zfh:Jb X (binaryOp .Pow) (rI ZhD fun i j=>.int (i ^ j.toNat)):=opI fun _ _ _ _ _ _ _ hc q=>pow_int_small hc.1 hc.2.1 hc.2.2 q
end
def Zf8:V->V->Bool
 | .non,.non=>true | .non,.int _=>true | .int _,.non=>true | .non,.bl _=>true | .bl _,.non=>true | .non,.str _=>true | .str _,.non=>true
 | .int _,.int _=>true | .bl _,.bl _=>true | .str _,.str _=>true | .byt _,.byt _=>true
 | .int _,.str _=>true | .str _,.int _=>true | .bl _,.str _=>true | .str _,.bl _=>true
 |_,_=>false
def rEq:R2:=fun x y H Q=>Zf8 x y=true/\Q (.bl (decide (x=y))) H
def rNe:R2:=fun x y H Q=>Zf8 x y=true/\Q (.bl (!decide (x=y))) H
theorem ZaX {i j:Int}:decide (V.int i=V.int j)=(i == j):=by
 rw[Bool.eq_iff_iff]
 simp
theorem Zdc {i j:Bool}:decide (V.bl i=V.bl j)=(i == j):=by
 rw[Bool.eq_iff_iff]
 simp
theorem ZaW {i j:Str}:decide (V.str i=V.str j)=(i == j):=by
 rw[Bool.eq_iff_iff]
 simp
theorem ZaY {i j:Array UInt8}:decide (V.byt i=V.byt j)=(i.toList == j.toList):=by
 rw[Bool.eq_iff_iff]
 cases i
 cases j
 simp
section
variable {X:Cx}{a b c:Expr}{ta tb tc:TE}{pos:Pos}
theorem ZE {pins:List (Addr×Obj)}{σ:St}{H:Hp}{s:Shared}{Q:VK}{k k':Bool}(I:Inv X pins σ H s)(q:Q (.bl k) H)(e:k=k'):EP X pins σ Q (.bool k') s:=by
 subst e
 exact⟨.bl k,H,I,rfl,q⟩
theorem XQ:Jb X (compareOp .Eq) rEq:=by
 intro pins s σ H x y v u Q I rx ry h
 obtain⟨hs,q⟩:=h
 cases x with
 |non=>
  cases rx
  cases y with
  |non=>cases ry;exact PySem.EqNone.eq_none_none (ZE I q (by simp))
  |bl j=>cases ry;exact PySem.EqNone.eq_none_bool (ZE I q (by simp))
  |int j=>obtain⟨t',rfl⟩:=ry;exact PySem.EqNone.eq_none_int (ZE I q (by simp))
  |str j=>obtain⟨t',rfl⟩:=ry;exact PySem.EqNone.eq_none_str (ZE I q (by simp))
  |_=>exact absurd (show false=true from hs) Bool.false_ne_true
 |bl i=>
  cases rx
  cases y with
  |non=>cases ry;exact PySem.EqNone.eq_bool_none (ZE I q (by simp))
  |bl j=>cases ry;exact eq_bool (ZE I q Zdc)
  |str j=>obtain⟨t',rfl⟩:=ry;exact PySem.EqMixed.eq_bool_str (ZE I q (by simp))
  |_=>exact absurd (show false=true from hs) Bool.false_ne_true
 |int i=>
  obtain⟨t,rfl⟩:=rx
  cases y with
  |non=>cases ry;exact PySem.EqNone.eq_int_none (ZE I q (by simp))
  |int j=>obtain⟨t',rfl⟩:=ry;exact eq_int (ZE I q ZaX)
  |str j=>obtain⟨t',rfl⟩:=ry;exact PySem.EqMixed.eq_int_str (ZE I q (by simp))
  |_=>exact absurd (show false=true from hs) Bool.false_ne_true
 |str i=>
  obtain⟨t,rfl⟩:=rx
  cases y with
  |non=>cases ry;exact PySem.EqNone.eq_str_none (ZE I q (by simp))
  |bl j=>cases ry;exact PySem.EqMixed.eq_str_bool (ZE I q (by simp))
  |int j=>obtain⟨t',rfl⟩:=ry;exact PySem.EqMixed.eq_str_int (ZE I q (by simp))
  |str j=>obtain⟨t',rfl⟩:=ry;exact eq_str (ZE I q ZaW)
  |_=>exact absurd (show false=true from hs) Bool.false_ne_true
 |byt i=>
  obtain⟨t,rfl⟩:=rx
  cases y with
  |byt j=>obtain⟨t',rfl⟩:=ry;exact PySem.W.eq_bytes (ZE I q ZaY)
  |_=>exact absurd (show false=true from hs) Bool.false_ne_true
 |_=>cases y <;> exact absurd (show false=true from hs) Bool.false_ne_true
theorem XN:Jb X (compareOp .NotEq) rNe:=by
 intro pins s σ H x y v u Q I rx ry h
 obtain⟨hs,q⟩:=h
 cases x with
 |non=>
  cases rx
  cases y with
  |non=>cases ry;exact PySem.EqNone.ne_none_none (ZE I q (by simp))
  |bl j=>cases ry;exact PySem.EqNone.ne_none_bool (ZE I q (by simp))
  |int j=>obtain⟨t',rfl⟩:=ry;exact PySem.EqNone.ne_none_int (ZE I q (by simp))
  |str j=>obtain⟨t',rfl⟩:=ry;exact PySem.EqNone.ne_none_str (ZE I q (by simp))
  |_=>exact absurd (show false=true from hs) Bool.false_ne_true
 |bl i=>
  cases rx
  cases y with
  |non=>cases ry;exact PySem.EqNone.ne_bool_none (ZE I q (by simp))
  |bl j=>cases ry;exact ne_bool (ZE I q (congrArg not Zdc))
  |str j=>obtain⟨t',rfl⟩:=ry;exact PySem.EqMixed.ne_bool_str (ZE I q (by simp))
  |_=>exact absurd (show false=true from hs) Bool.false_ne_true
 |int i=>
  obtain⟨t,rfl⟩:=rx
  cases y with
  |non=>cases ry;exact PySem.EqNone.ne_int_none (ZE I q (by simp))
  |int j=>obtain⟨t',rfl⟩:=ry;exact ne_int (ZE I q (congrArg not ZaX))
  |str j=>obtain⟨t',rfl⟩:=ry;exact PySem.EqMixed.ne_int_str (ZE I q (by simp))
  |_=>exact absurd (show false=true from hs) Bool.false_ne_true
 |str i=>
  obtain⟨t,rfl⟩:=rx
  cases y with
  |non=>cases ry;exact PySem.EqNone.ne_str_none (ZE I q (by simp))
  |bl j=>cases ry;exact PySem.EqMixed.ne_str_bool (ZE I q (by simp))
  |int j=>obtain⟨t',rfl⟩:=ry;exact PySem.EqMixed.ne_str_int (ZE I q (by simp))
  |str j=>obtain⟨t',rfl⟩:=ry;exact ne_str (ZE I q (congrArg not ZaW))
  |_=>exact absurd (show false=true from hs) Bool.false_ne_true
 |byt i=>
  obtain⟨t,rfl⟩:=rx
  cases y with
  |byt j=>obtain⟨t',rfl⟩:=ry;exact PySem.W.ne_bytes (ZE I q (congrArg not ZaY))
  |_=>exact absurd (show false=true from hs) Bool.false_ne_true
 |_=>cases y <;> exact absurd (show false=true from hs) Bool.false_ne_true
theorem XO:Jb X (compareOp .Lt) (rI0 fun i j=>.bl (decide (i<j))):=ZdL fun _ _ _ _ _ _ _ q=>lt_int q
theorem ZcK:Jb X (compareOp .LtE) (rI0 fun i j=>.bl (decide (i<=j))):=ZdL fun _ _ _ _ _ _ _ q=>le_int q
theorem VS:Jb X (compareOp .Gt) (rI0 fun i j=>.bl (decide (j<i))):=ZdL fun _ _ _ _ _ _ _ q=>gt_int q
theorem Zgk:Jb X (compareOp .GtE) (rI0 fun i j=>.bl (decide (j<=i))):=ZdL fun _ _ _ _ _ _ _ q=>ge_int q
theorem ZJ (b:Expr){op:CmpOp}(h:op≠.In:=by decide)(h2:op≠.NotIn:=by decide):behindInMarks op b=false:=by
 have e1:(op == CmpOp.In)=false:=by cases op <;> first|rfl|exact absurd rfl h
 have e2:(op == CmpOp.NotIn)=false:=by cases op <;> first|rfl|exact absurd rfl h2
 cases b <;> simp[behindInMarks,e1,e2]
theorem Vj {op:CmpOp}{r:R2}(ho:Jb X (compareOp op) r)(ha:PE X a ta)(hb:PE X b tb)(hm:behindInMarks op b=false):PE X (.Compare a [op] [b] pos) (X7 r ta tb):=by
 intro pins s σ H Q I h
 exact wpAny_Compare1 (ZfJ ha hb I h fun v u s2 x y H2 I2 rx ry q=>ho pins s2 σ H2 x y v u Q I2 rx ry q) hm
def ZfW (t:TE):TT:=fun σ H Q=>t σ H fun x H'=>∃k,x=.bl k/\Q k H'
theorem ZF {op:CmpOp}{r:R2}(ho:Jb X (compareOp op) r)(ha:PE X a ta)(hb:PE X b tb)(hm:behindInMarks op b=false):PT X (.Compare a [op] [b] pos) (ZfW (X7 r ta tb)):=by
 intro pins s σ H Q I h
 refine wpAny_isTrue_Compare1 (ZT (ha pins s σ H _ I h) fun v s1 ⟨x,H1,I1,r1,q1⟩=>ZT (hb pins s1 σ H1 _ I1 q1) fun u s2 ⟨y,H2,I2,r2,q2⟩=>
  ZT (ho pins s2 σ H2 x y v u _ I2 r1 r2 q2) fun c s3 ⟨z,H3,I3,r3,k,e,q3⟩=>?_) hm
 subst e
 cases r3
 exact wpAny_truthy_bool ⟨H3,I3,q3⟩
def Ze1 (r r':R2)(ta tb tc:TE):TE:=fun σ H Q=>ta σ H fun x H1=>tb σ H1 fun y H2=>r x y H2 fun z H3=>∃k,z=.bl k/\
 (if k=true then tc σ H3 fun w' H4=>r' y w' H4 Q else Q (.bl false) H3)
theorem VR {op op':CmpOp}{r r':R2}(ho:Jb X (compareOp op) r)(ho':Jb X (compareOp op') r')(ha:PE X a ta)(hb:PE X b tb)(hc:PE X c tc)
  (hm:lastMarks [op,op'] [b,c]=false:=by with_unfolding_all rfl):PE X (.Compare a [op,op'] [b,c] pos) (Ze1 r r' ta tb tc):=by
 intro pins s σ H Q I h
 refine Compare_chain (ZT (ha pins s σ H _ I h) fun v s1 ⟨x,H1,I1,r1,q1⟩=>chain_link (ZT (hb pins s1 σ H1 _ I1 q1) fun u s2 ⟨y,H2,I2,r2,q2⟩=>
  ZT (ho pins s2 σ H2 x y v u _ I2 r1 r2 q2) fun d s3 ⟨z,H3,I3,r3,k,e,q3⟩=>?_)) hm
 subst e
 cases r3
 refine wpAny_truthy_bool ?_
 cases k with
 |false=>exact ite_ff ⟨.bl false,H3,I3,rfl,q3⟩
 |true=>exact ite_tt (chain_last (ZT (hc pins s3 σ H3 _ I3 q3) fun w' s4 ⟨z',H4,I4,r4,q4⟩=>ho' pins s4 σ H4 y z' u w' Q I4 r2 r4 q4))
def ZgH (K:PySem.W.Frag)(x:V)(H:Hp)(k:Bool):Prop:=
 match x with
 | .non=>k=false
 | .bl b=>k=b
 | .int i=>k=(i != 0)
 | .str y=>y.length<=sizeLine/\k=((y.length:Int) != 0)
 | .byt y=>y.size<=sizeLine/\k=((y.size:Int) != 0)
 | .ref p=>(∃xs,Wa K H p xs/\k = !xs.isEmpty)\/(∃xs,WG K H p xs/\k = !xs.isEmpty)\/∃kvs,H p=some (.dK kvs)/\k = !kvs.isEmpty
 |_=>False
theorem U9 {κ:Type}{kvs:List (κ×V)}{vs:List (κ×Value)}(r:KV kvs vs):(!vs.isEmpty) = !kvs.isEmpty:=by
 cases r <;> rfl
theorem Xg {xs:List V}{its:List Value}(r:ZC xs its):(!its.toArray.isEmpty) = !xs.isEmpty:=by
 cases r <;> simp
theorem Jg:(sizeLine:Nat)<2 ^ 63:=by rw[sizeLine_eq];decide
theorem ZeW:Zhx X (fun x H Q=>∃k,ZgH X.K x H k/\Q k H):=by
 intro pins s σ H x v Q I rx h
 obtain⟨k,e,q⟩:=h
 have hl:=Jg
 have hs:sizeLine=16777216:=sizeLine_eq
 cases x with
 |non=>
  cases rx
  have e':k=false:=e
  subst e'
  exact truthy_none ⟨H,I,q⟩
 |bl b=>
  cases rx
  have e':k=b:=e
  subst e'
  exact wpAny_truthy_bool ⟨H,I,q⟩
 |int i=>
  obtain⟨t,rfl⟩:=rx
  have e':k=(i != 0):=e
  subst e'
  exact PySem.P.truthy_int ⟨H,I,q⟩
 |str y=>
  obtain⟨t,rfl⟩:=rx
  obtain⟨hy,e'⟩:y.length<=sizeLine/\k=((y.length:Int) != 0):=e
  subst e'
  exact PySem.P.truthy_str (by omega) ⟨H,I.tok _,q⟩
 |byt y=>
  obtain⟨t,rfl⟩:=rx
  obtain⟨hy,e'⟩:y.size<=sizeLine/\k=((y.size:Int) != 0):=e
  subst e'
  exact PySem.W.truthy_bytes (by omega) ⟨H,I.tok _,q⟩
 |ref p=>
  cases rx
  have e':(∃xs,Wa X.K H p xs/\k = !xs.isEmpty)\/(∃xs,WG X.K H p xs/\k = !xs.isEmpty)\/∃kvs,H p=some (.dK kvs)/\k = !kvs.isEmpty:=e
  rcases e' with ⟨xs,hx,e'⟩|⟨xs,hx,e'⟩|⟨kvs,hx,e'⟩
  ·subst e'
   obtain⟨its,r,pl,hz⟩:=I.list hx
   have hlen:=r.length
   exact wpAny_truthy_list pl.isList (by simp only[Zh];omega) ⟨H,I.tok _,by rw[Xg r];exact q⟩
  ·subst e'
   obtain⟨its,r,pl,hz⟩:=I.tuple hx
   have hlen:=r.length
   exact truthy_tuple pl (by simp only[Zh];omega) ⟨H,I.tok _,by rw[Xg r];exact q⟩
  ·subst e'
   obtain⟨hz,hS,vs,r,m⟩:kvs.length<=sizeLine/\(p == sysModules)=false/\∃vs,KV kvs vs/\s.heap.DictOf (ZV X.prog X.w) p vs:=I.hok p _ hx
   have hlen:kvs.length=vs.length:=Paired.length r
   exact wpAny_truthy_dict hS m (by omega) ⟨H,I.tok _,by rw[U9 r];exact q⟩
 |_=>exact (show False from e).elim
theorem Zcx (ha:PE X a ta)(he:∀whole,isTrue a X.env whole=(do let v <-whole;standAt a.pos;holding [v] (truthy v))) :
  PT X a (fun σ H Q=>ta σ H fun x H'=>∃k,ZgH X.K x H' k/\Q k H'):=by
 intro pins s σ H Q I h
 exact isTrue_plain (ZT (ha pins s σ H _ I h) fun v s1 ⟨x,H1,I1,r1,q1⟩=>ZeW pins s1 σ H1 x v Q I1 r1 q1) (he _)
theorem vals1 {x:V}{us:List Value}(r:ZC [x] us):∃u,us=[u]/\RelV x u:=by
 cases r with
 |cons r1 r2=>cases r2;exact⟨_,rfl,r1⟩
theorem Us:ZR X (.builtin "abs") (fun xs H Q=>∃i,xs=[.int i]/\Q (.int (if i<0 then -i else i)) H):=by
 intro pins s σ H xs us Q I r h
 obtain⟨i,rfl,q⟩:=h
 obtain⟨u,rfl,t,rfl⟩:=vals1 r
 exact call_abs_int fun u tk=>⟨.int (if i<0 then -i else i),H,I.tok _,⟨_,rfl⟩,q⟩
end
structure ZfM (h:Heap)(x dx C:Addr)(mA:Str->Option Value):Prop where
 obj:h.get? x=some (PySem.W.instObj C dx)
 ns:h.Ns1 dx mA
 ne:dx≠x
theorem Zbr {h:Heap}{dx:Addr}{mA:Str->Option Value}(n:h.Ns1 dx mA):∃od,h.get? dx=some od/\∀name,PySem.W.lookIn name od=some (mA name):=by
 obtain⟨o,es,ep,ho,hd,hk,_,hm⟩:=n
 refine⟨o,ho,fun name=>?_⟩
 have e:=hm name
 unfold nsFind findBy at e
 rw[<-Array.find?_toList] at e
 unfold PySem.W.lookIn
 rw[hd]
 dsimp only
 split
 ·rename_i y q
  rw[q] at e
  exact congrArg some e
 ·rename_i q
  rw[q] at e
  have a:es.toList.any (·.refKey)=false:=by
   rw[List.any_eq_false]
   intro y hy
   obtain⟨z,t,hkey⟩:=hk y (Array.mem_toList_iff.mp hy)
   simp[DictEntry.refKey,hkey]
  have a':¬es.toList.any (·.refKey)=true:=by rw[a];exact Bool.false_ne_true
  rw[if_neg a']
  exact congrArg some e
theorem ZfM.look {h:Heap}{x dx C:Addr}{mA:Str->Option Value}(I:ZfM h x dx C mA):∃od,PySem.W.InstAt h x (PySem.W.instObj C dx) C (some od)/\∀name,PySem.W.lookIn name od=some (mA name):=
 let ⟨od,ho,hl⟩:=Zbr I.ns
 ⟨od,⟨I.obj,rfl,rfl,ho⟩,hl⟩
section
variable {prog:Program}{w:World}{A:Around}{E:Value->Shared->Prop}{s:Shared}{K:PySem.W.Frag}{x dx C f:Addr}{mA:Str->Option Value}{name:Str}{v:Value}
end
theorem WR.some_of {v:V}{o:Option Value}(r:WR (some v) o):∃u,o=some u/\RelV v u:=by
 cases o with
 |none=>exact (show False from r).elim
 |some u=>exact⟨u,rfl,r⟩
theorem ZbD {v:V}{u:Value}(r:RelV v u):PySem.W.handedIn u=true:=by
 cases v with
 |non=>cases (show u=Value.none from r);rfl
 |bl b=>cases (show u=Value.bool b from r);rfl
 |int i=>obtain⟨t,e⟩:=(show ∃t,u=Value.int i t from r);cases e;rfl
 |str x=>obtain⟨t,e⟩:=(show ∃t,u=Value.str x t from r);cases e;rfl
 |byt b=>obtain⟨t,e⟩:=(show ∃t,u=Value.bytes b t from r);cases e;rfl
 |flt b=>obtain⟨t,e⟩:=(show ∃t,u=Value.float b t from r);cases e;rfl
 |ref a=>cases (show u=Value.ref a from r);rfl
 |ty n=>cases (show u=Value.type n from r);rfl
section
variable {P:Program}{w:World}{H H':Hp}{h h':Heap}{a C dx:Addr}{fs fs':List (Str×V)}
theorem Zd9 (hok:Ww P w H h)(e:H a=some (.ins C dx fs)):∃mA,ZfM h a dx C mA/\(∀f,WR (fs.lookup f) (mA f))/\PySem.Within mA (fs.map (·.1))/\fs.length<=1000/\H dx=some (.own a):=by
 obtain⟨d,z,ne,ob,mA,n,r,q⟩:=(show ZG P w H h a (.ins C dx fs) from hok a _ e)
 exact⟨mA,⟨ob,n,ne⟩,r,q,z,d⟩
end
structure Cls (K:PySem.W.Frag)(C:Addr):Prop where
 pg:PySem.W.plainGet K C Str.empty=true
 hd:PySem.W.hasDictIn K C=true
 po:PySem.W.plainOver K C=true
 sa:PySem.W.findIn K (.ref C) "__setattr__"=some (some (.builtin "object.__setattr__"))
theorem Cls.get {K:PySem.W.Frag}{C:Addr}(c:Cls K C)(f:Str):PySem.W.plainGet K C f=true:=c.pg
section
variable {X:Cx}{pins:List (Addr×Obj)}{σ:St}{H:Hp}{s:Shared}{a C dx:Addr}{fs:List (Str×V)}{f:Str}{v:V}{A:Around}{E:Value->Shared->Prop}
theorem Zei {prog:Program}{w:World}{env:Env}{e:Expr}{f:Str}{pos:Pos}{s:Shared}{Q:Value->Shared->Prop}(hb:attributeBase e f env (eval e env)=eval e env)
  (h:wpAny (model prog w) A (eval e env) (fun o s₁=>wpAny (model prog w) A (getAttr o f true) Q E s₁) E s):wpAny (model prog w) A (eval (.Attribute e f pos) env) Q E s:=
 Attribute_any_ h (by rw[arm_eval_Attribute,hb])
end
section
variable {X:Cx}{o e value:Expr}{f:Str}{pos pos' tpos:Pos}{ta tv:TE}
end
section
variable {X:Cx}{pins:List (Addr×Obj)}{σ:St}{H:Hp}{s:Shared}{A:Around}{E:Value->Shared->Prop}{Q:Value->Shared->Prop}{c:Value}{b:Bool}
inductive W6 (K:PySem.W.Frag) (H:Hp):V->Value->Prop where
 |non:W6 K H .non (.type "NoneType")
 |bl (x:Bool):W6 K H (.bl x) (.type "bool")
 |int (i:Int):W6 K H (.int i) (.type "int")
 |str (x:Str):W6 K H (.str x) (.type "str")
 |flt (x:UInt64):W6 K H (.flt x) (.type "float")
 |lst {a:Addr}{xs:List V} (e:H a=some (.lst xs)):W6 K H (.ref a) (.type "list")
 |frz {a:Addr}{o:Obj}{xs:List V} (e:H a=some (.frz o (.lst xs))):W6 K H (.ref a) (.type "list")
 |tup {a:Addr}{xs:List V} (e:H a=some (.tup xs)):W6 K H (.ref a) (.type "tuple")
 |dK {a:Addr}{kvs:List (Z6×V)} (e:H a=some (.dK kvs)):W6 K H (.ref a) (.type "dict")
 |dT {a:Addr}{kvs:List (List Z6×V)} (e:H a=some (.dT kvs)):W6 K H (.ref a) (.type "dict")
 |ins {a C dx:Addr}{fs:List (Str×V)} (e:H a=some (.ins C dx fs)) (cl:Cls K C) (ha:PySem.W.findIn K (.ref C) "__class__"=some (some (.builtin "object.__class__")))
   (hn:PySem.W.specialIn K (.builtin "object.__class__") "__get__"=some (some (.builtin "getset_descriptor.__get__"))) (htk:PySem.W.takesIn K (.builtin "object.__class__")=some true)
   (hm:PySem.W.mroIn K C (.type "object")=some true):W6 K H (.ref a) (.ref C)
theorem ZbA {x:V}{u t:Value}(I:Inv X pins σ H s)(rx:RelV x u)(ty:W6 X.K H x t)(e:PySem.W.kitOne X.K t c=some b)(h:∀tk,Q (.bool b) {s with toks:=tk}) :
  wpAny (model X.prog X.w) A (call (.builtin "isinstance") [u,c]) Q E s:=by
 cases ty with
 |non=>cases (show u=Value.none from rx);exact PySem.W.kia_one PySem.W.kitx_none I.kIn True.intro e (fun z=>nomatch z) h
 |bl y=>cases (show u=Value.bool y from rx);exact PySem.W.kia_one PySem.W.kitx_bool I.kIn True.intro e (fun z=>nomatch z) h
 |int i=>obtain⟨t,q⟩:=(show ∃t,u=Value.int i t from rx);cases q;exact PySem.W.kia_one PySem.W.kitx_int I.kIn True.intro e (fun z=>nomatch z) h
 |str y=>obtain⟨t,q⟩:=(show ∃t,u=Value.str y t from rx);cases q;exact PySem.W.kia_one PySem.W.kitx_str I.kIn True.intro e (fun z=>nomatch z) h
 |flt y=>obtain⟨t,q⟩:=(show ∃t,u=Value.float y t from rx);cases q;exact PySem.W.kia_one PySem.W.kitx_float I.kIn True.intro e (fun z=>nomatch z) h
 | @lst a xs ea=>
  cases (show u=Value.ref a from rx)
  obtain⟨_,_,n,_,h1⟩:=(show ZG X.prog X.w H s.heap a (.lst xs) from I.hok a _ ea)
  exact PySem.W.kia_one PySem.W.kitx_list I.kIn ⟨_,h1,rfl⟩ e (fun z=>nomatch z) h
 | @frz a ob xs ea=>
  cases (show u=Value.ref a from rx)
  obtain⟨_,_,_,n,_,h1⟩:=(show ZG X.prog X.w H s.heap a (.frz ob (.lst xs)) from I.hok a _ ea)
  exact PySem.W.kia_one PySem.W.kitx_list I.kIn ⟨_,h1,rfl⟩ e (fun z=>nomatch z) h
 | @tup a xs ea=>
  cases (show u=Value.ref a from rx)
  obtain⟨_,_,_,p⟩:=(show ZG X.prog X.w H s.heap a (.tup xs) from I.hok a _ ea)
  obtain⟨o,h1,h2,_⟩:=p
  exact PySem.W.kia_one PySem.W.kitx_tuple I.kIn ⟨o,h1,h2⟩ e (fun z=>nomatch z) h
 | @dK a kvs ea=>
  cases (show u=Value.ref a from rx)
  obtain⟨_,_,vs,_,p⟩:=(show ZG X.prog X.w H s.heap a (.dK kvs) from I.hok a _ ea)
  obtain⟨o,es,ep,h1,h2,_⟩:=p
  exact PySem.W.kia_one PySem.W.kitx_dict I.kIn ⟨o,h1,h2.1⟩ e (fun z=>nomatch z) h
 | @dT a kvs ea=>
  cases (show u=Value.ref a from rx)
  obtain⟨_,_,xs,_,o,es,ep,h1,h2,_⟩:=(show ZG X.prog X.w H s.heap a (.dT kvs) from I.hok a _ ea)
  exact PySem.W.kia_one PySem.W.kitx_dict I.kIn ⟨o,h1,h2.1⟩ e (fun z=>nomatch z) h
 | @ins a C dx fs ea cl ha hn htk hm=>
  cases (show u=Value.ref a from rx)
  obtain⟨mA,O,_⟩:=Zd9 I.hok ea
  obtain⟨od,J,_⟩:=O.look
  exact PySem.W.kia_one (PySem.W.kitx_own (cl.get _) cl.hd ha hn htk hm) I.kIn J e (fun z=>nomatch z) h
end
structure Yb (k:Nat)(A:Around):Prop where
 hd:A.handled=none
 dp:A.depth+3*k+5<recursionLimit
 un:A.units+16*k+200<cLine
 gd:A.guards=some []
theorem Yb.mono {j k:Nat}{A:Around}(r:Yb k A)(h:j<=k):Yb j A:=⟨r.hd,by have:=r.dp;omega,by have:=r.un;omega,r.gd⟩
theorem Yb.deeper {k:Nat}{A:Around}(r:Yb (k+1) A)(env:Env):Yb k (A.deeper env):=
 ⟨r.hd,by have:=r.dp;show A.depth+1+3*k+5<_;omega,by have:=r.un;show A.units+3+16*k+200<_;omega,r.gd⟩
theorem U5 {A:Around}{C:Addr}{us:List Value}{kw:List (Str×Value)}:(A.under (.builtin "type.__call__" ⟨.ref C::us,kw⟩)).depth=A.depth+1:=by
 first|rfl|simp[Around.under,Code.weight,Code.isCreation,Code.isGuard,Code.isCaller,Code.frames,Code.isFrame,guardIds]
theorem U4 {A:Around}{C:Addr}{us:List Value}{kw:List (Str×Value)}:(A.under (.builtin "type.__call__" ⟨.ref C::us,kw⟩)).units=A.units+1:=by
 first|rfl|simp[Around.under,Code.cUnits,Code.frames,Code.isFrame]
theorem Yb.make {k:Nat}{A:Around}(r:Yb (k+1) A)(C:Addr)(us:List Value)(kw:List (Str×Value)):Yb k (A.under (.builtin "type.__call__" ⟨.ref C::us,kw⟩)):=
 ⟨r.hd,by have:=r.dp;rw[U5];omega,by have:=r.un;rw[U4];omega,by first|exact r.gd|(simpa [Around.under,Code.guards,Code.isGuard,guardIds] using r.gd)⟩
theorem Yb.depth {k:Nat}{A:Around}(r:Yb k A):A.depth<recursionLimit:=by have:=r.dp;omega
theorem Yb.units {k:Nat}{A:Around}(r:Yb k A):A.units+64<cLine:=by have:=r.un;omega
def Zf0:TA:=fun _ H Q=>Q [] H
def Zb4 (ta:TE)(tr:TA):TA:=fun σ H Q=>ta σ H fun x H1=>tr σ H1 fun xs H2=>Q (x::xs) H2
section
variable {X:Cx}{e:Expr}{es:List Expr}{te:TE}{t:TA}{pos:Pos}
theorem Zt:PA X [] Zf0:=fun _ _ _ _ H Q I h=>Calls.spliced_nil ⟨[],H,I,.nil,h⟩
theorem ZdK (ha:PE X e te)(hr:PA X es t)(hs:starEach (e::es) X.env=(false,eval e X.env)::starEach es X.env:=by rfl):PA X (e::es) (Zb4 te t):=by
 intro pos pins s σ H Q I h
 rw[hs]
 show wpAny _ _ (spliced ((false,eval e X.env)::backTo pos (starEach es X.env))) _ _ s
 refine Calls.spliced_cons (ZT (ha pins s σ H _ I h) fun u s1 ⟨x,H1,I1,r1,q1⟩=>?_)
 exact ZT (hr pos pins s1 σ H1 _ I1 q1) fun us s2 ⟨xs,H2,I2,r2,q2⟩=>⟨x::xs,H2,I2,.cons r1 r2,q2⟩
def ZfV (t:TA):TE:=fun σ H Q=>t σ H fun xs H1=>xs.length<=sizeLine/\∀p,H1 p=none->Q (.ref p) (upd H1 p (.tup xs))
def Zf2 (t:TA):TE:=fun σ H Q=>t σ H fun xs H1=>xs.length<=sizeLine/\∀p,H1 p=none->Q (.ref p) (upd H1 p (.lst xs))
theorem Ys {x1}(h:PA X es t):PE X (.Tuple es x1 pos) (ZfV t):=by
 intro pins s σ H Q I hq
 refine wpAny_Tuple_spliced (ZT (h pos pins s σ H _ I hq) fun us s1 ⟨xs,H1,I1,r,z,q⟩=>⟨by rw[<-r.length];exact z,?_⟩)
 have hf:H1 s1.heap.objs.size=none:=I1.hok.fresh (Zq _)
 refine⟨.ref s1.heap.objs.size,upd H1 s1.heap.objs.size (.tup xs),I1.laid (t':=s1.toks) (fun b u e=>Zn _ e) (Zq _) ?_,rfl,q _ hf⟩
 exact⟨z,us,r,⟨_,Zo _ rfl,rfl,_,rfl⟩⟩
theorem YM (h:PA X es t):PE X (.List es pos) (Zf2 t):=by
 intro pins s σ H Q I hq
 refine wpAny_List_spliced (ZT (h pos pins s σ H _ I hq) fun us s1 ⟨xs,H1,I1,r,z,q⟩=>⟨by rw[<-r.length];exact z,?_⟩)
 have hf:H1 s1.heap.objs.size=none:=I1.hok.fresh (Zq _)
 refine⟨.ref s1.heap.objs.size,upd H1 s1.heap.objs.size (.lst xs),I1.laid (t':=s1.toks) (fun b u e=>Zn _ e) (Zq _) ?_,rfl,q _ hf⟩
 exact⟨z,us,0,r,Zo _ rfl⟩
end
abbrev Sp:=List V->Hp->VK->XK->Prop
abbrev Jq:=List Env->Hp->Shared->XK->Value->Shared->Prop
structure VB (P:Program)(w:World)(K:PySem.W.Frag)(mg:Str->Option Value)(base:Heap)(A:Around)(outer:List Env)(s:Shared)(H:Hp):Prop where
 frames:A.frames=some outer
 mod:Mod K mg base
 bs:∀b o,base.get? b=some o->s.heap.get? b=some o/\H b=none
 bsz:base.objs.size<=s.heap.objs.size
 funs:s.heap.FunFrames base outer
 frf:∀b∈Uz outer,H b=none
 hok:Ww P w H s.heap
 bare:AllBare s.gens
def CE (outer:List Env)(P:Program)(w:World)(H:Hp)(s:Shared)(Q:VK)(u:Value)(s':Shared):Prop:=
 ∃v H',s'.os=s.os/\AllBare s'.gens/\Un (Uz outer) [] H H' s.heap s'.heap/\Ww P w H' s'.heap/\RelV v u/\Q v H'
def CR (CX:Jq)(outer:List Env)(P:Program)(w:World)(H:Hp)(s:Shared)(Q:VK)(E:XK)(r:Result)(s':Shared):Prop:=
 match r with
 | .ok (.ret u)=>CE outer P w H s Q u s'
 | .ok _=>False
 | .error e=>CX outer H s E e s'
structure ZY (P:Program)(w:World)(K:PySem.W.Frag)(mg:Str->Option Value)(base:Heap)(CX:Jq)(k:Nat)(f:Addr)(fd:FuncData)(ps:List Str)(sp:Sp):Prop where
 len:∀vs H Q E,sp vs H Q E->vs.length=ps.length
 run:∀(A:Around) (outer:List Env) (s:Shared) (H:Hp) (args:Args) (us:List Value) (vs:List V) (Q:VK) (E:XK),Yb k A->VB P w K mg base A outer s H->BindsTo s fd args (ps.zip us)->ZC vs us->sp vs H Q E->
  codeAny (model P w) A (.call (.ref f) args) (CR CX outer P w H s Q E) s
theorem VB.make {P:Program}{w:World}{K:PySem.W.Frag}{mg:Str->Option Value}{base:Heap}{A:Around}{outer:List Env}{s:Shared}{H:Hp}(e:VB P w K mg base A outer s H)(C:Addr)(us:List Value)(kw:List (Str×Value)) :
  VB P w K mg base (A.under (.builtin "type.__call__" ⟨.ref C::us,kw⟩)) outer s H:=⟨by first|exact e.frames|(simpa [Around.under,Code.envs,Code.isFrame,pushEnvs] using e.frames),e.mod,e.bs,e.bsz,e.funs,e.frf,e.hok,e.bare⟩
section
variable {X:Cx}{pins:List (Addr×Obj)}{σ:St}{H:Hp}{s s':Shared}
theorem Inv.env0 (I:Inv X pins σ H s):VB X.prog X.w X.K X.mg X.base X.A X.stack s H:=
 ⟨I.ok.frames,I.ok.mod,I.bs,Nat.le_trans I.ok.bsz I.sz,I.stack,I.stkFree,I.hok,I.bare⟩
theorem Inv.after {Q:VK}{u:Value}(I:Inv X pins σ H s)(h:CE X.stack X.prog X.w H s Q u s'):EP X pins σ Q u s':=by
 obtain⟨v,H',os,bare,un,hok,r,q⟩:=h
 obtain⟨hh,g,d,t,os'⟩:=s'
 obtain rfl:os'=s.os:=os
 exact⟨v,H',I.call (h':=hh) (g':=g) (d':=d) (t':=t) (ch:=[]) un hok bare (fun b z=>absurd z (by simp)),r,q⟩
end
def Zb6 (sp:Sp)(dvs:List V)(E:XK)(t:TA):TE:=fun σ H Q=>t σ H fun vs H1=>sp (vs++dvs) H1 Q E
def Binds (K:PySem.W.Frag)(fd:FuncData)(ps:List Str)(ds:List Value):Prop:=
 ∀(s:Shared) (us:List Value),K.In s.heap->(us++ds).length=ps.length->BindsTo s fd ⟨us,[]⟩ (ps.zip (us++ds))
theorem Binds.all {K:PySem.W.Frag}{fd:FuncData}{ps:List Str}(h:∀us:List Value,us.length=ps.length->bindArgs fd ⟨us,[]⟩=pure (ps.zip us)):Binds K fd ps []:=fun s us _ hl=>by
 rw[List.append_nil] at hl ⊢
 exact .of_eq (h us hl)
def YC (CX:Jq)(X:Cx)(E:XK):Prop:=∀(pins:List (Addr×Obj)) (σ:St) (H:Hp) (s:Shared) (e:Value) (s':Shared),Inv X pins σ H s->CX X.stack H s E e s'->X.xe e s'
section
variable {X:Cx}{CX:Jq}{k:Nat}{f C:Addr}{fd:FuncData}{ps:List Str}{sp:Sp}{dvs:List V}{ds:List Value}{E:XK}{x m:Str}{p pos apos:Pos}{e o:Expr}{es:List Expr}{ta:TE}{t:TA}
theorem UO {pins:List (Addr×Obj)}{σ:St}{H:Hp}{s:Shared}{Q:VK}{us:List Value}{vs:List V}(F:ZY X.prog X.w X.K X.mg X.base CX k f fd ps sp)(hr:Yb k X.A)(hb:Binds X.K fd ps ds)(hd:ZC dvs ds)(hx:YC CX X E)
  (I:Inv X pins σ H s) (r:ZC vs us) (h:sp (vs++dvs) H Q E):wpAny (model X.prog X.w) X.A (call (.ref f) us) (EP X pins σ Q) X.xe s:=by
 have r2:ZC (vs++dvs) (us++ds):=r.append hd
 have hl:(us++ds).length=ps.length:=by rw[<-r2.length];exact F.len _ _ _ _ h
 refine wpAny_call (codeAny_mono (F.run X.A X.stack s H ⟨us,[]⟩ (us++ds) (vs++dvs) Q E hr I.env0 (hb s us I.kIn hl) r2 h) fun r s' hq=>?_)
 cases r with
 |error e=>exact hx pins σ H s e s' I hq
 |ok fl=>
  cases fl with
  |ret u=>exact I.after hq
  |next=>exact False.elim hq
  |brk=>exact False.elim hq
  |cont=>exact False.elim hq
theorem ZdI (F:ZY X.prog X.w X.K X.mg X.base CX k f fd ps sp)(hr:Yb k X.A)(hg:Gl X x)(hm:X.mg x=some (.ref f))(hk:PySem.W.keepIn X.K (.ref f)=true)(hb:Binds X.K fd ps ds)(hd:ZC dvs ds)(hx:YC CX X E)
  (ha:PA X (e::es) t) (hdb:(x == ("__debug__":Str))=false:=by decide) (he:starEach (e::es) X.env=(false,eval e X.env)::starEach es X.env:=by rfl) (hpl:(backTo pos (starEach es X.env)).any (·.1)=false:=by rfl) :
  PE X (.Call (.Name x p) (e::es) [] pos) (Zb6 sp dvs E t):=by
 intro pins s σ H Q I h
 refine wpAny_Call_Name_kw (WA I hg hm ?_ hdb)
 refine PySem.W.callWith_K (h₀:=X.base) I.ok.mod.kin hk (ZT (ha pos pins s σ H _ I h) fun us s1 ⟨vs,H1,I1,r,q⟩=>⟨I1.kIn,?_⟩) he hpl
 exact UO F hr hb hd hx I1 r q
end
section
variable {X:Cx}{CX:Jq}{k:Nat}{f C:Addr}{fd:FuncData}{ps ks:List Str}{sp:Sp}{E:XK}{x m:Str}{p pos apos kpos:Pos}{e o:Expr}{es:List Expr}{kws:List Keyword}{te ta:TE}{t tk:TA}{nm:Option Str}
variable {g:List Value->List Value->List Value}{gV:List V->List V->List V}
end
structure W9 (N P:List Str)(sc:Scope):Prop where
 kind:sc.kind=.function
 co:sc.isCoroutine=false
 gen:sc.isGenerator=false
 nd:N.Nodup
 pre:N.take P.length=P
 par:∀x∈P,sc.names.lookup x=some .local\/sc.names.lookup x=some .cell
 nofree:∀y∈sc.names,y.2≠.free
theorem FS {N P:List Str}{sc:Scope}(a:sc.kind=.function:=by rfl)(b:sc.isCoroutine=false:=by rfl)(c:sc.isGenerator=false:=by rfl)(d:N.Nodup:=by decide +kernel)(e:N.take P.length=P:=by rfl)(f:∀x∈P,sc.names.lookup x=some .local\/sc.names.lookup x=some .cell:=by decide +kernel)(g:∀y∈sc.names,y.2≠.free:=by decide +kernel):W9 N P sc:=⟨a,b,c,d,e,f,g⟩
theorem bd1 {α:Type}{f g:List Value->α}(h:∀a,f [a]=g [a])(us:List Value)(l:us.length=1):f us=g us:=by
  cases us with
  |nil=>cases l
  |cons a r=>cases r with
    |nil=>exact h a
    |cons b r=>simp at l
theorem bd2 {α:Type}{f g:List Value->α}(h:∀a b,f [a,b]=g [a,b])(us:List Value)(l:us.length=2):f us=g us:=by
  cases us with
  |nil=>cases l
  |cons a r=>exact bd1 (f:=fun r=>f (a::r)) (g:=fun r=>g (a::r)) (h a) r (Nat.succ.inj l)
theorem bd3 {α:Type}{f g:List Value->α}(h:∀a b c,f [a,b,c]=g [a,b,c])(us:List Value)(l:us.length=3):f us=g us:=by
  cases us with
  |nil=>cases l
  |cons a r=>exact bd2 (f:=fun r=>f (a::r)) (g:=fun r=>g (a::r)) (h a) r (Nat.succ.inj l)
theorem bd4 {α:Type}{f g:List Value->α}(h:∀a b c d,f [a,b,c,d]=g [a,b,c,d])(us:List Value)(l:us.length=4):f us=g us:=by
  cases us with
  |nil=>cases l
  |cons a r=>exact bd3 (f:=fun r=>f (a::r)) (g:=fun r=>g (a::r)) (h a) r (Nat.succ.inj l)
theorem X3 {kindOf:Str->Option NameKind}{x:Str}:∀{binds:List (Str×Value)}{m:Str->Option Value},(∀v,(x,v)∉binds)->bindL kindOf binds m x=m x
 | [],_,_=>rfl
 |(n,v)::r,m,h=>by
  unfold bindL
  rw[X3 fun w hw=>h w (List.mem_cons_of_mem _ hw)]
  split
  ·have:x≠n:=by rintro rfl;exact h v List.mem_cons_self
   simp[this]
  ·rfl
theorem X4 {kindOf:Str->Option NameKind}{x:Str}:∀{binds:List (Str×Value)}{m:Str->Option Value},(∀v,(x,v)∉binds)->bindC kindOf binds m x=m x
 | [],_,_=>rfl
 |(n,v)::r,m,h=>by
  unfold bindC
  rw[X4 fun w hw=>h w (List.mem_cons_of_mem _ hw)]
  split
  ·rfl
  ·have:x≠n:=by rintro rfl;exact h v List.mem_cons_self
   simp[this]
theorem Jk {kindOf:Str->Option NameKind}{x:Str}{v:Value}:∀{P:List Str}{vs:List Value}{i:Nat}{m:Str->Option Value},P.Nodup->P[i]?=some x->vs[i]?=some v->kindOf x=some .local->
  bindL kindOf (P.zip vs) m x=some v
 | [],_,_,_,_,h,_,_=>by simp at h
 |_::_,[],_,_,_,_,h,_=>by simp at h
 |p::P,w::vs,0,m,nd,h1,h2,hk=>by
  simp at h1 h2;subst h1;subst h2
  show bindL kindOf ((p,w)::P.zip vs) m p=_
  unfold bindL
  rw[X3 fun v hv=>(List.nodup_cons.mp nd).1 (List.of_mem_zip hv).1,if_pos hk]
  simp
 |p::P,w::vs,i+1,m,nd,h1,h2,hk=>by
  show bindL kindOf ((p,w)::P.zip vs) m x=_
  unfold bindL
  exact Jk (i:=i) (List.nodup_cons.mp nd).2 (by simpa using h1) (by simpa using h2) hk
theorem Jl {kindOf:Str->Option NameKind}{x:Str}{v:Value}:∀{P:List Str}{vs:List Value}{i:Nat}{m:Str->Option Value},P.Nodup->P[i]?=some x->vs[i]?=some v->kindOf x≠some .local->
  bindC kindOf (P.zip vs) m x=some v
 | [],_,_,_,_,h,_,_=>by simp at h
 |_::_,[],_,_,_,_,h,_=>by simp at h
 |p::P,w::vs,0,m,nd,h1,h2,hk=>by
  simp at h1 h2;subst h1;subst h2
  show bindC kindOf ((p,w)::P.zip vs) m p=_
  unfold bindC
  rw[X4 fun v hv=>(List.nodup_cons.mp nd).1 (List.of_mem_zip hv).1,if_neg hk]
  simp
 |p::P,w::vs,i+1,m,nd,h1,h2,hk=>by
  show bindC kindOf ((p,w)::P.zip vs) m x=_
  unfold bindC
  exact Jl (i:=i) (List.nodup_cons.mp nd).2 (by simpa using h1) (by simpa using h2) hk
def start (N:List Str)(vs:List V):St:=vs.map some++List.replicate (N.length-vs.length) none
def Xy (CX:Jq)(P:Program)(w:World)(K:PySem.W.Frag)(mg:Str->Option Value)(base:Heap)(N:List Str)(qual:Str)(scope:Scope)(f:Addr)(cd:Value)(A:Around)(outer:List Env)(s:Shared)(H:Hp)(E:XK):Cx where
 prog:=P
 w:=w
 K:=K
 mg:=mg
 base:=base
 A:=A.deeper (envOfC qual scope s.heap.objs.size f cd)
 N:=N
 s₀:=s
 H₀:=H
 env:=envOfC qual scope s.heap.objs.size f cd
 outer:=outer
 stack:=envOfC qual scope s.heap.objs.size f cd::outer
 ex:=[]
 calm:=true
 fn:=fun _=>true
 pn:=[]
 xe:=fun e s'=>wpAny (model P w) (A.deeper (envOfC qual scope s.heap.objs.size f cd)) (leaving (envOfC qual scope s.heap.objs.size f cd) e) (fun _ s''=>CX outer H s E e s'') (fun e' s''=>CX outer H s E e' s'') s'
theorem W5 {sc:Scope}{n:Nat}{x:Str}(h:sc.names.lookup x=some .cell):∃c,(cellsFrom n sc.names []).lookup x=some c:=by
 have q:=PySem.W.cellsFrom_some sc.names n [] (.inl h)
 exact Option.isSome_iff_exists.mp q
theorem ZbB {CX:Jq}{P:Program}{w:World}{K:PySem.W.Frag}{mg:Str->Option Value}{base:Heap}{N ps:List Str}{qual:Str}{scope:Scope}{f:Addr}{cd:Value}{A:Around}{outer:List Env}{s s1:Shared}{H:Hp}{E:XK}{us:List Value}{vs:List V}
  (S:W9 N ps scope) (hd:A.handled=none) (e0:VB P w K mg base A outer s H) (hl:vs.length=ps.length) (r:ZC vs us)
  (x:InCallC s s.heap.objs.size (bindL (envOfC qual scope s.heap.objs.size f cd).kindOf (ps.zip us) fun _=>none) (cellsFrom (s.heap.objs.size+1) scope.names []) (bindC (envOfC qual scope s.heap.objs.size f cd).kindOf (ps.zip us) fun _=>none) s1) :
  Inv (Xy CX P w K mg base N qual scope f cd A outer s H E) [] (start N vs) H s1:=by
 have hpl:ps.length<=N.length:=by have:=congrArg List.length S.pre;rw[List.length_take] at this;omega
 obtain⟨h1,tk,rfl,hk⟩:=x.done
 have noA:∀b:Addr,b∉(Xy CX P w K mg base N qual scope f cd A outer s H E).ex:=fun b z=>absurd (show b∈([]:List Addr) from z) (by simp)
 refine⟨⟨e0.mod,S.kind,rfl,rfl,Zq _,fun y z c h1 h2=>?_,fun y hy=>?_,fun y c _ h=>?_,fun _=>hd,Around.frames_deeper e0.frames,.inr ⟨rfl,rfl⟩,fun b z=>absurd z (noA b),e0.bs,e0.bsz,fun b _ _=>noA b,fun b z=>absurd z (noA b),e0.funs,e0.frf⟩,
  rfl,e0.bare,Un.kept hk,⟨_,x.toInCall.ns,fun i y v h1 h2 h3=>?_⟩,fun y c h=>⟨_,x.cell y c h⟩,e0.hok.fresh (Zq _),fun y c h=>?_,fun p hp=>absurd (show p∈([]:List (Addr×Obj)) from hp) (by simp),e0.hok.kept hk,?_⟩
 ·exact name_of_addr x.apart (PySem.mem_of_lookup h1) (PySem.mem_of_lookup h2)
 ·have hy:scope.names.lookup y=some .cell\/scope.names.lookup y=some .free:=hy
  rcases hy with hy|hy
  ·exact W5 hy
  ·exact absurd rfl (S.nofree _ (PySem.mem_of_lookup hy))
 ·exact Nat.le_of_lt (x.above y c (PySem.mem_of_lookup h))
 ·have hi:i<vs.length:=by
   unfold start at h2
   by_cases hi:i<vs.length
   ·exact hi
   ·rw[List.getElem?_append_right (by simpa using hi)] at h2
    rw[List.getElem?_replicate] at h2
    split at h2 <;> cases h2
  have ha:vs[i]?=some v:=by
   unfold start at h2
   rw[List.getElem?_append_left (by simpa using hi),Zc] at h2
   cases e:vs[i]? with
   |none=>rw[e] at h2;cases h2
   |some a=>rw[e] at h2;cases h2;rfl
  obtain⟨u,hu,rv⟩:=r.get ha
  have hp:ps[i]?=some y:=by
   rw[<-S.pre,List.getElem?_take_of_lt (by omega)];exact h1
  have ndP:ps.Nodup:=by rw[<-S.pre];exact S.nd.sublist (List.take_sublist _ _)
  refine⟨u,rv,?_⟩
  rcases S.par y (List.mem_of_getElem? hp) with k|k
  ·exact .inl ⟨k,Jk ndP hp hu k⟩
  ·obtain⟨c,e⟩:=W5 (n:=s.heap.objs.size+1) k
   refine .inr ⟨.inl k,c,e,?_⟩
   have q:=x.cell y c e
   rw[Jl ndP hp hu (by show scope.names.lookup y≠_;rw[k];decide)] at q
   exact q
 ·exact e0.hok.fresh (Nat.le_of_lt (x.above y c (PySem.mem_of_lookup h)))
 ·unfold start
  show _=N.length
  rw[Zd,Za,Ze]
  omega
theorem Zc3 {CX:Jq}{P:Program}{w:World}{K:PySem.W.Frag}{mg:Str->Option Value}{base:Heap}{k:Nat}{f:Addr}{name qual:Str}{params:Arguments}{body:List Stmt}{scope:Scope}{dV kV doc pm cdv ct oc:Value}{an od:Option Addr}
  {osl:Array (Option Value)}{N ps:List Str}{sp:Sp} (lk:K.lookup f=some ⟨oc,od,.func (PySem.W.fnOf name qual params body scope dV kV doc pm an cdv ct),osl⟩) (hcd:PySem.W.codeIn K cdv qual=true) (S:W9 N ps scope)
  (len:∀vs H Q E,sp vs H Q E->vs.length=ps.length)
  (hbody:∀(A:Around) (outer:List Env) (s:Shared) (H:Hp) (vs:List V) (Q:VK) (E:XK),Yb k (A.deeper (envOfC qual scope s.heap.objs.size f cdv))->sp vs H Q E->
   ∃t,X6 (Xy CX P w K mg base N qual scope f cdv A outer s H E) body t/\t {nx:=fun _ H'=>Q .non H',rt:=Q} (start N vs) H) :
  ZY P w K mg base CX (k+1) f (PySem.W.fnOf name qual params body scope dV kV doc pm an cdv ct) ps sp:=by
 refine⟨len,fun A outer s H args us vs Q E hr e0 hb r hsp=>?_⟩
 have hl:=len _ _ _ _ hsp
 have KX:K.In s.heap:=e0.mod.kin.keeps fun b o e=>(e0.bs b o e).1
 have lim:s.heap.NoLimit:=e0.mod.nolimit.keeps fun b o e=>(e0.bs b o e).1
 have hkind:∀y∈ps.zip us,scope.names.lookup y.1=some .local\/(scope.names.lookup y.1=some .cell/\((cellsFrom (s.heap.objs.size+1) scope.names []).lookup y.1).isSome=true):=fun ⟨n,v⟩ hy=>by
  rcases S.par n (List.of_mem_zip hy).1 with q|q
  ·exact .inl q
  ·exact .inr ⟨q,PySem.W.cellsFrom_some _ _ _ (.inl q)⟩
 refine codeAny_call_function hr.depth (KX _ _ lk) rfl S.co S.gen rfl (PySem.W.codeRec_of KX hcd) (hb _ _ _ _ ?_)
 refine wpAny_newFunctionEnv_cells S.kind hkind fun env he s1 x=>?_
 subst he
 refine⟨lim.keeps x.toInCall.keep,codeAny_func ?_⟩
 obtain⟨t,ht,hq⟩:=hbody A outer s H vs Q E (hr.deeper _) hsp
 have I:Inv (Xy CX P w K mg base N qual scope f cdv A outer s H E) [] (start N vs) H s1:=ZbB S hr.hd e0 hl r x
 refine wpAny_mono (ht [] s1 (start N vs) H _ I hq) (fun fl s' hs=>?_) fun e s' hs=>hs
 have fin:∀{σ':St}{H':Hp}{v:V}{u:Value},Inv (Xy CX P w K mg base N qual scope f cdv A outer s H E) [] σ' H' s'->RelV v u->Q v H'->CE outer P w H s Q u s':=
  fun {σ' H' v u} J rv q=>⟨v,H',J.os,J.bare,J.base,J.hok,rv,q⟩
 cases fl with
 |ret u=>
  obtain⟨v,σ',H',J,rv,q⟩:=hs
  exact fin J rv q
 |next=>
  obtain⟨σ',H',J,q⟩:=hs
  exact fin (v:=V.non) (u:=Value.none) J rfl q
 |brk=>
  obtain⟨_,_,_,q⟩:=hs
  exact False.elim q
 |cont=>
  obtain⟨_,_,_,q⟩:=hs
  exact False.elim q
section
variable {X:Cx}{x:Str}{p pos:Pos}{e:Expr}{es:List Expr}{t:TA}{id T:String}{r:List V->Hp->VK->Prop}
def tCB (r:List V->Hp->VK->Prop)(t:TA):TE:=fun σ H Q=>t σ H fun vs H1=>r vs H1 Q
theorem ZcI (hc:ZR X (.builtin id) r)(hg:Gl X x)(hm:X.mg x=none)(hv:bootBuiltins x=some (.builtin id))(ha:PA X (e::es) t)(hn:x ≠ "__name__":=by decide)(hdb:(x == ("__debug__":Str))=false:=by decide)
  (he:starEach (e::es) X.env=(false,eval e X.env)::starEach es X.env:=by rfl) (hpl:(backTo pos (starEach es X.env)).any (·.1)=false:=by rfl):PE X (.Call (.Name x p) (e::es) [] pos) (tCB r t):=by
 intro pins s σ H Q I h
 refine wpAny_Call_Name_kw (Xb I hg hm hv ?_ hn hdb)
 exact PyProof.Rows.callWith_builtin1 (ZT (ha pos pins s σ H _ I h) fun us s1 ⟨vs,H1,I1,r1,q1⟩=>hc pins s1 σ H1 vs us Q I1 r1 q1) he hpl
theorem Zbh (hc:ZR X (.type T) r)(hg:Gl X x)(hm:X.mg x=none)(hv:bootBuiltins x=some (.type T))(ha:PA X (e::es) t)(hn:x ≠ "__name__":=by decide)(hdb:(x == ("__debug__":Str))=false:=by decide)
  (he:starEach (e::es) X.env=(false,eval e X.env)::starEach es X.env:=by rfl) (hpl:(backTo pos (starEach es X.env)).any (·.1)=false:=by rfl):PE X (.Call (.Name x p) (e::es) [] pos) (tCB r t):=by
 intro pins s σ H Q I h
 refine wpAny_Call_Name_kw (Xb I hg hm hv ?_ hn hdb)
 exact PyProof.Rows.callWith_type1 (ZT (ha pos pins s σ H _ I h) fun us s1 ⟨vs,H1,I1,r1,q1⟩=>hc pins s1 σ H1 vs us Q I1 r1 q1) he hpl
end
end L2
namespace HT
open PySem PyProof.Rows
section
open PySem.SeqAt
open PySem.AutoSeq1 (wpAny_loadPart')
open PySem.MeetsSeq PySem.MeetsSeq2 PySem.MeetsSeq3
end
section
variable {prog:Program}{w:World}{A:Around}{E:Value->Shared->Prop}{s:Shared}
def XL (n d:Nat):Option Int->Nat
 |none=>d
 |some v=>if v<0 then (v+(n:Int)).toNat else min v.toNat n
theorem VN (n d:Nat):XL n d none=d:=rfl
theorem Vg (n d k:Nat):XL n d (some (k:Int))=min k n:=by
 show (if (k:Int)<0 then ((k:Int)+(n:Int)).toNat else min (k:Int).toNat n)=min k n
 rw[if_neg (by omega),Zj]
end
end HT
namespace L2
open PySem PySem.Spec PyProof.Rows
abbrev TO:=St->Hp->(Option Int->Hp->Prop)->Prop
def PO (X:Cx)(e:Option Expr)(t:TO):Prop:=
 ∀(pins:List (Addr×Obj)) (s:Shared) (σ:St) (H:Hp) (Q:Option Int->Hp->Prop),Inv X pins σ H s->t σ H Q->
  wpAny (model X.prog X.w) X.A (evalPart e X.env) (fun u s'=>∃o H',Inv X pins σ H' s'/\IsPart u o/\Q o H') X.xe s
def Zdy:TO:=fun _ H Q=>Q none H
def ZfX (t:TE):TO:=fun σ H Q=>t σ H fun x H1=>∃i,x=.int i/\Q (some i) H1
section
variable {X:Cx}{e:Expr}{te:TE}{lo hi:Option Expr}{tl th:TO}{pos p2:Pos}
theorem JI:PO X none Zdy:=by
 intro pins s σ H Q I h
 rw[evalPart_none]
 exact Zm ⟨none,H,I,.none,h⟩
theorem JH (h:PE X e te):PO X (some e) (ZfX te):=by
 intro pins s σ H Q I hw
 rw[evalPart_some]
 refine ZT (h pins s σ H _ I hw) fun u s1 ⟨x,H1,I1,r1,q1⟩=>?_
 obtain⟨i,rfl,q⟩:=q1
 obtain⟨t,rfl⟩:=r1
 exact⟨some i,H1,I1,.int i t,q⟩
def SlR (X:Cx)(r:V->Option Int->Option Int->Hp->VK->Prop):Prop:=
 ∀(pins:List (Addr×Obj)) (s:Shared) (σ:St) (H:Hp) (x:V) (v vl vu:Value) (lo hi:Option Int) (sl:Addr) (Q:VK),Inv X pins σ H s->RelV x v->s.heap.IsSliceOf sl vl vu .none->IsPart vl lo->IsPart vu hi->r x lo hi H Q->
  ∃T id,typeLookup (.type T) "__getitem__"=pure (some (.builtin id))/\s.TypeIs v T/\wpAny (model X.prog X.w) X.A (getItem v (.ref sl)) (EP X pins σ Q) X.xe s
def tSl (r:V->Option Int->Option Int->Hp->VK->Prop)(te:TE)(tl th:TO):TE:=fun σ H Q=>te σ H fun x H1=>tl σ H1 fun l H2=>th σ H2 fun u H3=>r x l u H3 Q
theorem W0 {r:V->Option Int->Option Int->Hp->VK->Prop}(hr:SlR X r)(he:PE X e te)(hl:PO X lo tl)(hu:PO X hi th):PE X (.Subscript e (.Slice lo hi none p2) pos) (tSl r te tl th):=by
 intro pins s σ H Q I h
 refine Subscript_ (ZT (he pins s σ H _ I h) fun v s1 ⟨x,H1,I1,r1,q1⟩=>?_)
 refine wpAny_Slice (ZT (hl pins s1 σ H1 _ I1 q1) fun vl s2 ⟨l,H2,I2,pl,q2⟩=>ZT (hu pins s2 σ H2 _ I2 q2) fun vu s3 ⟨u,H3,I3,pu,q3⟩=>?_)
 rw[evalPart_none]
 refine Zm ?_
 have I4:Inv X pins σ H3 {s3 with heap:=s3.heap.push {cls:=.type "slice",data:=.fields #[vl,vu,.none]}}:=I3.kept (t':=s3.toks) fun b ob q=>Zn _ q
 obtain⟨T,id,hT,ht,hg⟩:=hr pins {s3 with heap:=s3.heap.push {cls:=.type "slice",data:=.fields #[vl,vu,.none]}} σ H3 x v vl vu l u s3.heap.objs.size Q I4 r1 (Heap.IsSliceOf.new ..) pl pu q3
 show wpAny (model X.prog X.w) X.A (subscriptTail e (.Slice lo hi none p2) v (.ref s3.heap.objs.size)) (EP X pins σ Q) X.xe {s3 with heap:=s3.heap.push {cls:=.type "slice",data:=.fields #[vl,vu,.none]}}
 exact tail_any (ops:=[.ref s3.heap.objs.size,v]) ht hT hg (by with_unfolding_all rfl)
def Y1 (xs:List V)(lo hi:Option Int):List V:=(xs.drop (HT.XL xs.length 0 lo)).take (HT.XL xs.length xs.length hi-HT.XL xs.length 0 lo)
theorem Ui (xs:List V)(lo hi:Option Int):(Y1 xs lo hi).length<=xs.length:=by
 unfold Y1
 rw[List.length_take,List.length_drop]
 omega
end
def ixN (n:Nat)(i:Int):Option Nat:=if 0<=i then (if i<n then some i.toNat else none) else if -(n:Int)<=i then some (i+n).toNat else none
def atI {α:Type}(xs:List α)(i:Int):Option α:=(ixN xs.length i).bind fun j=>xs[j]?
theorem ZaN {n:Nat}{i:Int}{j:Nat}(h:ixN n i=some j):seqIndex? i n=some j/\j<n/\-(n:Int)<=i/\i<n:=by
 unfold ixN at h
 by_cases h0:0<=i
 ·rw[if_pos h0] at h
  by_cases h1:i<n
  ·rw[if_pos h1] at h
   have e:i.toNat=j:=Option.some.inj h
   exact⟨by rw[seqIndex_of h0 h1,e],by omega,by omega,h1⟩
  ·rw[if_neg h1] at h;cases h
 ·rw[if_neg h0] at h
  by_cases h1:-(n:Int)<=i
  ·rw[if_pos h1] at h
   have e:(i+n).toNat=j:=Option.some.inj h
   exact⟨by rw[seqIndex_neg (by omega) h1,e],by omega,h1,by omega⟩
  ·rw[if_neg h1] at h;cases h
theorem Vx {α:Type}{xs:List α}{i:Int}{v:α}(h:atI xs i=some v):∃j,seqIndex? i xs.length=some j/\xs[j]?=some v/\j<xs.length/\-(xs.length:Int)<=i/\i<xs.length:=by
 unfold atI at h
 cases e:ixN xs.length i with
 |none=>rw[e] at h;cases h
 |some j=>
  rw[e] at h
  obtain⟨h1,h2,h3,h4⟩:=ZaN e
  exact⟨j,h1,h,h2,h3,h4⟩
theorem Z8 {α:Type}{xs:List α}{j:Nat}{v:α}(h:xs[j]?=some v):atI xs (j:Int)=some v:=by
 have hj:j<xs.length:=(List.getElem?_eq_some_iff.mp h).1
 have e:ixN xs.length (j:Int)=some j:=by
  unfold ixN
  rw[if_pos (by omega),if_pos (by omega)];simp
 unfold atI;rw[e];exact h
def Zek (b:Expr):Prop:=∀o i,subscripted b false o i=operate [o,i] (getItem o i)
def IxR (X:Cx)(r:R2):Prop:=
 ∀(value slice:Expr) (pins:List (Addr×Obj)) (s:Shared) (σ:St) (H:Hp) (x y:V) (v u:Value) (Q:VK),Inv X pins σ H s->RelV x v->RelV y u->r x y H Q->
  subscripted slice false v u=operate [v,u] (getItem v u)->wpAny (model X.prog X.w) X.A (subscriptTail value slice v u) (EP X pins σ Q) X.xe s
def MtR (X:Cx)(id:String)(r:V->List V->Hp->VK->Prop):Prop:=
 ∀(pins:List (Addr×Obj)) (s:Shared) (σ:St) (H:Hp) (x:V) (xs:List V) (v:Value) (us:List Value) (Q:VK),Inv X pins σ H s->RelV x v->ZC xs us->r x xs H Q->
  wpAny (model X.prog X.w) X.A (call (.builtin id) (v::us)) (EP X pins σ Q) X.xe s
section
variable {X:Cx}{a b:Expr}{ta tb:TE}{pos:Pos}
theorem ZO {r:R2}(hr:IxR X r)(ha:PE X a ta)(hb:PE X b tb)(hs:Zek b):PE X (.Subscript a b pos) (X7 r ta tb):=by
 intro pins s σ H Q I h
 exact Subscript_ (ZfJ ha hb I h fun v u s2 x y H2 I2 rx ry q=>hr a b pins s2 σ H2 x y v u Q I2 rx ry q (hs _ _))
def Ze9 (K:PySem.W.Frag):R2:=fun x y H Q=>∃p xs i v,x=.ref p/\y=.int i/\Wa K H p xs/\atI xs i=some v/\Q v H
def Zgf (K:PySem.W.Frag):R2:=fun x y H Q=>∃p xs i v,x=.ref p/\y=.int i/\WG K H p xs/\atI xs i=some v/\Q v H
theorem ZK:IxR X (Ze9 X.K):=by
 intro value slice pins s σ H x y v u Q I rx ry h hs
 obtain⟨p,xs,i,z,rfl,rfl,hq,he,q⟩:=h
 cases rx
 obtain⟨t,rfl⟩:=ry
 obtain⟨its,r,pl,hz⟩:=I.list hq
 obtain⟨j,h1,h2,h3,h4,h5⟩:=Vx he
 obtain⟨w,ew,rw'⟩:=r.get h2
 have hl:=r.length
 have hn:=Jg
 have fin:EP X pins σ Q w s:=⟨z,H,I,rw',q⟩
 by_cases h0:0<=i
 ·have hj:i.toNat=j:=by
   rw[seqIndex_of h0 h5] at h1
   exact Option.some.inj h1
  exact item_listR pl.isList h0 (by omega) (by rw[hj];simpa using ew) fin hs
 ·have hj:(i+(its.toArray.size:Int)).toNat=j:=by
   rw[seqIndex_neg (by omega) h4] at h1
   rw[Zh,<-hl]
   exact Option.some.inj h1
  exact subscriptTail_builtinR (x:=w) pl.isList.typeIs slot_list_getitem.lookup
   (wpAny_getItem_list_neg (Q:=fun r s'=>r=w/\EP X pins σ Q r s') pl.isList (by omega) (by rw[Zh] <;> omega) (by omega) (by rw[hj];simpa using ew) ⟨rfl,fin⟩) hs
theorem ZfA:IxR X (Zgf X.K):=by
 intro value slice pins s σ H x y v u Q I rx ry h hs
 obtain⟨p,xs,i,z,rfl,rfl,hq,he,q⟩:=h
 cases rx
 obtain⟨t,rfl⟩:=ry
 obtain⟨its,r,pl,hz⟩:=I.tuple hq
 obtain⟨j,h1,h2,h3,h4,h5⟩:=Vx he
 obtain⟨w,ew,rw'⟩:=r.get h2
 have hl:=r.length
 have hn:=Jg
 have fin:EP X pins σ Q w s:=⟨z,H,I,rw',q⟩
 exact subscriptTail_builtinR (x:=w) pl.typeIs slot_tuple_getitem.lookup
  (getItem_tuple (j:=j) (Q:=fun r s'=>r=w/\EP X pins σ Q r s') pl (by omega) (by omega) (by rw[Zh,<-hl];exact h1) (by simpa using ew) ⟨rfl,fin⟩) hs
theorem U3 (its:List Value)(n j:Nat)(u:Value):Obj.mapSeq (·.setIfInBounds j u) {cls:=.type "list",data:=.seq its.toArray n}={cls:=.type "list",data:=.seq (its.set j u).toArray n}:=by
 simp[Obj.mapSeq]
theorem Inv.lst {pins:List (Addr×Obj)}{σ:St}{H:Hp}{s:Shared}{p:Addr}{xs:List V}(I:Inv X pins σ H s)(h:H p=some (.lst xs)) :
  ∃(its:List Value) (n:Nat),ZC xs its/\s.heap.get? p=some {cls:=.type "list",data:=.seq its.toArray n}/\xs.length<=sizeLine:=by
 obtain⟨z,its,n,r,e⟩:=I.hok p _ h
 exact⟨its,n,r,e,z⟩
theorem Inv.lstUpd {pins:List (Addr×Obj)}{σ:St}{H:Hp}{s:Shared}{p:Addr}{xs ys:List V}{its its':List Value}{n n':Nat}{f:Obj->Obj}(I:Inv X pins σ H s)(h:H p=some (.lst xs))
  (ho:s.heap.get? p=some {cls:=.type "list",data:=.seq its.toArray n}) (hf:f {cls:=.type "list",data:=.seq its.toArray n}={cls:=.type "list",data:=.seq its'.toArray n'}) (r:ZC ys its') (hz:ys.length<=sizeLine) (t:Nat) :
  Inv X pins σ (upd H p (.lst ys)) {s with heap:=s.heap.update p f,toks:=t}:=by
 have e:(s.heap.update p f).get? p=some {cls:=.type "list",data:=.seq its'.toArray n'}:=by
  rw[Heap.get?_update_self f ho (by rw[hf] <;> rfl),hf]
 refine I.write (x:=p) (e:=p) (by rw[h];trivial) (.inl rfl) (fun b u hb q=>(Heap.get?_update_other _ _ (Ne.symm hb)).trans q) ⟨_,e⟩ ?_
 exact⟨hz,its',n',r,e⟩
def Zge:V->V->V->Hp->(Hp->Prop)->Prop:=fun o i v H Q=>∃p xs k j,o=.ref p/\i=.int k/\H p=some (.lst xs)/\ixN xs.length k=some j/\Q (upd H p (.lst (xs.set j v)))
theorem YT:ZgJ X Zge:=by
 intro pins s σ H o i v ov iv u Q I ro ri rv h
 obtain⟨p,xs,k,j,rfl,rfl,hp,hj,q⟩:=h
 cases ro
 obtain⟨t,rfl⟩:=ri
 obtain⟨its,n,r,ho,hz⟩:=I.lst hp
 obtain⟨h1,h2,h3,h4⟩:=ZaN hj
 have hl:=r.length
 have hn:=Jg
 have I':Inv X pins σ (upd H p (.lst (xs.set j v))) {s with heap:=s.heap.update p (Obj.mapSeq (·.setIfInBounds j u))}:=
  I.lstUpd hp ho (U3 its n j u) (r.set rv j) (by rw[List.length_set];exact hz) s.toks
 by_cases h0:0<=k
 ·have hk:k.toNat=j:=by
   rw[seqIndex_of h0 h4] at h1
   exact Option.some.inj h1
  exact PySem.W.ki_setAt ho h0 (by omega) (by rw[Zh,<-hl];exact h4) (by rw[hk];exact⟨_,I',q⟩)
 ·have hk:(k+(its.toArray.size:Int)).toNat=j:=by
   rw[seqIndex_neg (by omega) h3] at h1
   rw[Zh,<-hl]
   exact Option.some.inj h1
  exact PySem.W.ki_setBack ho (by omega) (by rw[Zh,<-hl];exact h3) (by omega) (by rw[hk];exact⟨_,I',q⟩)
theorem Ve (lo hi:Option Int)(n:Nat):(sliceBounds lo hi none n).1=((HT.XL n 0 lo:Nat):Int)/\(sliceBounds lo hi none n).2.1=((HT.XL n n hi:Nat):Int)/\(sliceBounds lo hi none n).2.2=1:=by
 refine⟨?_,?_,rfl⟩
 ·cases lo with
  |none=>simp[sliceBounds,HT.XL]
  |some i=>
   simp only[sliceBounds,HT.XL,Option.getD_none,show (1:Int) > 0 by decide,if_true]
   by_cases h:i<0
   ·simp only[h,if_true] <;> omega
   ·simp only[h,if_false] <;> omega
 ·cases hi with
  |none=>simp[sliceBounds,HT.XL]
  |some i=>
   simp only[sliceBounds,HT.XL,Option.getD_none,show (1:Int) > 0 by decide,if_true]
   by_cases h:i<0
   ·simp only[h,if_true] <;> omega
   ·simp only[h,if_false] <;> omega
theorem Xv (its:List Value)(lo hi:Option Int):slicePick its.toArray lo hi none=((its.drop (HT.XL its.length 0 lo)).take (HT.XL its.length its.length hi-HT.XL its.length 0 lo)).toArray:=by
 obtain⟨h1,h2,h3⟩:=Ve lo hi its.toArray.size
 unfold slicePick
 rw[h1,h2,h3]
 simp only[sliceRange_one,pick_run,Zh] <;> rfl
def Zhf (K:PySem.W.Frag):V->Option Int->Option Int->Hp->VK->Prop:=fun x lo hi H Q=>∃a xs,x=.ref a/\Wa K H a xs/\∀p,H p=none->Q (.ref p) (upd H p (.lst (Y1 xs lo hi)))
theorem JF:SlR X (Zhf X.K):=by
 intro pins s σ H x v vl vu lo hi sl Q I rx hs pl pu h
 obtain⟨a,xs,rfl,hx,q⟩:=h
 cases rx
 obtain⟨its,r,ht,hz⟩:=I.list hx
 have hlen:=r.length
 refine⟨"list",_,slot_list_getitem.lookup,ht.isList.typeIs,?_⟩
 refine wpAny_getItem_list_slice ht.isList hs pl pu .none (by simp) ?_ (by rw[Zh] <;> omega)
 rw[Xv,<-hlen]
 refine⟨.ref s.heap.objs.size,_,I.laid (t':=s.toks) (o:=.lst (Y1 xs lo hi)) (fun b ob q=>Zn _ q) (Zq _) ?_,rfl,q _ (I.hok.fresh (Zq _))⟩
 exact⟨Nat.le_trans (Ui xs lo hi) hz,_,0,(r.drop (HT.XL xs.length 0 lo)).take (HT.XL xs.length xs.length hi-HT.XL xs.length 0 lo),Zo _ rfl⟩
def ZhH:V->Bool
 | .non=>true
 | .bl _=>true
 | .int _=>true
 | .str _=>true
 |_=>false
def eqV:V->V->Bool
 | .non,.non=>true
 | .bl a,.bl b=>a == b
 | .bl a,.int b=>(if a then 1 else 0) == b
 | .int a,.bl b=>a == (if b then 1 else 0)
 | .int a,.int b=>a == b
 | .str a,.str b=>a == b
 |_,_=>false
def inV (x:V)(xs:List V):Bool:=xs.any fun y=>eqV y x
theorem ZQ:ZR X (.builtin "len") (fun xs H Q=>∃p ys,xs=[.ref p]/\(Wa X.K H p ys\/WG X.K H p ys)/\Q (.int ys.length) H):=by
 intro pins s σ H xs us Q I r h
 obtain⟨p,ys,rfl,hq,q⟩:=h
 obtain⟨u,rfl,rx⟩:=vals1 r
 cases rx
 have hn:=Jg
 rcases hq with hq|hq
 ·obtain⟨its,r',pl,hz⟩:=I.list hq
  have hlen:=r'.length
  exact Calls.call_len_list pl.isList (by simp only[Zh] <;> omega) ⟨.int ys.length,H,I.tok _,⟨s.toks+1,by rw[Zh,hlen]⟩,q⟩
 ·obtain⟨its,r',pl,hz⟩:=I.tuple hq
  have hlen:=r'.length
  exact len_tuple pl (by simp only[Zh] <;> omega) ⟨.int ys.length,H,I.tok _,⟨s.toks+1,by rw[Zh,hlen]⟩,q⟩
theorem Vv:ZR X (.type "list") (fun xs H Q=>∃p ys,xs=[.ref p]/\(Wa X.K H p ys\/WG X.K H p ys)/\∀l,H l=none->Q (.ref l) (upd H l (.lst ys))):=by
 intro pins s σ H xs us Q I r h
 obtain⟨p,ys,rfl,hq,q⟩:=h
 obtain⟨u,rfl,rx⟩:=vals1 r
 cases rx
 have fin:∀(its:List Value),ZC ys its->ys.length<=sizeLine->∀(h':Heap) (c':Nat),(∀b o',s.heap.get? b=some o'->h'.get? b=some o')->
   h'.get? s.heap.objs.size=some {cls:=.type "list",dict:=none,data:=.seq its.toArray c',slots:=#[]}->EP X pins σ Q (.ref s.heap.objs.size) {s with heap:=h'}:=fun its r' hz h' c' kp e=>
  ⟨.ref s.heap.objs.size,_,I.laid (t':=s.toks) kp (Zq _) (show ZG X.prog X.w _ h' _ (.lst ys) from ⟨hz,its,c',r',e⟩),rfl,q _ (I.hok.fresh (Zq _))⟩
 rcases hq with hq|hq
 ·obtain⟨its,r',pl,hz⟩:=I.list hq
  have hlen:=r'.length
  obtain⟨o,ho,hc,n,hd⟩:=pl.isList
  exact call_list_seq p (.inl rfl) ho hc hd (fun h' c' kp e=>fin its r' hz h' c' kp e) (by simp only[Zh] <;> omega)
 ·obtain⟨its,r',pl,hz⟩:=I.tuple hq
  have hlen:=r'.length
  obtain⟨o,ho,hc,n,hd⟩:=pl
  exact call_list_seq p (.inr rfl) ho hc hd (fun h' c' kp e=>fin its r' hz h' c' kp e) (by simp only[Zh] <;> omega)
theorem YR:ZR X (.type "tuple") (fun xs H Q=>∃p ys,xs=[.ref p]/\((Wa X.K H p ys/\∀l,H l=none->Q (.ref l) (upd H l (.tup ys)))\/(WG X.K H p ys/\Q (.ref p) H))):=by
 intro pins s σ H xs us Q I r h
 obtain⟨p,ys,rfl,h⟩:=h
 obtain⟨u,rfl,rx⟩:=vals1 r
 cases rx
 rcases h with ⟨hq,q⟩|⟨hq,q⟩
 ·obtain⟨its,r',pl,hz⟩:=I.list hq
  have hlen:=r'.length
  refine call_tuple_list pl.isList (fun h' kp=>?_) (by simp only[Zh] <;> omega)
  have I1:Inv X pins σ H {s with heap:=h'}:=I.kept (t':=s.toks) kp
  have I2:Inv X pins σ (upd H h'.objs.size (.tup ys)) {s with heap:=h'.push {cls:=.type "tuple",data:=.seq its.toArray}}:=
   I1.laid (t':=s.toks) (fun b o e=>Zn _ e) (Zq _) (show ZG X.prog X.w _ _ _ (.tup ys) from ⟨hz,its,r',IsTup.new _ _⟩)
  exact⟨.ref h'.objs.size,_,I2,rfl,q _ (I1.hok.fresh (Zq _))⟩
 ·obtain⟨its,r',pl,hz⟩:=I.tuple hq
  exact call_tuple_same pl ⟨.ref p,H,I,rfl,q⟩
def tyV (K:PySem.W.Frag)(T:String)(x:V)(H:Hp):Prop:=match x with
 | .str _=>T = "str"
 | .int _=>T = "int"
 | .ref p=>(T = "list"/\∃xs,Wa K H p xs)\/(T = "tuple"/\∃o,K.lookup p=some o/\o.cls=.type "tuple"/\o.dict=none)\/
   (T = "dict"/\((∃kvs,H p=some (.dK kvs))\/∃kvs,H p=some (.dT kvs)))\/(T = "set"/\∃S n,H p=some (.set S n))
 |_=>False
theorem ZeU {pins:List (Addr×Obj)}{σ:St}{H:Hp}{s:Shared}{T:String}{x:V}{v:Value}(I:Inv X pins σ H s)(r:RelV x v)(ty:tyV X.K T x H) :
  s.TypeIs v T/\∀a,v=.ref a->∃ob,s.heap.get? a=some ob/\ob.dict=none:=by
 cases x with
 |str z=>
  obtain⟨t,rfl⟩:=r
  cases (show T = "str" from ty)
  exact⟨typeIs_str s z t,fun _ e=>nomatch e⟩
 |int i=>
  obtain⟨t,rfl⟩:=r
  cases (show T = "int" from ty)
  exact⟨typeIs_int s i t,fun _ e=>nomatch e⟩
 |ref p=>
  cases r
  rcases ty with ⟨rfl,xs,hq⟩|⟨rfl,o,hk,hc,hd⟩|⟨rfl,hk⟩|⟨rfl,S,n,hk⟩
  ·obtain⟨its,_,pl,_⟩:=I.list hq
   refine⟨pl.isList.typeIs,fun a e=>?_⟩
   cases e
   obtain⟨o,n,e,c,hd,_⟩:=pl
   exact⟨o,e,hd⟩
  ·refine⟨⟨o,I.kIn p o hk,hc⟩,fun a e=>?_⟩
   cases e
   exact⟨o,I.kIn _ o hk,hd⟩
  ·have z:∃o,s.heap.get? p=some o/\o.ExactDict:=by
    rcases hk with ⟨kvs,hk⟩|⟨kvs,hk⟩
    ·obtain⟨_,_,_,_,o,_,_,e,ex,_⟩:=I.hok p _ hk
     exact⟨o,e,ex⟩
    ·obtain⟨_,_,_,_,o,_,_,e,ex,_⟩:=I.hok p _ hk
     exact⟨o,e,ex⟩
   obtain⟨o,e,ex⟩:=z
   refine⟨⟨o,e,ex.1⟩,fun a e2=>?_⟩
   cases e2
   exact⟨o,e,ex.2.1⟩
  ·obtain⟨o,_,_,_,e,ex,_⟩:=I.hok p _ hk
   refine⟨⟨o,e,ex.1⟩,fun a e2=>?_⟩
   cases e2
   exact⟨o,e,ex.2.1⟩
 |_=>exact False.elim ty
def tBM (K:PySem.W.Frag)(T:String)(r:V->List V->Hp->VK->Prop)(to:TE)(t:TA):TE:=fun σ H Q=>to σ H fun x H1=>tyV K T x H1/\t σ H1 fun xs H2=>r x xs H2 Q
variable {o e:Expr}{es:List Expr}{to:TE}{t:TA}{name:Str}{apos cpos:Pos}{T id:String}{r:V->List V->Hp->VK->Prop}
theorem Jw (pa:PlainAttrs T)(slot:Slot T name id)(hty:typeOf (.builtin id)=pure (.type "method_descriptor"))(hm:MtR X id r)(ho:PE X o to)(ha:PA X (e::es) t)
  (hbase:attributeBase o name X.env (eval o X.env)=eval o X.env:=by rfl)
  (hfew:((backTo cpos (starEach (e::es) X.env)).all (fun x=>!x.1) && (backToKw cpos (keywordEach [] X.env)).all (fun x=>x.1.isSome)
   && decide ((e::es).length+([]:List Keyword).length+(if ([]:List Keyword).isEmpty then 0 else 1)<30))=true:=by rfl)
  (hline:(apos.endLine == cpos.line)=true:=by rfl) (hs:starEach (e::es) X.env=(false,eval e X.env)::starEach es X.env:=by rfl) (hplain:(backTo cpos (starEach es X.env)).any (·.1)=false:=by rfl) :
  PE X (.Call (.Attribute o name apos) (e::es) [] cpos) (tBM X.K T r to t):=by
 intro pins s σ H Q I h
 refine wpAny_Call_method_late hbase hfew hline rfl (ZT (ho pins s σ H _ I h) fun v s1 ⟨x,H1,I1,r1,ty,q1⟩=>?_)
 obtain⟨h1,h2⟩:=ZeU I1 r1 ty
 refine⟨T,id,pa,slot,hty,h1,h2,?_⟩
 have hA:=ha cpos pins s1 σ H1 _ I1 q1
 rw[hs] at hA ⊢
 refine Calls.callWith_builtin (by show (false || (backTo cpos (starEach es X.env)).any (·.1))=false;rw[hplain] <;> rfl) (Calls.evalArgs_plain ?_)
 exact ZT hA fun us s2 ⟨vs,H2,I2,r2,q2⟩=>hm pins s2 σ H2 x vs v us Q I2 r1 r2 q2
end
def MtM (X:Cx)(id:String)(r:V->List V->Hp->VK->Prop):Prop:=
 ∀(pins:List (Addr×Obj)) (s:Shared) (σ:St) (H:Hp) (x:V) (xs:List V) (v:Value) (us:List Value) (Q:VK),Inv X pins σ H s->RelV x v->ZC xs us->r x xs H Q->
  wpAny (model X.prog X.w) X.A (call (.builtin id) (v::us)) (EP X pins σ Q) X.xe s
theorem ZC.one:∀{x:V}{us:List Value},ZC [x] us->∃u,us=[u]/\RelV x u
 |_,_,.cons r .nil=>⟨_,rfl,r⟩
theorem ZC.eraseIdx:∀{xs:List V}{us:List Value} (i:Nat),ZC xs us->ZC (xs.eraseIdx i) (us.eraseIdx i)
 |_,_,_,.nil=>.nil
 |_,_,0,.cons _ t=>t
 |_,_,i+1,.cons r t=>.cons r (ZC.eraseIdx i t)
theorem XV {α:Type}:∀(l:List α) (i:Nat),(l.eraseIdx i).length<=l.length
 | [],_=>Zq _
 |_::_,0=>Nat.le_succ _
 |_::r,i+1=>Nat.succ_le_succ (XV r i)
section
variable {X:Cx}{pins:List (Addr×Obj)}{σ:St}{H:Hp}{s:Shared}{l b:Addr}{xs ys zs:List V}
theorem Inv.lset {its its':List Value}{n:Nat}{f:Array Value->Array Value}{t':Nat}(I:Inv X pins σ H s)(hH:H l=some (.lst xs))
  (e:s.heap.get? l=some {cls:=.type "list",data:=.seq its.toArray n}) (hf:f its.toArray=its'.toArray) (hv:ZC ys its') (hz:ys.length<=sizeLine) :
  Inv X pins σ (upd H l (.lst ys)) {s with heap:=s.heap.update l (Obj.mapSeq f),toks:=t'}:=by
 have q:=PySem.IsL.update e f
 rw[hf] at q
 refine I.write (x:=l) (e:=l) (by rw[hH];exact trivial) (.inl rfl) (fun b' u hb hu=>(Heap.get?_update_other s.heap (Obj.mapSeq f) (Ne.symm hb)).trans hu) ⟨_,q⟩ ?_
 exact⟨hz,its',_,hv,q⟩
theorem Inv.lnew {its:List Value}{t':Nat}(I:Inv X pins σ H s)(hv:ZC ys its)(hz:ys.length<=sizeLine) :
  Inv X pins σ (upd H s.heap.objs.size (.lst ys)) {s with heap:=s.heap.push {cls:=.type "list",data:=.seq its.toArray},toks:=t'}:=
 I.laid (fun _ _ q=>Zn _ q) (Zq _) ⟨hz,its,0,hv,Zo _ rfl⟩
theorem Inv.fresh (I:Inv X pins σ H s):H s.heap.objs.size=none:=I.hok.fresh (Zq _)
theorem Inv.lstM (I:Inv X pins σ H s)(hH:H l=some (.lst xs)):xs.length<=sizeLine/\∃(its:List Value) (n:Nat),ZC xs its/\xs.length=its.length/\s.heap.get? l=some {cls:=.type "list",data:=.seq its.toArray n}:=by
 obtain⟨z,its,n,r,e⟩:=I.hok l _ hH
 exact⟨z,its,n,r,r.length,e⟩
end
section
variable {X:Cx}
def ZdD:V->List V->Hp->VK->Prop:=fun x vs H Q=>∃l xs y,x=.ref l/\vs=[y]/\H l=some (.lst xs)/\xs.length<sizeLine/\Q .non (upd H l (.lst (xs++[y])))
theorem Yi:MtM X "list.append" ZdD:=by
 intro pins s σ H x vs v us Q I rx rv h
 obtain⟨l,xs,y,rfl,rfl,hH,hz,q⟩:=h
 cases rx
 obtain⟨u,rfl,ru⟩:=rv.one
 obtain⟨z,its,n,r,hl,e⟩:=I.lstM hH
 refine call_meets F.slot_list_append ⟨_,e,rfl⟩ F.entry_list_append (F.args_list_append_2 _ _) (PySem.list_append l its.toArray n u (by rw[Zh];omega)) ⟨e,?_⟩
 refine⟨.non,_,I.lset (its':=its++[u]) hH e (by simp) (r.append (.cons ru .nil)) ?_,rfl,q⟩
 rw[Zd,Zk]
 omega
def Ze8:V->List V->Hp->VK->Prop:=fun x vs H Q=>∃l xs i k y,x=.ref l/\vs=[.int i]/\H l=some (.lst xs)/\-(2 ^ 63)<=i/\i<2 ^ 63/\seqIndex? i xs.length=some k/\xs[k]?=some y/\Q y (upd H l (.lst (xs.eraseIdx k)))
theorem ZcR:MtM X "list.pop" Ze8:=by
 intro pins s σ H x vs v us Q I rx rv h
 obtain⟨l,xs,i,k,y,rfl,rfl,hH,h1,h2,hk,hy,q⟩:=h
 cases rx
 obtain⟨u,rfl,ru⟩:=rv.one
 obtain⟨t,rfl⟩:=ru
 obtain⟨z,its,n,r,hl,e⟩:=I.lstM hH
 obtain⟨w,hw,rw'⟩:=r.get hy
 refine call_meets F.slot_list_pop ⟨_,e,rfl⟩ F.entry_list_pop (F.args_list_pop_2 _ _)
  (MeetsSeq.list_pop_at l its.toArray n i t k w (fitsIndex_both h1 h2) (by rw[Zh,<-hl];exact hk) (by rw[<-Array.getElem?_toList];exact hw) (by rw[Zh];omega)) ⟨e,?_⟩
 refine⟨y,_,I.lset (its':=its.eraseIdx k) hH e ?_ (r.eraseIdx k) ?_,rw',q⟩
 ·show its.toArray.eraseIdxIfInBounds k=(its.eraseIdx k).toArray
  rw[List.eraseIdxIfInBounds_toArray]
 ·have:=XV xs k
  omega
def Zhk:R2:=fun x y H Q=>∃l b xs zs,x=.ref l/\y=.ref b/\H l=some (.lst xs)/\H b=some (.lst zs)/\xs.length+zs.length<=sizeLine/\∀p,H p=none->Q (.ref p) (upd H p (.lst (xs++zs)))
theorem Vl:Jb X (binaryOp .Add) Zhk:=by
 intro pins s σ H x y v u Q I rx ry h
 obtain⟨l,b,xs,zs,rfl,rfl,hH,hB,hz,q⟩:=h
 cases rx
 cases ry
 obtain⟨z,its,n,r,hl,e⟩:=I.lstM hH
 obtain⟨z2,its2,n2,r2,hl2,e2⟩:=I.lstM hB
 refine PySem.P.add_list e e2 ?_ (by rw[Zh,Zh];omega)
 have ea:its.toArray++its2.toArray=(its++its2).toArray:=by simp
 rw[ea]
 exact⟨.ref _,_,I.lnew (t':=s.toks) (r.append r2) (by rw[Zd];omega),rfl,q _ I.fresh⟩
end
section
variable {prog:Program}{w:World}{A:Around}{E:Value->Shared->Prop}{s:Shared}
end
section
variable {X:Cx}
end
end L2
namespace Att
open PySem PySem.W PySem.Calls PyProof.Rows
theorem JD {P:Params}{h:Heap}:∀(ns:List Int) (vs:List Value),WellAll P h vs (ns.map WData.int)->IntsAre vs ns:=by
 intro ns
 induction ns with
 |nil=>
  intro vs w
  rw[List.map_nil] at w
  cases w
  exact .nil
 |cons n ns ih=>
  intro vs w
  rw[List.map_cons] at w
  cases w with
  |cons a b=>
   cases a
   exact .cons _ _ (ih _ b)
theorem Zba {l:OpenLaw}{n:Nat}(hn:l.most=some n){P:Params}{h:Heap}{args:List WData}{vals:List Value}
  (hpre:l.row.toRowW.claim.pre args=true) (hwl:WellAll P h vals args) :
  ∃a vs ns,vals=[Value.ref a]/\args=[WData.list (ns.map WData.int)]/\h.get? a=some {cls:=.type "list",data:=.seq vs.toArray}/\IntsAre vs ns/\ns.length<=n:=by
 have hsh:WShape.hasAll [] args [.list .int]=true:=(pre_splitW hpre).1
 have hc:l.pre.holds [] {args:=args}=true:=(pre_splitW hpre).2
 obtain⟨d,r,rfl,h1,h2⟩:=hasAllW_cons hsh
 obtain rfl:=hasAllW_nil h2
 obtain⟨xs,rfl,h3⟩:=hasW_list h1
 obtain⟨ns,rfl⟩:=items_int h3
 have hlen:ns.length<=n:=by
  unfold OpenLaw.pre at hc
  have h4:(WTm.not (.lt (.lit (.int (n:Int))) (.len (.arg 0)))).holds [] {args:=[.list (ns.map .int)]}=true:=by
   have h4:=(holds_andW hc).1
   rw[hn] at h4
   exact h4
  have h5:=condW_of h4 (w_not (w_lt w_lit (w_len_list (w_arg rfl))))
  rw[Za] at h5
  refine Nat.le_of_not_lt fun q=>?_
  have q':(n:Int)<((ns.length:Nat):Int):=by omega
  first
   |(rw[decide_eq_true q'] at h5;exact absurd h5 (by decide))
   |(simp at h5;omega)
 cases hwl with
 |cons w1 w2=>
  cases w2
  cases w1 with
  |list ho hall=>exact⟨_,_,ns,rfl,rfl,ho,JD ns _ hall,hlen⟩
theorem Zbf (l:OpenLaw)(args:List WData):l.row.toRowW.claim.post args (.bool true) args=true:=
 postW_of (r:=l.row.toRowW) (X:=(true == true))
  (show WShape.has [] (.bool true) .bool=true by first|rfl|decide|simp[WShape.has,WShape.arms,WShape.armsAll])
  (show (WTm.eq .res (.lit (.bool true))).value [] {args:=args,res:=some (.bool true),after:=args}=some (.bool (true == true)) from w_eq_bool (w_res rfl) w_lit) rfl
theorem Uu {l:OpenLaw}{n:Nat}{q:Program}{loose:List Str}{XP:(Str->Option Value)->Heap->Prop}{YP:World->Heap->Prop}{d:DefRec}
  (hn:l.most=some n) (hdf:d.params.defaults=[])
  (call:∀(w:World) (s₀ s₁:Shared) (mg mb:Str->Option Value) (fa:Addr) (o:Obj) (pm cd doc:Value) (a:Addr) (vs:List Value) (ns:List Int),
   Ground q loose [] XP w s₀ mg mb s₁.heap->YP w s₁.heap->
   s₁.heap.get? fa=some o->o.data=.func (docDef d.name d.params d.body d.scope pm cd doc)->s₁.heap.CodeRec cd d.name->mg d.name=some (.ref fa)->
   s₁.heap.get? a=some {cls:=.type "list",data:=.seq vs.toArray}->IntsAre vs ns->ns.length<=n->s₁.gens=#[]->
   codeAny (model l.prog w) callerA (.call (.ref fa) ⟨[.ref a],[]⟩) (fun r s'=>r=.ok (.ret (.bool true))/\OldK s₁.heap s'.heap/\s'.os=s₁.os/\AllBare s'.gens) s₁) :
  WalkO q loose XP YP l.row.toRowW d [] (fun f vs=>PySem.call f vs):=by
 intro w s₀ s₁ mg mb G Y fa o pm cd doc dV kV ho hd hcd hD hmg hg args vals as hpre hlay hrd hwl hlo
 obtain rfl:dV=.none:=Dflts.none hD hdf
 obtain rfl:kV=.none:=Dflts.noKw hD
 obtain⟨a,vs,ns,rfl,rfl,hobj,hints,hlen⟩:=Zba hn hpre hwl
 refine enter_call (codeAny_mono (call w s₀ s₁ mg mb fa o pm cd doc a vs ns G Y ho (fd_plain hd) hcd hmg hobj hints hlen hg) fun r s' hq=>?_)
 obtain⟨rfl,h2,h3,h4⟩:=hq
 exact⟨.inl ⟨.bool true,.bool true,[],rfl,fun _=>rfl,.bool true,Zbf l _,fun _=>⟨List.Pairwise.nil,fun _ hm=>(nomatch hm)⟩⟩,h2,h3,h4⟩
section
variable {prog:Program}{w:World}{A:Around}{E:Value->Shared->Prop}{s:Shared}{K:Frag}
end
end Att
namespace L2
open PySem PySem.Spec PyProof.Rows
theorem XG:∀{vs:List Value}{ns:List Int},IntsAre vs ns->ZC (ns.map V.int) vs
 |_,_,.nil=>.nil
 |_,_,.cons n t h=>.cons ⟨t,rfl⟩ (XG h)
def Zea (s:Stmt)(j:Nat):Stmt:=match s with
 | .ClassDef _ _ _ body _ _ _ _ _ _ _=>body.getD j (.Pass ⟨0,0,0,0⟩)
 |_=>.Pass ⟨0,0,0,0⟩
def Z0 (s:Stmt):Arguments:=match s with
 | .FunctionDef _ a _ _ _ _ _ _ _ _=>a
 |_=>{posonlyargs:=[],args:=[],vararg:=none,kwonlyargs:=[],kw_defaults:=[],kwarg:=none,defaults:=[]}
def ZL (s:Stmt):List Stmt:=match s with
 | .FunctionDef _ _ b _ _ _ _ _ _ _=>b
 |_=>[]
def ZB (s:Stmt):Scope:=match s with
 | .FunctionDef _ _ _ _ _ _ sc _ _ _=>sc
 |_=>{kind:=.function,names:=[],isGenerator:=false,isCoroutine:=false}
abbrev Yv:Jq:=fun _ _ _ _ _ _=>False
abbrev E0:XK:=fun _ _ _=>False
theorem ZS {X:Cx}:YC Yv X E0:=fun _ _ _ _ _ _ _ h=>h.elim
structure W8 (K:PySem.W.Frag)(x qual:Str)(st:Stmt)(f:Addr)(fd:FuncData):Prop where
 ex:∃(oc:Value) (od:Option Addr) (kV doc pm:Value) (an:Option Addr) (cdv ct:Value) (osl:Array (Option Value)),
  fd=PySem.W.fnOf x qual (Z0 st) (ZL st) (ZB st) .none kV doc pm an cdv ct/\K.lookup f=some ⟨oc,od,.func fd,osl⟩/\PySem.W.codeIn K cdv qual=true
 kp:PySem.W.keepIn K (.ref f)=true
section
variable {P:Program}{w:World}{K:PySem.W.Frag}{mg:Str->Option Value}{base:Heap}
theorem W8.ok {x qual:Str}{st:Stmt}{f:Addr}{fd:FuncData}{N ps:List Str}{k:Nat}{sp:Sp}(F:W8 K x qual st f fd)(S:W9 N ps (ZB st))(len:∀vs H Q E,sp vs H Q E->vs.length=ps.length)
  (hbody:∀(cdv:Value) (A:Around) (outer:List Env) (s:Shared) (H:Hp) (vs:List V) (Q:VK) (E:XK),Yb k (A.deeper (envOfC qual (ZB st) s.heap.objs.size f cdv))->sp vs H Q E->
   ∃t,X6 (Xy Yv P w K mg base N qual (ZB st) f cdv A outer s H E).nox (ZL st) t/\t {nx:=fun _ H'=>Q .non H',rt:=Q} (start N vs) H):ZY P w K mg base Yv (k+1) f fd ps sp:=by
 obtain⟨oc,od,kV,doc,pm,an,cdv,ct,osl,rfl,lk,hcd⟩:=F.ex
 refine Zc3 lk hcd S len fun A outer s H vs Q E hr hsp=>?_
 obtain⟨t,h,q⟩:=hbody cdv A outer s H vs Q E hr hsp
 exact⟨t,h.nox,q⟩
theorem W8.binds {x qual:Str}{st:Stmt}{f:Addr}{fd:FuncData}{ps:List Str}(F:W8 K x qual st f fd)
  (h:∀(kV doc pm:Value) (an:Option Addr) (cdv ct:Value) (us:List Value),us.length=ps.length->bindArgs (PySem.W.fnOf x qual (Z0 st) (ZL st) (ZB st) .none kV doc pm an cdv ct) ⟨us,[]⟩=pure (ps.zip us)):Binds K fd ps []:=by
 obtain⟨oc,od,kV,doc,pm,an,cdv,ct,osl,rfl,lk,hcd⟩:=F.ex
 exact .all (h kV doc pm an cdv ct)
theorem Xh {x qual:Str}{st:Stmt}{f:Addr}{oc:Value}{od an:Option Addr}{osl:Array (Option Value)}{kV doc pm cdv ct:Value}(l:K.lookup f=some ⟨oc,od,.func (PySem.W.fnOf x qual (Z0 st) (ZL st) (ZB st) .none kV doc pm an cdv ct),osl⟩)
  (c:PySem.W.codeIn K cdv qual=true) (k:PySem.W.keepIn K (.ref f)=true):W8 K x qual st f (PySem.W.fnOf x qual (Z0 st) (ZL st) (ZB st) .none kV doc pm an cdv ct):=⟨⟨oc,od,kV,doc,pm,an,cdv,ct,osl,rfl,l,c⟩,k⟩
end
section
variable {X:Cx}
end
theorem Zhr {A B:Prop}(h:B):if false=true then A else B:=by
 rw[if_neg Bool.false_ne_true]
 exact h
theorem Zgt {A B:Prop}(h:A):if true=true then A else B:=by
 rw[if_pos rfl]
 exact h
theorem Yh {c A B:Prop} [Decidable c](h1:c->A)(h2:¬c->B):if c then A else B:=by
 by_cases h:c
 ·rw[if_pos h]
  exact h1 h
 ·rw[if_neg h]
  exact h2 h
theorem ZcW {c A B:Prop} [Decidable c](hc:c)(h:B):if (!decide c)=true then A else B:=by
 rw[decide_eq_true hc]
 exact Zhr h
def Zv (H H':Hp):Prop:=∀b o,H b=some o->H' b=some o
theorem Zv.refl (H:Hp):Zv H H:=fun _ _ h=>h
theorem Zv.trans {H H1 H2:Hp}(a:Zv H H1)(b:Zv H1 H2):Zv H H2:=fun c o h=>b c o (a c o h)
theorem Zv.free {H H':Hp}(e:Zv H H'){l:Addr}(h:H' l=Option.none):H l=Option.none:=by
 cases q:H l with
 |none=>rfl
 |some o=>
  rw[e l o q] at h
  cases h
theorem Zv.seq {K:PySem.W.Frag}{H H':Hp}{a:Addr}{xs:List V}(e:Zv H H')(h:Wa K H a xs):Wa K H' a xs:=by
 rcases h with (h|⟨o,h⟩)|h
 ·exact .inl (.inl (e _ _ h))
 ·exact .inl (.inr ⟨o,e _ _ h⟩)
 ·exact .inr h
end L2
set_option maxHeartbeats 4000000
namespace L2
open PySem PySem.Spec PyProof.Rows
structure WE (N:List Str)(esc:Scope)(own:List Str)(caps:List Nat)(N':List Str)(sc:Scope):Prop where
 kind:sc.kind=.function
 ndn:(sc.names.map (·.1)).Nodup
 uniq:∀y∈sc.names,y.2=.local->sc.names.lookup y.1=some .local
 nd:N'.Nodup
 eqN:N'=own++caps.map fun j=>N.getD j ""
 cap:∀j∈caps,j<N.length/\sc.names.lookup (N.getD j "")=some .free
 fr:∀y∈sc.names,y.2=.free->esc.names.lookup y.1=some .cell\/esc.names.lookup y.1=some .free
def XB (own:List Str)(caps:List Nat)(σ:St):St:=List.replicate own.length none++caps.map fun j=>(σ[j]?).join
theorem WN {env:Env}:∀(names:List (Str×NameKind)) (acc:List (Str×Addr)),(∀y∈names,y.2=.free->∃c,env.cells.lookup y.1=some c)->(∀y c,acc.lookup y=some c->env.cells.lookup y=some c)->
  ∃cl,(forIn names acc (fun x r=>if (x.2 == NameKind.free)=true then (do let c <-cellOf env x.1;pure (ForInStep.yield ((x.1,c)::r))) else pure (ForInStep.yield r)):Sem (List (Str×Addr)))=pure cl/\
   (∀y c,cl.lookup y=some c->env.cells.lookup y=some c)/\(∀y,(∃c,acc.lookup y=some c)->∃c,cl.lookup y=some c)/\∀y∈names,y.2=.free->∃c,cl.lookup y.1=some c
 | [],acc,_,ha=>⟨acc,rfl,ha,fun _ h=>h,fun _ h=>absurd h (by simp)⟩
 | (n,k)::r,acc,hn,ha=>by
  rw[List.forIn_cons]
  by_cases hk:k=.free
  ·subst hk
   obtain⟨c,hc⟩:=hn (n,.free) List.mem_cons_self rfl
   have ha':∀y d,((n,c)::acc).lookup y=some d->env.cells.lookup y=some d:=fun y d e=>by
    rw[List.lookup_cons] at e
    cases q:y == n with
    |true=>rw[q] at e;cases e;rw[beq_iff_eq.mp q];exact hc
    |false=>rw[q] at e;exact ha y d e
   obtain⟨cl,e,h1,h2,h3⟩:=WN r ((n,c)::acc) (fun y hy=>hn y (List.mem_cons_of_mem _ hy)) ha'
   have hh:∀y,(∃d,acc.lookup y=some d)->∃d,((n,c)::acc).lookup y=some d:=fun y ⟨d,hd⟩=>by
    rw[List.lookup_cons]
    cases q:y == n with
    |true=>exact⟨c,rfl⟩
    |false=>exact⟨d,hd⟩
   have hs:∃d,((n,c)::acc).lookup n=some d:=⟨c,by rw[List.lookup_cons,beq_self_eq_true]⟩
   refine⟨cl,?_,h1,fun y hy=>h2 y (hh y hy),fun y hy hf=>?_⟩
   ·have hcell:cellOf env n=pure c:=by simp only[cellOf,hc]
    simp only[beq_self_eq_true,if_true,hcell]
    simp only[pure_bind]
    exact e
   ·rcases List.mem_cons.mp hy with rfl|hy
    ·exact h2 _ hs
    ·exact h3 y hy hf
  ·obtain⟨cl,e,h1,h2,h3⟩:=WN r acc (fun y hy=>hn y (List.mem_cons_of_mem _ hy)) ha
   refine⟨cl,?_,h1,h2,fun y hy hf=>?_⟩
   ·have hb:(k == NameKind.free)=false:=by simpa using hk
    simp only[hb,Bool.false_eq_true,if_false,pure_bind]
    exact e
   ·rcases List.mem_cons.mp hy with rfl|hy
    ·exact absurd hf hk
    ·exact h3 y hy hf
theorem Zag {scope:Scope}{env:Env}(h:∀y∈scope.names,y.2=.free->∃c,env.cells.lookup y.1=some c) :
  ∃cl,closureFor scope env=pure cl/\(∀y c,cl.lookup y=some c->env.cells.lookup y=some c)/\∀y∈scope.names,y.2=.free->∃c,cl.lookup y.1=some c:=by
 obtain⟨cl,e,h1,_,h3⟩:=WN (env:=env) scope.names [] h (fun y c e=>by simp at e)
 refine⟨cl,?_,h1,h3⟩
 have q:closureFor scope env=((forIn scope.names ([]:List (Str×Addr)) (fun x r=>if (x.2 == NameKind.free)=true then (do let c <-cellOf env x.1;pure (ForInStep.yield ((x.1,c)::r))) else pure (ForInStep.yield r)):Sem (List (Str×Addr))) >>= fun cs=>pure cs):=rfl
 rw[q,e]
 rfl
theorem YB {names:List (Str×NameKind)}{x:Str}{k:NameKind}(h:names.lookup x=some k):(x,k)∈names:=PySem.mem_of_lookup h
theorem Ye {env:Env}{x:Str}:∀{names:List (Str×NameKind)}{k:NameKind},
  (names.map fun (n,k)=>if (k == NameKind.free && env.scope.kind == .function && env.kindOf n == some .cell) then (n,NameKind.cell) else (n,k)).lookup x=some k->
  names.lookup x=some k\/(k=.cell/\names.lookup x=some .free)
 | [],_,h=>by simp at h
 | (n,k0)::r,k,h=>by
  have ih:=@Ye env x r k
  have h:List.lookup x ((if (k0 == NameKind.free && env.scope.kind == .function && env.kindOf n == some .cell)=true then (n,NameKind.cell) else (n,k0))::_)=some k:=h
  rw[List.lookup_cons]
  by_cases hc:(k0 == NameKind.free && env.scope.kind == .function && env.kindOf n == some .cell)=true
  ·rw[if_pos hc,List.lookup_cons] at h
   have hk0:k0=.free:=by
    simp only[Bool.and_eq_true,beq_iff_eq] at hc
    exact hc.1.1
   cases q:x == n with
   |true=>rw[q] at h;cases h;right;exact⟨rfl,by rw[hk0]⟩
   |false=>rw[q] at h;exact ih h
  ·rw[if_neg hc,List.lookup_cons] at h
   cases q:x == n with
   |true=>rw[q] at h;cases h;left;rfl
   |false=>rw[q] at h;exact ih h
section
variable {X:Cx}
def Zdh (scope:Scope)(x:Str):Bool:=scope.names.any fun y=>y.1 == x && (match y.2 with | .cell=>true|_=>false)
theorem ZbM {scope:Scope}{x:Str}(h:Zdh scope x=true):(x,NameKind.cell)∈scope.names:=by
 unfold Zdh at h
 obtain⟨⟨n,k⟩,hm,hy⟩:=List.any_eq_true.mp h
 rw[Bool.and_eq_true] at hy
 obtain⟨h1,h2⟩:=hy
 have e:n=x:=by simpa using h1
 subst e
 cases k <;> first|exact hm|cases h2
theorem Wy {x:Str}{k:NameKind}:∀{names:List (Str×NameKind)},(names.map (·.1)).Nodup->(x,k)∈names->names.lookup x=some k
 | [],_,h=>by cases h
 | (n,k0)::r,nd,h=>by
  rw[List.map_cons,List.nodup_cons] at nd
  rw[List.lookup_cons]
  rcases List.mem_cons.mp h with e|h
  ·cases e
   simp
  ·have:(x == n)=false:=by
    refine Bool.eq_false_iff.mpr fun z=>nd.1 ?_
    rw[<-beq_iff_eq.mp z]
    exact List.mem_map.mpr ⟨_,h,rfl⟩
   rw[this]
   exact Wy nd.2 h
theorem Y2:∀(names:List (Str×NameKind)) (n:Nat) (acc:List (Str×Addr)),cellsFrom n names acc=cellsFrom n names []++acc
 | [],n,acc=>rfl
 |(x,k)::r,n,acc=>by
  unfold cellsFrom
  by_cases hk:(k == NameKind.cell)=true
  ·rw[if_pos hk,if_pos hk,Y2 r (n+1) ((x,n)::acc),Y2 r (n+1) [(x,n)],List.append_assoc]
   rfl
  ·rw[if_neg hk,if_neg hk,Y2 r n acc]
theorem WD {x:Str}{c:Addr}:∀(names:List (Str×NameKind)) (n:Nat) (acc:List (Str×Addr)),(x,c)∈cellsFrom n names acc->(x,NameKind.cell)∈names\/(x,c)∈acc
 | [],n,acc,h=>.inr h
 | (y,k)::r,n,acc,h=>by
  unfold cellsFrom at h
  by_cases hk:(k == NameKind.cell)=true
  ·rw[if_pos hk] at h
   rcases WD r (n+1) _ h with z|z
   ·exact .inl (List.mem_cons_of_mem _ z)
   ·rcases List.mem_cons.mp z with e|z
    ·cases e
     have:k=.cell:=by cases k <;> first|rfl|cases hk
     rw[this]
     exact .inl List.mem_cons_self
    ·exact .inr z
  ·rw[if_neg hk] at h
   rcases WD r n _ h with z|z
   ·exact .inl (List.mem_cons_of_mem _ z)
   ·exact .inr z
theorem ZdY {M:Model}{A:Around}{E:Value->Shared->Prop}{s:Shared}{scope:Scope}{globals:Addr}{cl:List (Str×Addr)}{qual:Str}{around:Env}{Q:Env->Shared->Prop}
  (hQ:Q (newEnv scope s.heap.objs.size globals (cellsFrom (s.heap.objs.size+1) scope.names cl) qual none .none (some around) builtinsNs) {s with heap:=pushCells (s.heap.push {cls:=.type "dict",data:=.dict #[]}) scope.names}) :
  wpAny M A (newFunctionEnv scope globals cl [] qual none .none (some around)) Q E s:=by
 unfold newFunctionEnv
 refine Zl (wpAny_alloc ?_)
 refine Zl (wpAny_layCells _ (fun name kind cells=>by cases hkc:kind == NameKind.cell <;> simp[hkc]) _ _ _ _ ?_)
 rw[show ({s with heap:=s.heap.push {cls:=.type (if (some around).isSome=true then "dict" else "frame"),data:=.dict #[]}}:Shared).heap.objs.size=s.heap.objs.size+1 from Heap.size_push ..]
 exact Zl (by rw[List.forIn_nil];exact Zm (Zm hQ))
def YQ (X:Cx)(scope:Scope)(cl:List (Str×Addr))(N':List Str)(C:Addr)(s:Shared)(H:Hp)(ex:List Addr):Cx:=
 {X with N:=N',s₀:=s,H₀:=H,env:=compEnvC scope cl C X.env,outer:=X.stack,ex:=ex,fn:=Zdh scope,pn:=[],xe:=fun _ _=>False}
def Xt (own:List Str)(caps:List Nat)(g:TG)(tc:TT)(te:TE)(σ:St)(Q:VK)(J:It)(H1:Hp):Prop:=∀D,H1 D=none->
 ∃W:Nat->Nat->St->Hp->Prop,(∃m,W 0 m (XB own caps σ) (upd H1 D (.lst [])))/\∀i m σ' H',W i m σ' H'->
  (J.stop i H'/\Q (.ref D) H')\/(J.go i H'/\∃N:St->Hp->Prop,(∀ σ2 H2,N σ2 H2->∃m',m'<m/\W (i+1) m' σ2 H2)/\∀x H2,J.yld i H' x H2->g x σ' H2 fun σ3 H3=>tc σ3 H3 fun b H4=>
   if b=true then te σ3 H4 fun v H5=>∃xs,H5 D=some (.lst xs)/\xs.length<sizeLine/\N σ3 (upd H5 D (.lst (xs++[v]))) else N σ3 H4)
def Zeq (own:List Str)(caps:List Nat)(wi:TI)(g:TG)(tc:TT)(te:TE):TE:=fun σ H Q=>wi σ H fun J H1=>Xt own caps g tc te σ Q J H1
def Js:TT:=fun _ H Q=>Q true H
def PIf (X:Cx)(ifs:List Expr)(t:TT):Prop:=
 ∀(pins:List (Addr×Obj)) (s:Shared) (σ:St) (H:Hp) (Q:Bool->Hp->Prop),Inv X pins σ H s->t σ H Q->
  wpAny (model X.prog X.w) X.A (forIn ifs true fun c r=>if r=true then do let ok <-isTrue c X.env (eval c X.env);pure (ForInStep.yield ok) else pure (ForInStep.yield r)) (TP X pins σ Q) X.xe s
theorem Y6:PIf X [] Js:=fun _ _ _ H _ I h=>wpAny_tests_nil ⟨H,I,h⟩
theorem ZdE {c:Expr}{t:TT}(h:PT X c t):PIf X [c] t:=fun pins s σ H Q I q=>wpAny_tests_one (h pins s σ H Q I q)
theorem Wo {prog:Program}{w:World}{A:Around}{R:Result->Shared->Prop}{s:Shared}{elt target iter:Expr}{ifs:List Expr}{scope:Scope}{pos:Pos}{it acc:Value}{env:Env}(I:Nat->Shared->Prop)
  (turn:∀n s,I n s->wpAny (model prog w) A (pyNext it) (fun r s₁=>match r with
   |none=>R (.ok .next) s₁
   |some v=>wpAny (model prog w) A (letOwnedTupleGo target it v) (fun _ s₁'=>wpAny (model prog w) A (assign target env v) (fun _ s₂=>
     wpAny (model prog w) A (forIn ifs true fun c r=>if r=true then do let ok <-isTrue c env (eval c env);pure (ForInStep.yield ok) else pure (ForInStep.yield r)) (fun ok s₃=>
      if ok=true then wpAny (model prog w) A (eval elt env) (fun x s₄=>
       wpAny (model prog w) A (call (.builtin "list.append") [acc,x]) (fun _ s₅=>∃m,m<n/\I m s₅) (fun _ _=>False) s₄) (fun _ _=>False) s₃
      else ∃m,m<n/\I m s₃) (fun _ _=>False) s₂) (fun _ _=>False) s₁') (fun _ _=>False) s₁) (fun _ _=>False) s)
  (n:Nat) (h:I n s) :
  codeAny (model prog w) A (.compLoop (.ListComp elt [⟨target,iter,ifs,0⟩] scope pos) 0 it acc env) R s:=by
 refine codeAny_loop rfl I (fun n s hI=>?_) n h
 show wpAny _ A ((compTurn (.ListComp elt [⟨target,iter,ifs,0⟩] scope pos) 0 it acc env).onRaise (fun x=>do noteFrame x env;theTreesLotGoes x)) _ _ s
 refine wpAny_noted ?_
 rw[compTurn_list]
 refine Zl (wpAny_standAt (Zl (wpAny_mono (turn n s hI) (fun r s₁ h₁=>?_) fun _ _ h'=>h'.elim)))
 cases r with
 |none=>exact Zm h₁
 |some v=>
  refine Zl (wpAny_mono h₁ (fun _ s₁' h₁'=>?_) fun _ _ h'=>h'.elim)
  refine Zl (wpAny_mono h₁' (fun _ s₂ h₂=>Zl (wpAny_mono h₂ (fun ok s₃ h₃=>?_) fun _ _ h'=>h'.elim)) fun _ _ h'=>h'.elim)
  cases ok with
  |false=>exact Zm ⟨rfl,h₃⟩
  |true=>
   exact Zl (Zl (wpAny_mono h₃ (fun x s₄ h₄=>Zl (wpAny_mono h₄ (fun _ s₅ h₅=>Zm (Zm ⟨rfl,h₅⟩)) fun _ _ h'=>h'.elim)) fun _ _ h'=>h'.elim))
theorem Zae {own:List Str}{caps:List Nat}{N':List Str}{esc scope:Scope}{elt iter tg:Expr}{ifs:List Expr}{pos:Pos}{g:TG}{tc:TT}{te:TE}{cl:List (Str×Addr)}
  (hesc:X.env.scope=esc) (S:WE X.N esc own caps N' scope) (hc:X.calm=true)
  (hcl1:∀y c,cl.lookup y=some c->X.env.cells.lookup y=some c) (hcl2:∀y∈scope.names,y.2=.free->∃c,cl.lookup y.1=some c)
  (hg:∀cl C s H ex,PG (YQ X scope cl N' C s H ex) tg g) (ht:∀cl C s H ex,PIf (YQ X scope cl N' C s H ex) ifs tc) (he:∀cl C s H ex,PE (YQ X scope cl N' C s H ex) elt te)
  {pins:List (Addr×Obj)}{σ:St}{H2:Hp}{s2:Shared}{it:Addr}{fp:List Addr}{tn:Nat->Heap->Prop}{J:It}{Q:VK}{RR:Value->Addr->Result->Shared->Prop}{E:Value->Shared->Prop}
  (I2:Inv X pins σ H2 s2) (T:Zam X.prog X.w X.K tg J fp it tn) (st2:tn 0 s2.heap) (f2:∀b∈fp,XD X pins H2 b)
  (h:Xt own caps g tc te σ Q J H2)
  (hRR:∀D C s' m H',s'.heap.Ns C m->C≠X.env.locals->(∀x c,X.env.cells.lookup x=some c->c≠C)->X.s₀.heap.objs.size<=C->(∀p∈X.pn++pins,p.1≠C)->H' C=none->Q (.ref D) H'->(∀h',Heap.SameBut C s'.heap h'->Inv X pins σ H' {s' with heap:=h'})->RR (.ref D) C (.ok .next) s') :
  wpAny (model X.prog X.w) X.A (newList []) (fun acc s₃=>wpAny (model X.prog X.w) X.A (newFunctionEnv scope X.env.globals cl [] X.env.qual none .none (some X.env)) (fun cenv s₄=>
   codeAny (model X.prog X.w) X.A (.compStart (.ListComp elt [⟨tg,iter,ifs,0⟩] scope pos) 0 (.ref it) acc {cenv with scope:=relabel scope X.env}) (RR acc cenv.locals) s₄) E s₃) E s2:=by
 refine wpAny_newObj_type (ZdY ?_)
 dsimp only
 have hD:H2 s2.heap.objs.size=none:=I2.hok.fresh (Zq _)
 obtain⟨W,⟨m0,w0⟩,turn⟩:=h _ hD
 generalize hH3:s2.heap.push {cls:=.type "list",dict:=none,data:=.seq ([]:List Value).toArray}=g3
 have hC:g3.objs.size=s2.heap.objs.size+1:=by rw[<-hH3,Heap.size_push]
 have old3:∀b o,s2.heap.get? b=some o->g3.get? b=some o:=fun b o e=>hH3▸Zn _ e
 have I3:Inv X pins σ (upd H2 s2.heap.objs.size (.lst [])) {s2 with heap:=g3,toks:=s2.toks}:=
  I2.laid (t':=s2.toks) old3 (Zq _) ⟨Nat.zero_le _,[],0,.nil,hH3▸Zo _ rfl⟩
 generalize hh1:pushCells (g3.push {cls:=.type "dict",data:=.dict #[]}) scope.names=h₁
 have k1:∀b o,g3.get? b=some o->h₁.get? b=some o:=fun b o e=>hh1▸pushCells_keeps _ _ b o (Zn _ e)
 have hns₁:h₁.Ns g3.objs.size (fun _=>none):=hh1▸(Heap.Ns.new g3 (.type "dict")).keeps (pushCells_keeps _ _)
 have okA:CellsOk h₁ (g3.objs.size+1) (cellsFrom (g3.objs.size+1) scope.names []):=by
  have q:=cellsFrom_ok scope.names (g3.push {cls:=.type "dict",data:=.dict #[]}) (g3.objs.size+1) [] ⟨fun _ _ hm=>(nomatch hm),List.Pairwise.nil⟩ (by rw[Heap.size_push];exact Zq _)
  rw[Heap.size_push,hh1] at q
  exact q
 have hcl':cellsFrom (g3.objs.size+1) scope.names cl=cellsFrom (g3.objs.size+1) scope.names []++cl:=Y2 _ _ _
 have hsomeA:∀y,scope.names.lookup y=some .cell->∃c,(cellsFrom (g3.objs.size+1) scope.names []).lookup y=some c:=fun y hy=>Option.isSome_iff_exists.mp (PySem.W.cellsFrom_some scope.names (g3.objs.size+1) [] (.inl hy))
 generalize hcA:cellsFrom (g3.objs.size+1) scope.names []=cA at okA hcl' hsomeA
 have memA:∀y c,cA.lookup y=some c->(y,NameKind.cell)∈scope.names:=fun y c e=>by
  have:=PySem.mem_of_lookup e
  rw[<-hcA] at this
  rcases WD _ _ _ this with z|z
  ·exact z
  ·cases z
 generalize hcE:cellsFrom (g3.objs.size+1) scope.names cl=cE at hcl'
 have lkE:∀y c,cE.lookup y=some c->cA.lookup y=some c\/(cA.lookup y=none/\cl.lookup y=some c):=fun y c e=>by
  rw[hcl',List.lookup_append] at e
  cases q:cA.lookup y with
  |none=>rw[q] at e;exact .inr ⟨rfl,by simpa using e⟩
  |some c'=>rw[q] at e;exact .inl (by simpa using e)
 have lkF:∀y c,scope.names.lookup y=some .free->cl.lookup y=some c->cE.lookup y=some c:=fun y c hy e=>by
  rw[hcl',List.lookup_append]
  cases q:cA.lookup y with
  |none=>simpa using e
  |some c'=>
   have:=Wy S.ndn (memA y c' q)
   rw[hy] at this
   cases this
 have fpn:∀b∈fp,upd H2 s2.heap.objs.size (.lst []) b=none:=fun b hb=>by
  obtain⟨o,ho,_⟩:=T.obj _ _ st2 b hb
  rw[Zw (Nat.ne_of_lt (Zp ho))]
  exact (f2 b hb).1
 have fplt:∀b∈fp,b<g3.objs.size:=fun b hb=>by
  obtain⟨o,ho,_⟩:=T.obj _ _ st2 b hb
  rw[hC];exact Nat.lt_succ_of_lt (Zp ho)
 generalize hX':YQ X scope cE N' g3.objs.size {s2 with heap:=g3,toks:=s2.toks} (upd H2 s2.heap.objs.size (.lst [])) fp=X'
 have hfs:X'.fs=Uz X.stack:=by rw[<-hX'];rfl
 have kindL:∀y,X'.env.kindOf y=some .cell\/X'.env.kindOf y=some .free->∃c,cE.lookup y=some c:=fun y hy=>by
  have hy':(relabel scope X.env).names.lookup y=some .cell\/(relabel scope X.env).names.lookup y=some .free:=by rw[<-hX'] at hy;exact hy
  have hf:scope.names.lookup y=some .free->∃c,cE.lookup y=some c:=fun hf=>by
   obtain⟨c,hc'⟩:=hcl2 _ (YB hf) rfl
   exact⟨c,lkF y c hf hc'⟩
  have hcc:scope.names.lookup y=some .cell->∃c,cE.lookup y=some c:=fun hf=>by
   obtain⟨c,hc'⟩:=hsomeA y hf
   exact⟨c,by rw[hcl',List.lookup_append,hc'];rfl⟩
  rcases hy' with q|q
  ·rcases Ye q with z|z
   ·exact hcc z
   ·exact hf z.2
  ·rcases Ye q with z|z
   ·exact hf z
   ·exact absurd z.1 (by decide)
 have cellsX:X'.env.cells=cE:=by rw[<-hX'];rfl
 have locX:X'.env.locals=g3.objs.size:=by rw[<-hX'];rfl
 have cne:∀x c,cl.lookup x=some c->c≠g3.objs.size/\c<g3.objs.size:=fun x c e=>by
  obtain⟨v,q⟩:=I3.cell x c (hcl1 x c e)
  exact⟨Nat.ne_of_lt q.lt,q.lt⟩
 have aboveA:∀x c,cA.lookup x=some c->g3.objs.size+1<=c:=fun x c e=>(okA.empty x c (PySem.mem_of_lookup e)).2
 have injE:∀x y c,cE.lookup x=some c->cE.lookup y=some c->x=y:=fun x y c a b=>by
  rcases lkE x c a with a|⟨_,a⟩ <;> rcases lkE y c b with b|⟨_,b⟩
  ·exact name_of_addr okA.apart (PySem.mem_of_lookup a) (PySem.mem_of_lookup b)
  ·have h1:g3.objs.size+1<=c:=aboveA x c a
   exact absurd (Nat.lt_of_lt_of_le (cne y c b).2 (Nat.le_of_succ_le h1)) (Nat.lt_irrefl _)
  ·have h1:g3.objs.size+1<=c:=aboveA y c b
   exact absurd (Nat.lt_of_lt_of_le (cne x c a).2 (Nat.le_of_succ_le h1)) (Nat.lt_irrefl _)
  ·exact I3.ok.inj x y c (hcl1 x c a) (hcl1 y c b)
 have ok':X'.Ok:=by
  refine hX'▸⟨I3.ok.mod,S.kind,I3.ok.glob,I3.ok.blt,Zq _,injE,?_,?cab,I3.ok.hd,I3.ok.frames,.inl rfl,?_,?_,?_,?_,?_,I3.stack,I3.stkFree⟩
  ·intro y hy
   exact kindL y (by rw[<-hX'];exact hy)
  ·intro x c z e
   have hm:=Wy S.ndn (ZbM z)
   rcases lkE x c e with e|⟨n,_⟩
   ·exact Nat.le_of_succ_le (aboveA x c e)
   ·obtain⟨c',hc'⟩:=hsomeA x hm
    rw[n] at hc'
    cases hc'
  ·intro b hb
   refine⟨Nat.ne_of_lt (fplt b hb),fun x c e=>?_⟩
   rcases lkE x c e with e|⟨_,e⟩
   ·have h1:g3.objs.size+1<=c:=aboveA x c e
    exact fun z=>absurd (Nat.lt_of_lt_of_le (fplt b hb) (Nat.le_of_succ_le h1)) (by rw[z];exact Nat.lt_irrefl _)
   ·exact (f2 b hb).2.2.2.2.1 x c (hcl1 x c e)
  ·exact I3.bs
  ·exact Nat.le_trans I3.ok.bsz I3.sz
  ·intro b o e hb
   rcases (f2 b hb).2.2.2.1 with z|z
   ·exact I3.ok.noex b o e z
   ·exact absurd (Nat.lt_of_lt_of_le (Zp e) (Nat.le_trans I3.ok.bsz z)) (Nat.lt_irrefl _)
  ·intro b hb z
   rcases List.mem_cons.mp (I3.stkSub b z) with e|e
   ·exact (f2 b hb).2.1 e
   ·exact (f2 b hb).2.2.1 e
 have I4:Inv X' [] (XB own caps σ) (upd H2 s2.heap.objs.size (.lst [])) {s2 with heap:=h₁,toks:=s2.toks}:=by
  refine⟨ok',hX'▸rfl,I3.bare,?_,⟨_,by rw[locX];exact hns₁,?_⟩,?_,?_,?_,?_,?_,?_⟩
  ·rw[<-hX'];exact Un.kept k1
  ·intro i x v hN hσ hV
   have hN':N'[i]?=some x:=by rw[<-hX'] at hN;exact hN
   unfold XB at hσ
   by_cases hi:i<own.length
   ·rw[List.getElem?_append_left (by simpa using hi),List.getElem?_replicate] at hσ
    rw[if_pos hi] at hσ;cases hσ
   ·rw[List.getElem?_append_right (by simpa using hi),Ze,Zc] at hσ
    rw[S.eqN,List.getElem?_append_right (by omega),Zc] at hN'
    cases hj:caps[i-own.length]? with
    |none=>rw[hj] at hσ;cases hσ
    |some j=>
     rw[hj] at hσ hN'
     have hx:X.N.getD j ""=x:=Option.some.inj hN'
     obtain⟨hjl,hjf⟩:=S.cap j (List.mem_of_getElem? hj)
     rw[hx] at hjf
     have hjN:X.N[j]?=some x:=by
      rw[Zf hjl,<-hx,Zb,Zf hjl];rfl
     have hv:σ[j]?=some (some v):=by
      have q:(σ[j]?).join=some v:=Option.some.inj hσ
      cases q':σ[j]? with
      |none=>rw[q'] at q;cases q
      |some o=>rw[q'] at q;rw[show o=some v from q]
     have hkX:=S.fr (x,.free) (YB hjf) rfl
     rw[<-hesc] at hkX
     obtain⟨m,hn,hl⟩:=I3.loc
     have visX:Vis X.env.scope x:=hkX.elim (fun z=>.inr (.inl z)) fun z=>.inr (.inr z)
     obtain⟨u,ru,look⟩:=hl j x v hjN hv visX
     refine⟨u,ru,?_⟩
     obtain⟨c,hcc⟩:=hcl2 (x,.free) (YB hjf) rfl
     rcases look with ⟨a,_⟩|⟨_,c',hc',hcell⟩
     ·rcases hkX with z|z
      ·rw[show X.env.kindOf x=X.env.scope.names.lookup x from rfl,z] at a;cases a
      ·rw[show X.env.kindOf x=X.env.scope.names.lookup x from rfl,z] at a;cases a
     ·have:c'=c:=by rw[hcl1 _ _ hcc] at hc';cases hc';rfl
      subst this
      refine .inr ⟨?_,c',by rw[cellsX];exact lkF _ _ hjf hcc,hcell.keeps k1⟩
      rcases hV with q|q|q
      ·have q':(relabel scope X.env).names.lookup x=some .local:=by rw[<-hX'] at q;exact q
       rcases Ye q' with z|z
       ·rw[hjf] at z;cases z
       ·exact absurd z.1 (by decide)
      ·exact .inl q
      ·exact .inr q
  ·intro x c e
   rw[cellsX] at e
   rcases lkE x c e with e|⟨_,e⟩
   ·exact⟨_,(okA.empty x c (PySem.mem_of_lookup e)).1⟩
   ·obtain⟨v,q⟩:=I3.cell x c (hcl1 x c e)
    exact⟨v,q.keeps k1⟩
  ·rw[locX];exact I3.hok.fresh (Zq _)
  ·intro x c e
   rw[cellsX] at e
   rcases lkE x c e with e|⟨_,e⟩
   ·exact I3.hok.fresh (Nat.le_of_succ_le (aboveA x c e))
   ·exact I3.freeC x c (hcl1 x c e)
  ·intro p hp
   have:p∈([]:List (Addr×Obj)):=by rw[<-hX'] at hp;exact hp
   cases this
  ·rw[<-hX'];exact I3.hok.kept k1
  ·rw[<-hX']
   show (XB own caps σ).length=N'.length
   unfold XB
   rw[S.eqN,Zd,Zd,Ze,Za,Za]
 have pX:X'.prog=X.prog:=by rw[<-hX'];rfl
 have wX:X'.w=X.w:=by rw[<-hX'];rfl
 have KX:X'.K=X.K:=by rw[<-hX'];rfl
 have AX:X'.A=X.A:=by rw[<-hX'];rfl
 have cX:X'.calm=true:=by rw[<-hX'];exact hc
 have xX:X'.xe=fun _ _=>False:=by rw[<-hX'];rfl
 have envX:X'.env=compEnvC scope cE g3.objs.size X.env:=by rw[<-hX'];rfl
 have exX:X'.ex=fp:=by rw[<-hX'];rfl
 have hg':PG X' tg g:=hX'▸hg _ _ _ _ _
 have ht':PIf X' ifs tc:=hX'▸ht _ _ _ _ _
 have he':PE X' elt te:=hX'▸he _ _ _ _ _
 have fpk:∀{H':Hp},(∀b∈fp,H' b=none)->∀b∈fp,XD X' [] H' b:=fun {H'} hn b hb=>by
  refine⟨hn b hb,?_,?_,?_,?_,?_⟩
  ·rw[locX];exact Nat.ne_of_lt (fplt b hb)
  ·rw[hfs];intro z
   rcases List.mem_cons.mp (I3.stkSub b z) with e|e
   ·exact (f2 b hb).2.1 e
   ·exact (f2 b hb).2.2.1 e
  ·rw[exX];exact .inl hb
  ·intro x c e
   rw[cellsX] at e
   rcases lkE x c e with e|⟨_,e⟩
   ·have h1:g3.objs.size+1<=c:=aboveA x c e
    exact fun z=>absurd (Nat.lt_of_lt_of_le (fplt b hb) (Nat.le_of_succ_le h1)) (by rw[z];exact Nat.lt_irrefl _)
   ·exact (f2 b hb).2.2.2.2.1 x c (hcl1 x c e)
  ·intro p hp
   have:p∈([]:List (Addr×Obj)):=by rw[<-hX'] at hp;exact hp
   cases this
 have st1:tn 0 h₁:=T.keep _ _ _ st2 fun b hb o e=>k1 b o (old3 b o e)
 have back:∀{σ':St}{H':Hp}{s':Shared}{pp:List (Addr×Obj)}{h':Heap},Inv X' pp σ' H' s'->Heap.SameBut g3.objs.size s'.heap h'->Inv X pins σ H' {s' with heap:=h'}:=fun {σ' H' s' pp h'} I' sb=>by
  have u:=I'.base
  rw[hfs,exX] at u
  have hs0:X'.s₀.heap=g3:=by rw[<-hX'];rfl
  have hH0:X'.H₀=upd H2 s2.heap.objs.size (.lst []):=by rw[<-hX'];rfl
  rw[hs0,hH0] at u
  have ne:∀b o,g3.get? b=some o->b≠g3.objs.size:=fun b o e=>Nat.ne_of_lt (Zp e)
  have hCn:H' g3.objs.size=none:=by have:=I'.free;rw[locX] at this;exact this
  refine I3.call' (s':={s' with heap:=h'}) (ch:=fp) ?_ ⟨?_,?_,?_,?_,?_,?_,?_⟩ ?_ I'.bare ?_
  ·have:=I'.os;rw[<-hX'] at this;exact this
  ·intro b o e n hb hx;exact sb.extBut b o (ne b o e) (u.keep b o e n hb hx)
  ·intro b o e n hb hx
   obtain⟨sl,q⟩:=u.slot b o e n hb hx
   exact⟨sl,sb.extBut b _ (ne b o e) q⟩
  ·exact u.free
  ·intro b o e hx
   obtain⟨o',q⟩:=u.there b o e hx
   exact⟨o',sb.extBut b _ (ne b o e) q⟩
  ·exact u.tups
  ·exact u.frzs
  ·exact u.tbls
  ·have hok:=I'.hok
   rw[pX,wX] at hok
   intro a o e
   refine (hok a o e).stay (fun b v hb r=>sb.extBut b v ?_ r) (fun b r=>r) fun b xs r=>r
   rcases hb with rfl|hb
   ·intro z;rw[z,hCn] at e;cases e
   ·intro z;rw[z,hCn] at hb;cases hb
  ·intro b hb
   refine⟨(f2 b hb).2.2.2.1,(f2 b hb).2.1,(f2 b hb).2.2.2.2.1,(f2 b hb).2.2.2.2.2⟩
 have loop:∀s3:Shared,s3={s2 with heap:=h₁,toks:=s2.toks}->
   codeAny (model X.prog X.w) X.A (.compLoop (.ListComp elt [⟨tg,iter,ifs,0⟩] scope pos) 0 (.ref it) (.ref s2.heap.objs.size) (compEnvC scope cE g3.objs.size X.env)) (RR (.ref s2.heap.objs.size) g3.objs.size) s3:=by
  rintro s3 rfl
  refine Wo (fun n s'=>∃i σ' H',Inv X' [] σ' H' s'/\tn i s'.heap/\(∀b∈fp,H' b=none)/\W i n σ' H') ?_ m0 ⟨0,_,_,I4,st1,fpn,w0⟩
  rintro n s5 ⟨i,σ5,H5,I5,st5,fr5,w5⟩
  rcases turn i n σ5 H5 w5 with ⟨stop,qn⟩|⟨go,N,hN,step⟩
  ·have q:=T.done X' pX wX KX cX i [] s5 σ5 H5 (fun _ _=>False) I5 (fpk fr5) st5 stop
   rw[AX] at q
   refine ZT q fun r s6 ⟨hr,I6⟩=>?_
   subst hr
   obtain⟨m,hn,_⟩:=I6.loc
   rw[locX] at hn
   refine hRR _ _ s6 m H5 hn ?_ ?_ I3.sz ?_ ?_ qn fun h' sb=>back I6 sb
   ·exact Nat.ne_of_gt I3.lt
   ·intro x c e
    obtain⟨v,q⟩:=I3.cell x c e
    exact Nat.ne_of_lt q.lt
   ·intro pp hpp
    exact Nat.ne_of_lt (Zp (I3.pin pp hpp).1)
   ·have:=I6.free;rw[locX] at this;exact this
  ·have q:=T.item X' pX wX KX cX i [] s5 σ5 H5 (fun _ _=>False) I5 (fpk fr5) st5 go
   rw[AX] at q
   refine ZT q fun r s6 ⟨u,hr,h6⟩=>?_
   subst hr
   refine ZT h6 fun _ s7 ⟨x,H7,I7,r7,y7,st7,fr7⟩=>?_
   have I7':=I7.pinned (fpk fr7) (T.obj _ _ st7)
   have q8:=hg' _ s7 σ5 H7 x u _ I7' r7 (step x H7 y7)
   rw[pX,wX,AX,envX,xX] at q8
   refine ZT q8 fun _ s8 ⟨σ8,H8,I8,q8⟩=>?_
   have q9:=ht' _ s8 σ8 H8 _ I8 q8
   rw[pX,wX,AX,envX,xX] at q9
   have again:∀{σ':St}{H':Hp}{s':Shared},Inv X' ([]++J7 fp s7.heap) σ' H' s'->N σ' H'->∃m,m<n/\∃i σ' H',Inv X' [] σ' H' s'/\tn i s'.heap/\(∀b∈fp,H' b=none)/\W i m σ' H':=fun {σ' H' s'} I' n'=>by
    obtain⟨m',hm,w'⟩:=hN σ' H' n'
    refine⟨m',hm,i+1,σ',H',I'.unpinned,T.keep _ _ _ st7 fun b hb o e=>(I'.pin (b,o) (List.mem_append_right _ (List.mem_append_right _ (Y7 hb e)))).1,fun b hb=>?_,w'⟩
    obtain⟨o,e,d⟩:=T.obj _ _ st7 b hb
    exact (I'.pin (b,o) (List.mem_append_right _ (List.mem_append_right _ (Y7 hb e)))).2.1
   refine ZT q9 fun ok s9 ⟨H9,I9,q9⟩=>?_
   cases ok with
   |false=>
    simp only[Bool.false_eq_true,if_false] at q9 ⊢
    exact again I9 q9
   |true=>
    simp only[if_true] at q9 ⊢
    have q10:=he' _ s9 σ8 H9 _ I9 q9
    rw[pX,wX,AX,envX,xX] at q10
    refine ZT q10 fun y s10 ⟨v,H10,I10,rv,xs,hxs,hz,q10⟩=>?_
    have q11:=Yi (X:=X') _ s10 σ8 H10 (.ref s2.heap.objs.size) [v] (.ref s2.heap.objs.size) [y] (fun _ H'=>N σ8 H') I10 rfl (.cons rv .nil) ⟨_,xs,v,rfl,rfl,hxs,hz,q10⟩
    rw[pX,wX,AX,xX] at q11
    exact ZT q11 fun _ s11 ⟨_,H11,I11,_,q11⟩=>again I11 q11
 exact codeAny_compStart_list (loop _ rfl) (T.self _ 0 _ _ _ st1 (loop _ rfl))
theorem ZdH {own:List Str}{caps:List Nat}{N':List Str}{esc scope:Scope}{elt iter tg:Expr}{ifs:List Expr}{pos:Pos}{wi:TI}{g:TG}{tc:TT}{te:TE}
  (hesc:X.env.scope=esc) (S:WE X.N esc own caps N' scope) (hc:X.calm=true) (hi:PI X tg iter wi)
  (hg:∀cl C s H ex,PG (YQ X scope cl N' C s H ex) tg g) (ht:∀cl C s H ex,PIf (YQ X scope cl N' C s H ex) ifs tc) (he:∀cl C s H ex,PE (YQ X scope cl N' C s H ex) elt te)
  (hs:∀x,foldedSetIterable iter X.env x=pure x:=by intro _;rfl) :
  PE X (.ListComp elt [⟨tg,iter,ifs,0⟩] scope pos) (Zeq own caps wi g tc te):=by
 intro pins s σ H Q I h
 obtain⟨cl,hcl,hcl1,hcl2⟩:=Zag (scope:=scope) (env:=X.env) fun y hy hf=>by
  have:=S.fr y hy hf
  rw[<-hesc] at this
  exact I.ok.has y.1 this
 rw[eval_ListComp]
 refine wpAny_comprehension_free (use:=none) rfl hs hcl S.kind S.uniq (ZT (hi pins s σ H _ I h) fun v s1 h1=>ZT h1 fun itv s2 h2=>?_)
 obtain⟨it,fp,tn,J,H2,e,I2,T,st2,f2,q⟩:=h2
 subst e
 refine Zae (RR:=fun acc C=>compPost (model X.prog X.w) X.A X.xe none (EP X pins σ Q) acc C) hesc S hc hcl1 hcl2 hg ht he I2 T st2 f2 q ?_
 intro D C s' m H' hn _ _ _ _ _ q' hb
 exact⟨m,hn,fun h' sb=>⟨.ref D,H',hb h' sb,rfl,q'⟩⟩
end
section
variable {κ:Type} [DecidableEq κ]
def We (kvs:List (κ×V))(k:κ):Option V:=(kvs.find? fun kv=>decide (kv.1=k)).map (·.2)
def Yw (kvs:List (κ×V))(k:κ)(v:V):List (κ×V):=
 if (kvs.any fun kv=>decide (kv.1=k))=true then kvs.map (fun kv=>if kv.1=k then (kv.1,v) else kv) else kvs++[(k,v)]
theorem JL {p:κ×V}{r:List (κ×V)}{k:κ}(e:p.1=k):We (p::r) k=some p.2:=by simp[We,List.find?_cons,e]
theorem JM {p:κ×V}{r:List (κ×V)}{k:κ}(e:¬p.1=k):We (p::r) k=We r k:=by simp[We,List.find?_cons,e]
theorem WT (k:κ):∀kvs:List (κ×V),(kvs.any fun kv=>decide (kv.1=k))=(We kvs k).isSome
 | []=>rfl
 |p::r=>by
  rw[List.any_cons]
  by_cases e:p.1=k
  ·simp only[JL e,decide_eq_true e,Bool.true_or,Option.isSome_some]
  ·rw[JM e,decide_eq_false e,Bool.false_or];exact WT k r
theorem Jx (kvs:List (κ×V))(k:κ)(v:V):(Yw kvs k v).length<=kvs.length+1:=by
 unfold Yw
 split
 ·rw[Za];omega
 ·rw[Zd,Zi,List.length_nil];omega
theorem Zcw {kvs:List (κ×V)}{k:κ}(v:V)(h:We kvs k=none):Yw kvs k v=kvs++[(k,v)]:=by
 unfold Yw
 rw[WT,h]
 exact if_neg (by decide)
theorem WR.isSome_eq {o:Option V}{u:Option Value}(r:WR o u):o.isSome=u.isSome:=by
 cases o with
 |none=>cases u with
  |none=>rfl
  |some _=>exact (show False from r).elim
 |some _=>cases u with
  |none=>exact (show False from r).elim
  |some _=>rfl
theorem KV.val {kvs:List (κ×V)}{vs:List (κ×Value)}(r:KV kvs vs)(k:κ):WR (We kvs k) (valueAt vs k):=by
 unfold KV at r
 induction r with
 |nil=>exact True.intro
 | @cons p q ps qs h t ih=>
  obtain⟨h1,h2⟩:=h
  by_cases e:p.1=k
  ·have e':q.1=k:=h1.symm.trans e
   have b:valueAt (q::qs) k=some q.2:=by simp[valueAt,List.find?_cons,e']
   rw[JL e,b];exact h2
  ·have e':¬q.1=k:=fun z=>e (h1.trans z)
   have b:valueAt (q::qs) k=valueAt qs k:=by simp[valueAt,List.find?_cons,e']
   rw[JM e,b];exact ih
theorem KV.any {kvs:List (κ×V)}{vs:List (κ×Value)}(r:KV kvs vs)(k:κ):(kvs.any fun kv=>decide (kv.1=k))=vs.any fun kv=>decide (kv.1=k):=by
 unfold KV at r
 induction r with
 |nil=>rfl
 |cons h t ih=>rw[List.any_cons,List.any_cons,ih,h.1]
theorem KV.repl {kvs:List (κ×V)}{vs:List (κ×Value)}(r:KV kvs vs)(k:κ){y:V}{u:Value}(ry:RelV y u) :
  KV (kvs.map fun kv=>if kv.1=k then (kv.1,y) else kv) (vs.map fun kv=>if kv.1=k then (kv.1,u) else kv):=by
 unfold KV at r ⊢
 induction r with
 |nil=>exact .nil
 | @cons p q ps qs h t ih=>
  rw[List.map_cons,List.map_cons]
  refine .cons ?_ ih
  obtain⟨h1,h2⟩:=h
  by_cases e:p.1=k
  ·rw[if_pos e,if_pos (h1.symm.trans e)];exact⟨h1,ry⟩
  ·rw[if_neg e,if_neg (fun z=>e (h1.trans z))];exact⟨h1,h2⟩
theorem KV.put {kvs:List (κ×V)}{vs:List (κ×Value)}(r:KV kvs vs)(k:κ){y:V}{u:Value}(ry:RelV y u):KV (Yw kvs k y) (stored vs k u):=by
 unfold Yw stored
 rw[r.any k]
 by_cases e:(vs.any fun kv=>decide (kv.1=k))=true
 ·rw[if_pos e,if_pos e];exact r.repl k ry
 ·rw[if_neg e,if_neg e];exact Paired.snoc r ⟨rfl,ry⟩
theorem KV.length {kvs:List (κ×V)}{vs:List (κ×Value)}(r:KV kvs vs):kvs.length=vs.length:=Paired.length r
end
theorem ZaM {P:Program}{w:World}{k:Z6}{u:Value}(r:RelV (kV k) u):(ZV P w).is k u=true:=by
 cases k with
 |inl i=>obtain⟨t,e⟩:=(show ∃t,u=Value.int i t from r);subst e;exact VV P w i t
 |inr x=>obtain⟨t,e⟩:=(show ∃t,u=Value.str x t from r);subst e;exact VU P w x t
theorem XX {P:Program}{w:World}:∀{ks:List Z6}{us:List Value},ZC (ks.map kV) us->ItemsAre (ZV P w) ks us
 | [],_,r=>by rw[List.map_nil] at r;cases r;exact .nil
 |k::ks,_,r=>by
  rw[List.map_cons] at r
  cases r with
  |cons h t=>exact .cons (ZaM h) (XX t)
abbrev KT (H:Hp):List (List Z6×V)->List (List Z6×Addr×Value)->Prop:=Paired fun p q=>p.1=q.1/\H q.2.1=some (.tup (p.1.map kV))/\RelV p.2 q.2.2
theorem KT.val {H:Hp}{kvs:List (List Z6×V)}{xs:List (List Z6×Addr×Value)}(r:KT H kvs xs)(k:List Z6):WR (We kvs k) ((atKey xs k).map (·.2)):=by
 induction r with
 |nil=>exact True.intro
 | @cons p q ps qs h t ih=>
  obtain⟨h1,_,h2⟩:=h
  by_cases e:p.1=k
  ·have e':q.1=k:=h1.symm.trans e
   have b:atKey (q::qs) k=some q.2:=by simp[atKey,List.find?_cons,e']
   rw[JL e,b];exact h2
  ·have e':¬q.1=k:=fun z=>e (h1.trans z)
   have b:atKey (q::qs) k=atKey qs k:=by simp[atKey,List.find?_cons,e']
   rw[JM e,b];exact ih
theorem KT.repl {H:Hp}{kvs:List (List Z6×V)}{xs:List (List Z6×Addr×Value)}(r:KT H kvs xs)(k:List Z6){y:V}{u:Value}(ry:RelV y u) :
  KT H (kvs.map fun kv=>if kv.1=k then (kv.1,y) else kv) (xs.map (putAt k u)):=by
 induction r with
 |nil=>exact .nil
 | @cons p q ps qs h t ih=>
  rw[List.map_cons,List.map_cons]
  refine .cons ?_ ih
  obtain⟨h1,h2,h3⟩:=h
  unfold putAt
  by_cases e:p.1=k
  ·rw[if_pos e,if_pos (h1.symm.trans e)];exact⟨h1,h2,ry⟩
  ·rw[if_neg e,if_neg (fun z=>e (h1.trans z))];exact⟨h1,h2,h3⟩
theorem KT.put {H:Hp}{kvs:List (List Z6×V)}{xs:List (List Z6×Addr×Value)}(r:KT H kvs xs)(k:List Z6){b:Addr}{y:V}{u:Value}(hb:H b=some (.tup (k.map kV)))(ry:RelV y u) :
  KT H (Yw kvs k y) (storedH xs k b u):=by
 have e:(kvs.any fun kv=>decide (kv.1=k))=(atKey xs k).isSome:=by
  rw[WT,(r.val k).isSome_eq,Option.isSome_map]
 unfold Yw storedH
 rw[e]
 by_cases q:(atKey xs k).isSome=true
 ·rw[if_pos q,if_pos q];exact r.repl k ry
 ·rw[if_neg q,if_neg q];exact Paired.snoc r ⟨rfl,hb,ry⟩
theorem KT.keeps {H H':Hp}{kvs:List (List Z6×V)}{xs:List (List Z6×Addr×Value)}(r:KT H kvs xs)(ht:∀b ys,H b=some (.tup ys)->H' b=some (.tup ys)):KT H' kvs xs:=
 Paired.mapP r fun _ _ z=>⟨z.1,ht _ _ z.2.1,z.2.2⟩
section
variable {P:Program}{w:World}{H:Hp}{h:Heap}{a:Addr}
theorem ZeB {u:HO}(ok:Ww P w H h)(e:Rd H a u):ZG P w H h a u:=e.ok ok
theorem ZaT {kvs:List (Z6×V)}(ok:Ww P w H h)(e:Rd H a (.dK kvs)):kvs.length<=sizeLine/\(a == sysModules)=false/\∃vs,KV kvs vs/\h.DictOf (ZV P w) a vs:=
 show ZG P w H h a (.dK kvs) from ZeB ok e
theorem ZgG {kvs:List (Z6×V)}(ok:Ww P w H h)(e:H a=some (.dK kvs)):kvs.length<=sizeLine/\(a == sysModules)=false/\∃vs,KV kvs vs/\h.DictOf (ZV P w) a vs:=ZaT ok (.inl e)
theorem Xc {ks:List Z6}(ok:Ww P w H h)(e:H a=some (.tup (ks.map kV))):(tupleKind (ZV P w)).is h ks a:=by
 obtain⟨_,its,r,o,h1,h2,n,h3⟩:=(show ZG P w H h a (.tup (ks.map kV)) from ok a _ e)
 exact⟨o,its.toArray,n,h1,h2,h3,by simpa using XX r⟩
theorem Ud {kvs:List (List Z6×V)}(ok:Ww P w H h)(e:Rd H a (.dT kvs)):kvs.length<=sizeLine/\(a == sysModules)=false/\
  ∃xs,KT H kvs xs/\h.DictOfH (tupleKind (ZV P w)) a xs:=by
 obtain⟨z,y,xs,r,o,es,ep,h1,h2,h3,h4,h5⟩:=(show ZG P w H h a (.dT kvs) from ZeB ok e)
 refine⟨z,y,xs,r,o,es,ep,h1,h2,h3,h4,fun x hx=>?_,h5⟩
 have all:∀{l:List (List Z6×V)}{m:List (List Z6×Addr×Value)},KT H l m->∀x∈m,(tupleKind (ZV P w)).is h x.1 x.2.1:=by
  intro l m q
  induction q with
  |nil=>intro x hx;exact nomatch hx
  | @cons p q ps qs hq t ih=>
   intro x hx
   rcases List.mem_cons.mp hx with e|hx
   ·subst e
    exact Xc ok (by rw[<-hq.1];exact hq.2.1)
   ·exact ih x hx
 exact all r x hx
theorem ZeO {kvs:List (List Z6×V)}(ok:Ww P w H h)(e:H a=some (.dT kvs)):kvs.length<=sizeLine/\(a == sysModules)=false/\
  ∃xs,KT H kvs xs/\h.DictOfH (tupleKind (ZV P w)) a xs:=Ud ok (.inl e)
end
def VC (H:Hp)(a:Addr)(y:V)(r:Option V):Prop:=
 (∃kvs k,Rd H a (.dK kvs)/\y=kV k/\r=We kvs k)\/∃kvs k b,Rd H a (.dT kvs)/\y=.ref b/\H b=some (.tup (k.map kV))/\r=We kvs k
def ZbV (H:Hp)(a:Addr)(y v:V)(H':Hp):Prop:=
 (∃kvs k,H a=some (.dK kvs)/\y=kV k/\kvs.length<sizeLine/\H'=upd H a (.dK (Yw kvs k v)))\/
 ∃kvs k b,H a=some (.dT kvs)/\y=.ref b/\H b=some (.tup (k.map kV))/\kvs.length<sizeLine/\H'=upd H a (.dT (Yw kvs k v))
theorem VC.t {H:Hp}{a b:Addr}{kvs:List (List Z6×V)}{k:List Z6}(e:H a=some (.dT kvs))(eb:H b=some (.tup (k.map kV))):VC H a (.ref b) (We kvs k):=.inr ⟨kvs,k,b,.inl e,rfl,eb,rfl⟩
theorem ZbV.t {H:Hp}{a b:Addr}{kvs:List (List Z6×V)}{k:List Z6}{v:V}(e:H a=some (.dT kvs))(eb:H b=some (.tup (k.map kV)))(hl:kvs.length<sizeLine) :
  ZbV H a (.ref b) v (upd H a (.dT (Yw kvs k v))):=.inr ⟨kvs,k,b,e,rfl,eb,hl,rfl⟩
section
variable {X:Cx}{pins:List (Addr×Obj)}{σ:St}{H:Hp}{s:Shared}{a:Addr}{y v:V}{u r:Value}{o:Option V}{A:Around}{E:Value->Shared->Prop}
theorem Inv.big (I:Inv X pins σ H s):sysModules<s.heap.objs.size:=by
 have h:mainGlobals<s.heap.objs.size:=(I.mod.glob.keeps I.bk).lt
 exact Nat.lt_trans (by decide) h
theorem ZbI {Q:Value->Shared->Prop}(hu:A.units+1<cLine)(I:Inv X pins σ H s)(g:VC H a y (some v))(ry:RelV y u)(h:∀w' s',Inv X pins σ H s'->RelV v w'->Q w' s') :
  wpAny (model X.prog X.w) A (getItem (.ref a) u) Q E s:=by
 rcases g with ⟨kvs,k,e,ey,l⟩|⟨kvs,k,b,e,ey,eb,l⟩
 ·subst ey
  obtain⟨z,hd,vs,rel,dd⟩:=ZaT I.hok e
  obtain⟨w',hw,rw'⟩:=WR.some_of (v:=v) (o:=valueAt vs k) (by rw[l];exact rel.val k)
  exact wpAny_getItem_of (ZaM ry) dd.mapOf hw (h w' _ (I.tok _) rw')
 ·subst ey
  cases (show u=Value.ref b from ry)
  obtain⟨z,hd,xs,rel,dd⟩:=Ud I.hok e
  obtain⟨w',hw,rw'⟩:=WR.some_of (v:=v) (o:=(atKey xs k).map (·.2)) (by rw[l];exact rel.val k)
  obtain⟨p,hp,hp2⟩:=Option.map_eq_some_iff.mp hw
  refine wpAny_getItem_heap (tupleKind_room_in1 hu) (Xc I.hok eb) dd hp ?_
  rw[hp2]
  exact h w' _ (I.tok _) rw'
theorem Zed {Q:Value->Shared->Prop}(hu:A.units+1<cLine)(I:Inv X pins σ H s)(g:VC H a y o)(ry:RelV y u)(h:∀s',Inv X pins σ H s'->Q (.bool (!o.isSome)) s') :
  wpAny (model X.prog X.w) A (compareOp .NotIn u (.ref a)) Q E s:=by
 rcases g with ⟨kvs,k,e,ey,l⟩|⟨kvs,k,b,e,ey,eb,l⟩
 ·subst ey
  obtain⟨z,hd,vs,rel,dd⟩:=ZaT I.hok e
  refine wpAny_notIn_of (ZaM ry) hd dd.mapOf ?_
  rw[<-(rel.val k).isSome_eq,<-l]
  exact h _ (I.tok _)
 ·subst ey
  cases (show u=Value.ref b from ry)
  obtain⟨z,hd,xs,rel,dd⟩:=Ud I.hok e
  refine wpAny_notIn_heap (tupleKind_room_in1 hu) (Xc I.hok eb) hd dd ?_
  have q:=(rel.val k).isSome_eq
  rw[Option.isSome_map] at q
  rw[<-q,<-l]
  exact h _ (I.tok _)
theorem Vu {h':Heap}{t':Nat}{ob:HO}(I:Inv X pins σ H s)(mu:Mut (H a))(hs:Heap.SameBut a s.heap h')(he:∃q,h'.get? a=some q)(new:ZG X.prog X.w (upd H a ob) h' a ob) :
  Inv X pins σ (upd H a ob) {s with heap:=h',toks:=t'}:=
 I.write (x:=a) (e:=a) mu (.inl rfl) (fun b q hb z=>(hs.2 b hb).trans z) he new
theorem ZfG {P:Program}{w:World}{H':Hp}{h':Heap}{kvs:List (Z6×V)}{vs:List (Z6×Value)}(z:kvs.length<=sizeLine)(hd:(a == sysModules)=false)(rel:KV kvs vs)(dd:h'.DictOf (ZV P w) a vs) :
  ZG P w H' h' a (.dK kvs):=⟨z,hd,vs,rel,dd⟩
theorem ZbH {H':Hp}{Q:Unit->Shared->Prop}(hu:A.units+1<cLine)(I:Inv X pins σ H s)(g:ZbV H a y v H')(ry:RelV y u)(rv:RelV v r)(h:∀s',Inv X pins σ H' s'->Q () s') :
  wpAny (model X.prog X.w) A (setItem (.ref a) u r) Q E s:=by
 rcases g with ⟨kvs,k,e,ey,l,eH⟩|⟨kvs,k,b,e,ey,eb,l,eH⟩
 ·subst ey eH
  obtain⟨z,hd,vs,rel,dd⟩:=ZgG I.hok e
  have hz:vs.length<=sizeLine:=by rw[<-rel.length];exact z
  have hl:(Yw kvs k v).length<=sizeLine:=by have:=Jx kvs k v;omega
  refine wpAny_setItem_pairs (hsz:=hz) (ZaM ry) dd fun h' dd' hs=>h _ ?_
  have he:∃q,h'.get? a=some q:=let ⟨q,_,_,hq,_⟩:=dd';⟨q,hq⟩
  exact Vu I (by rw[e];exact True.intro) hs he (ZfG hl hd (rel.put k rv) dd')
 ·subst ey eH
  cases (show u=Value.ref b from ry)
  obtain⟨z,hd,xs,rel,dd⟩:=ZeO I.hok e
  have hz:xs.length<=sizeLine:=by rw[<-Paired.length rel];exact z
  have hl:(Yw kvs k v).length<=sizeLine:=by have:=Jx kvs k v;omega
  refine wpAny_setItem_heap (hsz:=hz) (tupleKind_room_in1 hu) (Xc I.hok eb) dd fun h' dd' hs=>h _ ?_
  obtain⟨q,es,ep,hq,h2,h3,h4,_,h5⟩:=dd'
  refine Vu I (by rw[e];exact True.intro) hs ⟨q,hq⟩ ⟨hl,hd,_,(rel.put k eb rv).keeps fun c ys ec=>?_,q,es,ep,hq,h2,h3,h4,h5⟩
  rw[Zw (ZeG ec e (fun z=>nomatch z))]
  exact ec
end
section
variable {X:Cx}{pins:List (Addr×Obj)}{σ:St}{H:Hp}{s:Shared}{a:Addr}{kvs:List (Z6×V)}{k:Z6}{u:Value}{A:Around}{E:Value->Shared->Prop}
end
def ZgK (i:Expr):Prop:=∀ov iv,subscripted i false ov iv=operate [ov,iv] (getItem ov iv)
theorem ZdA {prog:Program}{w:World}{A:Around}{E:Value->Shared->Prop}{s:Shared}{env:Env}{value slice:Expr}{pos:Pos}{T id:String}{Q:Value->Shared->Prop}
  (hl:typeLookup (.type T) "__getitem__"=pure (some (.builtin id))) (hs:ZgK slice)
  (h:wpAny (model prog w) A (eval value env) (fun o s₁=>wpAny (model prog w) A (eval slice env) (fun i s₂=>s₂.TypeIs o T/\wpAny (model prog w) A (getItem o i) Q E s₂) E s₁) E s) :
  wpAny (model prog w) A (eval (.Subscript value slice pos) env) Q E s:=by
 refine Subscript_ (wpAny_mono h (fun o s₁ h₁=>wpAny_mono h₁ (fun i s₂ h₂=>?_) fun _ _ x=>x) fun _ _ x=>x)
 obtain⟨hT,h₂⟩:=h₂
 unfold subscriptTail
 refine Zl ?_
 rw[getitemInPython_of_ne hT.not_modules]
 refine Zl (wpAny_specialOf hT hl ?_)
 have fin:wpAny (model prog w) A (subscripted slice false o i) (fun r s₃=>wpAny (model prog w) A (letTemporaryGo value o r >>= fun _=>pure r) Q E s₃) E s₂:=by
  rw[hs o i]
  exact wpAny_operating (wpAny_mono h₂ (fun r s₃ h₃=>Zl (wpAny_letTemporaryGo (Zm h₃))) fun _ _ x=>x)
 first
  |exact Zm (Zl fin)
  |exact Zl (Zm (Zl fin))
  |exact Zl fin
theorem Ug {X:Cx}{pins:List (Addr×Obj)}{σ:St}{H:Hp}{s:Shared}{a:Addr}{y:V}{o:Option V}(I:Inv X pins σ H s)(g:VC H a y o):s.TypeIs (.ref a) "dict":=by
 rcases g with ⟨kvs,k,e,_,_⟩|⟨kvs,k,b,e,_,_,_⟩
 ·obtain⟨_,_,vs,_,dd⟩:=ZaT I.hok e
  exact dd.typeIs
 ·obtain⟨_,_,xs,_,dd⟩:=Ud I.hok e
  exact dd.typeIs
def Zf5 (td ty:TE):TE:=fun σ H Q=>td σ H fun x H1=>ty σ H1 fun y H2=>∃a v,x=.ref a/\VC H2 a y (some v)/\Q v H2
def Zdz (ty td:TE):TE:=fun σ H Q=>ty σ H fun y H1=>td σ H1 fun x H2=>∃a o,x=.ref a/\VC H2 a y o/\Q (.bl (!o.isSome)) H2
def Zgd (td ty tv:TE):TS:=fun D σ H=>tv σ H fun v H1=>td σ H1 fun x H2=>ty σ H2 fun y H3=>∃a H4,x=.ref a/\ZbV H3 a y v H4/\D.nx σ H4
section
variable {X:Cx}{o i e value:Expr}{pos pos' tpos:Pos}{td ty tv:TE}
theorem ZdG (hu:X.A.units+1<cLine)(ho:PE X o td)(hi:PE X i ty)(hs:ZgK i):PE X (.Subscript o i pos) (Zf5 td ty):=by
 intro pins s σ H Q I h
 refine ZdA PySem.F.slot_dict_getitem.lookup hs (ZT (ho pins s σ H _ I h) fun u s1 ⟨x,H1,I1,rx,q1⟩=>ZT (hi pins s1 σ H1 _ I1 q1) fun iv s2 ⟨y,H2,I2,ry,a,v,ex,g,q2⟩=>?_)
 subst ex
 obtain rfl:u=Value.ref a:=rx
 exact⟨Ug I2 g,ZbI hu I2 g ry fun w' s3 I3 rw'=>⟨v,H2,I3,rw',q2⟩⟩
theorem Zbi (hu:X.A.units+1<cLine)(hi:PE X i ty)(ho:PE X o td):PC X .NotIn i o (Zdz ty td):=by
 intro pins s σ H Q I h
 refine ZT (hi pins s σ H _ I h) fun iv s1 ⟨y,H1,I1,ry,q1⟩=>ZT (ho pins s1 σ H1 _ I1 q1) fun u s2 ⟨x,H2,I2,rx,a,ov,ex,g,q2⟩=>?_
 subst ex
 obtain rfl:u=Value.ref a:=rx
 exact Zed hu I2 g ry fun s3 I3=>⟨.bl (!ov.isSome),H2,I3,rfl,q2⟩
theorem ZaD (hu:X.A.units+1<cLine)(ho:PE X o td)(hi:PE X i ty)(hv:PE X value tv)(hs:swapsWith value (some (.Subscript o i pos')) pos.line X.env=pure false) :
  PS X (.Assign [.Subscript o i pos'] value pos) (Zgd td ty tv):=by
 intro pins s σ H D I h
 refine wpAny_Assign_Subscript (ZT (hv pins s σ H _ I h) fun r s1 ⟨v,H1,I1,rv,q1⟩=>ZT (ho pins s1 σ H1 _ I1 q1) fun u s2 ⟨x,H2,I2,rx,q2⟩=>ZT (hi pins s2 σ H2 _ I2 q2) fun iv s3 ⟨y,H3,I3,ry,a,H4,ex,g,q3⟩=>?_) hs
 subst ex
 obtain rfl:u=Value.ref a:=rx
 exact ZbH hu I3 g ry rv fun s4 I4=>⟨σ,H4,I4,q3⟩
end
theorem Ue {P:Program}{w:World}{H:Hp}(h:Heap)(hb:sysModules<h.objs.size):ZG P w H (h.push {cls:=.type "dict",data:=.dict #[]}) h.objs.size (.dT []):=
 ⟨Nat.zero_le _,beq_eq_false_iff_ne.mpr (Ne.symm (Nat.ne_of_lt hb)),[],.nil,_,#[],0,Zo _ rfl,⟨rfl,rfl,rfl⟩,rfl,rfl,List.nodup_nil⟩
def Ze0:TE:=fun _ H Q=>∀p,H p=none->Q (.ref p) (upd H p (.dT []))
section
variable {X:Cx}{pos:Pos}
theorem ZcD:PE X (.Dict [] [] pos) Ze0:=fun pins s σ H Q I h=>
 wpAny_Dict_empty ⟨.ref s.heap.objs.size,_,I.laid (a:=s.heap.objs.size) (o:=.dT []) (t':=s.toks) (fun _ _ q=>Zn _ q) (Zq _) (Ue s.heap I.big),rfl,h _ (I.hok.fresh (Zq _))⟩
end
section
variable {X:Cx}{pins:List (Addr×Obj)}{σ:St}{H:Hp}{s:Shared}{a:Addr}{y d:V}{u r:Value}{o:Option V}{A:Around}{E:Value->Shared->Prop}
end
section
variable {X:Cx}{o e f:Expr}{apos cpos:Pos}{td ty tx:TE}
end
section
variable {X:Cx}{pins:List (Addr×Obj)}{σ:St}{H:Hp}{s:Shared}{a:Addr}{kvs:List (Z6×V)}{A:Around}{E:Value->Shared->Prop}
end
section
variable {X:Cx}{pins:List (Addr×Obj)}{σ:St}{H:Hp}{s:Shared}{a:Addr}{y:V}{u:Value}{A:Around}{E:Value->Shared->Prop}
end
mutual
inductive Wu (K:PySem.W.Frag) (H:Hp):V->PyData->Prop where
 |non:Wu K H .non .none
 |bl (b:Bool):Wu K H (.bl b) (.bool b)
 |int (i:Int):Wu K H (.int i) (.int i)
 |str (x:Str):Wu K H (.str x) (.str x)
 |lst {a:Addr}{xs:List V}{ds:List PyData} (h:Wa K H a xs) (r:Yc K H xs ds):Wu K H (.ref a) (.list ds)
 |tup {a:Addr}{xs:List V}{ds:List PyData} (h:WG K H a xs) (r:Yc K H xs ds):Wu K H (.ref a) (.tuple ds)
inductive Yc (K:PySem.W.Frag) (H:Hp):List V->List PyData->Prop where
 |nil:Yc K H [] []
 |cons {x:V}{xs:List V}{d:PyData}{ds:List PyData} (h:Wu K H x d) (r:Yc K H xs ds):Yc K H (x::xs) (d::ds)
end
section
variable {K:PySem.W.Frag}{H H':Hp}
theorem Zv.tup {a:Addr}{xs:List V}(e:Zv H H')(h:WG K H a xs):WG K H' a xs:=by
 rcases h with (h|⟨o,h⟩)|h
 ·exact .inl (.inl (e _ _ h))
 ·exact .inl (.inr ⟨o,e _ _ h⟩)
 ·exact .inr h
theorem Zv.upd {p:Addr}{o:HO}(h:H p=none):Zv H (upd H p o):=fun b u e=>by rw[Zw (Zz e h)];exact e
theorem Zv.updr {p:Addr}{o:HO}(s:Zv H H')(h:H p=none):Zv H (L2.upd H' p o):=fun b u e=>by rw[Zw (Zz e h)];exact s b u e
mutual
theorem Wu.mono (s:Zv H H'):∀{v:V}{d:PyData},Wu K H v d->Wu K H' v d
 |_,_,.non=>.non
 |_,_,.bl b=>.bl b
 |_,_,.int i=>.int i
 |_,_,.str x=>.str x
 |_,_,.lst h r=>.lst (s.seq h) (Yc.mono s r)
 |_,_,.tup h r=>.tup (s.tup h) (Yc.mono s r)
theorem Yc.mono (s:Zv H H'):∀{v:List V}{d:List PyData},Yc K H v d->Yc K H' v d
 |_,_,.nil=>.nil
 |_,_,.cons h r=>.cons (Wu.mono s h) (Yc.mono s r)
end
theorem Yc.ints:∀ns:List Int,Yc K H (ns.map V.int) (ns.map PyData.int)
 | []=>.nil
 |n::r=>.cons (.int n) (Yc.ints r)
end
section
variable {X:Cx}{pins:List (Addr×Obj)}{σ:St}{H:Hp}{s:Shared}
mutual
theorem Inv.reads (I:Inv X pins σ H s):∀{v:V}{d:PyData}{u:Value},Wu X.K H v d->RelV v u->∃as,Reads s.heap u d as
 |_,_,_,.non,r=>by cases (show _=Value.none from r);exact⟨_,.none⟩
 |_,_,_,.bl b,r=>by cases (show _=Value.bool b from r);exact⟨_,.bool b⟩
 |_,_,_,.int i,r=>by obtain⟨t,rfl⟩:=r;exact⟨_,.int i t⟩
 |_,_,_,.str x,r=>by obtain⟨t,rfl⟩:=r;exact⟨_,.str x t⟩
 |_,_,_,.lst (a:=a) h q,r=>by
  cases (show _=Value.ref a from r)
  obtain⟨its,rv,⟨o,n,e,c,_,d⟩,_⟩:=I.list h
  obtain⟨as,ra⟩:=Inv.readsAll I q rv
  exact⟨_,.list e c d (by simpa using ra)⟩
 |_,_,_,.tup (a:=a) h q,r=>by
  cases (show _=Value.ref a from r)
  obtain⟨its,rv,⟨o,e,c,n,d⟩,_⟩:=I.tuple h
  obtain⟨as,ra⟩:=Inv.readsAll I q rv
  exact⟨_,.tuple e c d (by simpa using ra)⟩
theorem Inv.readsAll (I:Inv X pins σ H s):∀{v:List V}{d:List PyData}{u:List Value},Yc X.K H v d->ZC v u->∃as,ReadsAll s.heap u d as
 |_,_,_,.nil,r=>by cases r;exact⟨_,.nil⟩
 |_,_,_,.cons h q,r=>by
  cases r with
  |cons r rr=>
   obtain⟨a1,h1⟩:=Inv.reads I h r
   obtain⟨a2,h2⟩:=Inv.readsAll I q rr
   exact⟨_,.cons h1 h2⟩
end
end
structure Zdq (d:PyData):Prop where
 sh:d.showable=true
 nd:d.hasDict=false
 dp:d.depth<=60
 sz:d.shown.length<=sizeLine
section
variable {X:Cx}
theorem Zfj (hu:X.A.units+64<cLine):Jb X (compareOp .Eq) (fun x y H Q=>∃dx dy,Wu X.K H x dx/\Wu X.K H y dy/\SeqAt.shaped dx=true/\SeqAt.shaped dy=true/\Q (.bl (PyData.eqv dx dy)) H):=by
 intro pins s σ H x y v u Q I rx ry ⟨dx,dy,h1,h2,s1,s2,q⟩
 obtain⟨as,r1⟩:=I.reads h1 rx
 obtain⟨bs,r2⟩:=I.reads h2 ry
 exact SeqAt.compareEq_shaped r1 r2 s1 s2 hu ⟨.bl _,H,I,rfl,q⟩
theorem Zfi (hu:X.A.units+64<cLine):Jb X (compareOp .NotEq) (fun x y H Q=>∃dx dy,Wu X.K H x dx/\Wu X.K H y dy/\SeqAt.shaped dx=true/\SeqAt.shaped dy=true/\Q (.bl (!PyData.eqv dx dy)) H):=by
 intro pins s σ H x y v u Q I rx ry ⟨dx,dy,h1,h2,s1,s2,q⟩
 obtain⟨as,r1⟩:=I.reads h1 rx
 obtain⟨bs,r2⟩:=I.reads h2 ry
 exact SeqAt.compareNe_shaped r1 r2 s1 s2 hu ⟨.bl _,H,I,rfl,q⟩
theorem ZbO {k:Nat}(hr:Yb k X.A):ZR X (.builtin "repr") (fun xs H Q=>∃x d,xs=[x]/\Wu X.K H x d/\Zdq d/\Q (.str d.shown) H):=by
 intro pins s σ H xs us Q I r h
 obtain⟨x,d,rfl,hd,F,q⟩:=h
 obtain⟨u,rfl,ru⟩:=vals1 r
 obtain⟨as,rd⟩:=I.reads hd ru
 have hun:X.A.units+61<cLine:=by have:=hr.units;omega
 have fin:∀(h':Heap) (u:Tok) (tk:Nat),(∀b o,s.heap.get? b=some o->h'.get? b=some o)->EP X pins σ Q (.str d.shown u) {s with heap:=h',toks:=tk}:=fun h' u tk k=>⟨.str d.shown,H,I.kept k,⟨u,rfl⟩,q⟩
 cases rd with
 |none=>exact P.repr_of_none (fin s.heap _ _ fun _ _ e=>e)
 |bool b=>exact P.repr_of_bool (by have:=fin s.heap s.toks (s.toks+1) fun _ _ e=>e;simpa only[PyData.shown] using this)
 |int i t=>exact P.repr_of_int (by simpa only[PyData.showable,decide_eq_true_eq] using F.sh) (by have:=fin s.heap s.toks (s.toks+1) fun _ _ e=>e;simpa only[PyData.shown] using this)
 |str y t=>exact P.repr_of_str (by have:=fin s.heap s.toks (s.toks+1) fun _ _ e=>e;simpa only[PyData.shown] using this) (by simpa only[PyData.shown] using F.sz)
 |list h1 h2 h3 h4=>exact repr_of_reads' (.list h1 h2 h3 h4) F.sh (fun z=>by rw[F.nd] at z;cases z) hr.gd (by have:=F.dp;omega) (fun _ _ e=>e) (fun h' u tk k=>fin h' u tk k) F.sz
 |tuple h1 h2 h3 h4=>exact repr_of_reads' (.tuple h1 h2 h3 h4) F.sh (fun z=>by rw[F.nd] at z;cases z) hr.gd (by have:=F.dp;omega) (fun _ _ e=>e) (fun h' u tk k=>fin h' u tk k) F.sz
 |dict h1 h2 h3 h4 h5=>cases hd
theorem Zdj:ZR X (.builtin "isinstance") (fun xs H Q=>∃x c t b,xs=[x,c]/\W6 X.K H x t/\(∀cv,RelV c cv->PySem.W.kitOne X.K t cv=some b)/\Q (.bl b) H):=by
 intro pins s σ H xs us Q I r h
 obtain⟨x,c,t,b,rfl,ty,e,q⟩:=h
 cases r with
 |cons r1 r=>
  cases r with
  |cons r2 r=>
   cases r
   exact ZbA I r1 ty (e _ r2) fun tk=>⟨.bl b,H,I.tok _,rfl,q⟩
theorem ZcL:Jb X (binaryOp .FloorDiv) (rI (fun _ j=>0<j/\j.natAbs.log2<9000) fun i j=>.int (i / j)):=opI fun i j _ _ _ _ _ hc q=>by
 have h1:(0:Int)<j:=hc.1
 exact floordiv_int (by omega) (by rw[Int.fdiv_eq_ediv_of_nonneg i (by omega)];exact q) (.inl (PyProof.noPylong_of_log2 hc.2))
theorem ZeV {prog:Program}{w:World}{A:Around}{its:List Value}{bs:List Bool}(r:ZC (bs.map V.bl) its):TruthOf prog w A (fun i v=>its.toArray[i]?=some v) (fun i=>bs.getD i false):=by
 intro i v s Q E hv hq
 rw[List.getElem?_toArray] at hv
 have hi:i<its.length:=(List.getElem?_eq_some_iff.mp hv).1
 have hl:=r.length
 rw[Za] at hl
 have hb:(bs.map V.bl)[i]?=some (.bl (bs.getD i false)):=by
  rw[Zc,Zb,Zf (by omega)];rfl
 obtain⟨u,hu,ru⟩:=r.get hb
 rw[hv] at hu
 cases hu
 cases (show v=Value.bool _ from ru)
 exact wpAny_truthy_bool hq
theorem Zbb {bs:List Bool}:((List.range bs.length).all fun i=>bs.getD i false)=bs.all id:=by
 have:(List.range bs.length).map (fun i=>bs.getD i false)=bs:=by
  apply List.ext_getElem
  ·simp
  ·intro i h1 h2;simp at h1;simp[h1]
 conv=>rhs;rw[<-this,List.all_map]
 rfl
theorem Zdk (hc:X.calm=true):ZR X (.builtin "all") (fun xs H Q=>∃(a:Addr) (bs:List Bool),xs=[.ref a]/\Wa X.K H a (bs.map V.bl)/\Q (.bl (bs.all id)) H):=by
 intro pins s σ H xs us Q I r h
 obtain⟨a,bs,rfl,hq,q⟩:=h
 obtain⟨u,rfl,ru⟩:=vals1 r
 cases ru
 obtain⟨its,rv,p,hz⟩:=I.list hq
 have hl:=rv.length
 rw[Za] at hl
 refine call_all_walk (wpAny_pyIter_list p.isList ?_)
 have hne:a≠s.heap.objs.size:=by obtain⟨o,n,e,_⟩:=p;exact Nat.ne_of_lt (Zp e)
 refine⟨s.heap.objs.size,_,_,_,_,_,(fun i=>bs.getD i false),rfl,Walks.list (A:=X.A.in1) (I.ok.hd hc) _ a hne its.toArray,⟨⟨_,Zo _ rfl,rfl,rfl⟩,p.isList.push _⟩,ZeV rv,fun h' tk k=>?_⟩
 rw[Zh,<-hl,Zbb]
 refine⟨.bl _,H,I.kept (t':=tk) fun b o e=>k b o ?_ (Zn _ e),rfl,q⟩
 simpa using Nat.ne_of_lt (Zp e)
end
theorem Zb2:isSubtype (.type "tuple") (.type "set")=pure false:=by rw[isSubtype_type];kernel_rfl
theorem Za3:isSubtype (.type "tuple") (.type "frozenset")=pure false:=by rw[isSubtype_type];kernel_rfl
abbrev Y9 (ns:List Int)(n:Nat):List Int:=firstMet (fun i=>ns.getD i 0) n
section
variable {prog:Program}{w:World}{A:Around}{E:Value->Shared->Prop}{s:Shared}
abbrev Zdn (prog:Program)(w:World)(s:Shared)(ns:List Int)(n:Nat)(h':Heap):Prop:=
 h'.SetOf (intKind prog w) s.heap.objs.size (fun k'=>(Y9 ns n).any (· == k')) (Y9 ns n).length/\∀b o,b<s.heap.objs.size->s.heap.get? b=some o->h'.get? b=some o
theorem UN {l:Addr}{items:Array Value}{ns:List Int}{Q:Value->Shared->Prop}(hh:A.handled=none)(hl:s.heap.IsTuple l items)(hi:IntsAre items.toList ns)(hb:items.size+1<scanBound)
  (h:∀(h':Heap) (tk:Nat),Zdn prog w s ns items.size h'->Q (.ref s.heap.objs.size) {s with heap:=h',toks:=tk}):wpAny (model prog w) A (call (.type "set") [.ref l]) Q E s:=by
 obtain⟨c,tl,hmro⟩:=F.called_set.mro
 have hmade:=F.called_set.made;have hsub:=F.called_set.sub
 refine wpAny_call (codeAny_of_tree ?_);show wpAny _ _ (callAny (.type "set") _) _ _ _
 refine Zm ⟨Code.quiet_builtin _ (by decide +kernel),codeAny_builtin F.entry_type_call ?_⟩;rw[Around.under_plain (weight_type_call_type "set" [.ref l] []) rfl]
 have h1:=F.called_set.notType;have h2:=F.called_set.canCreate;have hct:=F.typeCall_set_1 (.ref l)
 repeat (any_goals (first|assumption|wp_step))
 let ob (led:Bool):Obj:={cls:=.type "set",dict:=none,data:=.set #[] 0 (.fresh 0 0 led)}
 refine codeAny_mono (code_set_new_1 (.ref l) (E:=E) (Q₁:=fun obj s₁=>∃led:Bool,obj=.ref s.heap.objs.size/\s₁={s with heap:=s.heap.push (ob led)}) fun led=>⟨led,rfl,rfl⟩) fun r s₁ hr=>?_
 cases r with
 |error e=>exact hr
 |ok fl=>
  cases fl with
  |ret obj=>
   obtain⟨led,rfl,rfl⟩:=hr
   have hS:(s.heap.push (ob led)).get? s.heap.objs.size=some (ob led):=Zo _ rfl
   have hT:Shared.TypeIs {s with heap:=s.heap.push (ob led)} (.ref s.heap.objs.size) "set":=⟨_,hS,rfl⟩
   have hli:=F.called_set.init.lookup;have hbi:=F.called_set.init.bind (.ref s.heap.objs.size)
   repeat (any_goals (first|assumption|wp_step))
   refine codeAny_mono (codeAny_call_builtin (R:=wants (fun r s₂=>r=.none/\∃h' tk,s₂={s with heap:=h',toks:=tk}/\Zdn prog w s ns items.size h') E) F.called_set.init.plain F.entry_set_init (check_set_init_1 hT ?_)) fun r₂ s₂ hr₂=>?_
   ·obtain⟨ol,hol,hcl,nl,hdl⟩:=hl
    obtain⟨ocls,odict,odata,oslots⟩:=ol
    simp only at hcl hdl
    subst hcl;subst hdl
    have hol':(s.heap.push (ob led)).get? l=some {cls:=.type "tuple",dict:=odict,data:=.seq items nl,slots:=oslots}:=Zn _ hol
    have hsls:=Zb2;have hslf:=Za3
    have hne:(Value.type "tuple" == Value.type "dict")=false:=by decide
    have hl1:(s.heap.push (ob led)).IsTuple l items:=⟨_,hol',rfl,nl,rfl⟩
    unfold Builtin.«set.__init__» noKeywords Builtin.Frozenset.updateFrom;generalize hPI:pyIter=PI
    wp_walk
    subst hPI
    refine wpAny_pyIter_tuple hl1 ?_
    refine Zl (wpAny_runValue ?_)
    have hlS:l<s.heap.objs.size:=Zp hol
    have hneI:l≠(s.heap.push (ob led)).objs.size:=by rw[Heap.size_push];exact Nat.ne_of_lt (Nat.lt_succ_of_lt hlS)
    have hSf:s.heap.objs.size∉[(s.heap.push (ob led)).objs.size,l]:=by
     rw[Heap.size_push];intro z
     rcases List.mem_cons.mp z with z|z
     ·exact absurd z (Nat.ne_of_lt (Nat.lt_succ_self _))
     ·exact absurd (List.mem_singleton.mp z) (Nat.ne_of_gt hlS)
    refine codeAny_set_update_loopS ((Walks.tuple (A:=A.in1.in1.in1) (by simp[hh]) _ l hneI items).toS) s.heap.objs.size hSf (fun i=>ns.getD i 0) (fun i v hv=>IntsAre.int_at hi i v (by rw[Array.getElem?_toList];exact hv)) hb (items.size-0) 0 _ (by omega) (Nat.zero_le _)
     ⟨⟨_,Zo _ rfl,rfl,rfl⟩,⟨_,Zn _ hol',rfl,nl,rfl⟩⟩ ?hS0 ?hR
    case hS0=>exact SetOf_congr ((setObjOf_fresh (knd:=intKind prog w) led).setOf (Zn _ hS) (by unfold scanBound;omega)) (fun _=>rfl) rfl
    case hR=>
     intro s' hm hS'
     obtain⟨h',g',d',tk',os'⟩:=s'
     obtain rfl:g'=s.gens:=hm.gens
     obtain rfl:d'=s.drawn:=hm.drawn
     obtain rfl:os'=s.os:=hm.os
     show wpAny _ _ _ _ _ _
     refine Zm ?_;show wpAny _ _ (ret Value.none) _ _ _
     refine Zm ⟨rfl,h',tk',rfl,hS',fun b o hb e=>hm.heap b o (fun z=>?_) (Zn _ (Zn _ e))⟩
     rcases List.mem_cons.mp z with z|z
     ·exact absurd z (Nat.ne_of_lt hb)
     ·refine absurd (List.mem_singleton.mp z) (Nat.ne_of_lt ?_);rw[Heap.size_push];exact Nat.lt_succ_of_lt hb
   ·cases r₂ with
    |error e=>exact hr₂
    |ok fl₂=>
     cases fl₂ with
     |ret r=>
      obtain⟨rfl,h',tk,rfl,he⟩:=hr₂
      repeat (any_goals (first|assumption|wp_step))
      exact h _ _ he
     |_=>exact hr₂.elim
  |_=>exact hr.elim
end
theorem Vs:∀{ns:List Int}{us:List Value},ZC (ns.map V.int) us->IntsAre us ns
 | [],_,.nil=>.nil
 |n::r,_,.cons h t=>by
  obtain⟨k,rfl⟩:=(show ∃t,_=Value.int n t from h)
  exact .cons n k (Vs t)
section
variable {X:Cx}
theorem ZbN (hc:X.calm=true):ZR X (.type "set") (fun xs H Q=>∃(a:Addr) (ns:List Int),xs=[.ref a]/\WG X.K H a (ns.map V.int)/\ns.length<1000/\∀p,H p=none->Q (.ref p) (upd H p (.set (fun k=>(Y9 ns ns.length).any (· == k)) (Y9 ns ns.length).length))):=by
 intro pins s σ H xs us Q I r h
 obtain⟨a,ns,rfl,hq,hn,q⟩:=h
 obtain⟨u,rfl,ru⟩:=vals1 r
 cases ru
 obtain⟨its,rv,p,hz⟩:=I.tuple hq
 have hl:its.toArray.size=ns.length:=by rw[Zh,<-rv.length,Za]
 refine UN (I.ok.hd hc) (show s.heap.IsTuple a its.toArray from p) (ns:=ns) (by simpa using Vs rv) (by rw[hl];unfold scanBound;omega) fun h' tk ⟨e1,e2⟩=>?_
 rw[hl] at e1
 exact⟨.ref _,_,I.laid (a:=s.heap.objs.size) (o:=.set (fun k=>(Y9 ns ns.length).any (· == k)) (Y9 ns ns.length).length) (t':=tk) (fun b o e=>e2 b o (Zp e) e) (Zq _) e1,rfl,q _ (I.hok.fresh (Zq _))⟩
theorem ZbQ:ZR X (.builtin "len") (fun xs H Q=>∃(a:Addr) (S:Int->Bool) (n:Nat),xs=[.ref a]/\H a=some (.set S n)/\Q (.int n) H):=by
 intro pins s σ H xs us Q I r h
 obtain⟨a,S,n,rfl,ha,q⟩:=h
 obtain⟨u,rfl,ru⟩:=vals1 r
 cases ru
 obtain⟨o,es,ep,t,e1,e2,e3,_,_,e4,e5,e6⟩:=(show s.heap.SetOf (intKind X.prog X.w) a S n from I.hok a _ ha)
 refine call_len_set e1 e2 e3 e5 (by unfold scanBound at e4;omega) ?_
 exact⟨.int n,H,I.tok _,⟨_,by rw[e6]⟩,q⟩
theorem Yp:ZR X (.type "range") (fun xs H Q=>∃j:Int,xs=[.int j]/\∀p,H p=none->Q (.ref p) (upd H p (.rng 0 j))):=by
 intro pins s σ H xs us Q I r h
 obtain⟨j,rfl,q⟩:=h
 obtain⟨u,rfl,ru⟩:=vals1 r
 obtain⟨t,rfl⟩:=ru
 exact call_range_1 ⟨.ref s.heap.objs.size,_,I.laid (a:=s.heap.objs.size) (o:=.rng 0 j) (fun b o e=>Zn _ e) (Zq _) ⟨_,_,_,Zo _ rfl⟩,rfl,q _ (I.hok.fresh (Zq _))⟩
def Yg (lo:Int)(n:Nat):List Int:=(List.range n).map fun i:Nat=>lo+(i:Int)
theorem YU {lo:Int}{n:Nat}:(Yg lo n).length=n:=by unfold Yg;rw[Za,Zg]
theorem XF {lo:Int}{n:Nat}{acc:Array Value}(h:ItemsOf (fun i v=>∃t,v=.int (lo+i*1) t) acc n):ZC ((Yg lo n).map V.int) acc.toList:=by
 have go:∀(l:List Value) (k:Nat),(∀(j:Nat) v,l[j]?=some v->∃t,v=.int (lo+((k+j:Nat):Int)) t)->ZC (((List.range' k l.length).map fun i:Nat=>lo+(i:Int)).map V.int) l:=by
  intro l
  induction l with
  |nil=>intro k _;exact .nil
  |cons x r ih=>
   intro k hk
   rw[Zi,List.range'_succ]
   refine .cons ?_ (ih (k+1) fun j v hv=>?_)
   ·obtain⟨t,e⟩:=hk 0 x rfl
    exact⟨t,e⟩
   ·obtain⟨t,e⟩:=hk (j+1) v hv
    exact⟨t,by rw[e];congr 2;omega⟩
 have e:=go acc.toList 0 fun j v hv=>by
  rw[Array.getElem?_toList] at hv
  obtain⟨t,e⟩:=h.2 j v hv
  exact⟨t,by rw[e];congr 1 <;> omega⟩
 rw[Zr,h.1] at e
 unfold Yg
 rw[List.range_eq_range']
 exact e
theorem YS (hc:X.calm=true):ZR X (.type "list") (fun xs H Q=>∃(a:Addr) (lo hi:Int),xs=[.ref a]/\H a=some (.rng lo hi)/\(-(2 ^ 62)<=lo/\lo<2 ^ 62/\-(2 ^ 62)<=hi/\hi<2 ^ 62)/\(hi-lo).toNat<=sizeLine/\
  ∀l,H l=none->Q (.ref l) (upd H l (.lst ((Yg lo (hi-lo).toNat).map V.int)))):=by
 intro pins s σ H xs us Q I r h
 obtain⟨a,lo,hi,rfl,ha,⟨b1,b2,b3,b4⟩,hz,q⟩:=h
 obtain⟨u,rfl,ru⟩:=vals1 r
 cases ru
 obtain⟨t,u,v,e⟩:=(show ∃t u v,s.heap.get? a=some {cls:=.type "range",data:=.fields #[.int lo t,.int hi u,.int 1 v]} from I.hok a _ ha)
 refine call_list_range (n:=(hi-lo).toNat) (I.ok.hd hc) e (small_one b1 b2 b3 b4) (by rw[rangeSize_one];split <;> omega) hz fun h' tk acc c' hk hl hit=>?_
 exact⟨.ref _,_,I.laid (a:=s.heap.objs.size) (o:=.lst ((Yg lo (hi-lo).toNat).map V.int)) (t':=tk) hk (Zq _) ⟨by rw[Za,YU];exact hz,acc.toList,c',XF hit,by simpa using hl⟩,rfl,q _ (I.hok.fresh (Zq _))⟩
end
def YN:List Str->Bool
 | []=>true
 |x::r=>!(r.contains x) && YN r
theorem Ya:∀{l:List Str},YN l=true->l.Nodup
 | [],_=>List.nodup_nil
 |x::r,h=>by
  unfold YN at h
  simp only[Bool.and_eq_true,Bool.not_eq_true'] at h
  refine List.nodup_cons.mpr ⟨fun z=>?_,Ya h.2⟩
  have:=List.contains_iff_mem.mpr z
  rw[h.1] at this;cases this
def V7 (sc:Scope)(x:Str):Bool:=match sc.names.lookup x with
 |some .local=>true
 |some .cell=>true
 |_=>false
theorem V6 {sc:Scope}{x:Str}(h:V7 sc x=true):Loc sc x:=by
 unfold V7 at h
 split at h
 ·rename_i e;exact .inl e
 ·rename_i e;exact .inr e
 ·cases h
def Y8 (sc:Scope)(x:Str):Bool:=match sc.names.lookup x with
 |some .local=>true
 |_=>false
theorem Yl {sc:Scope}{x:Str}(h:Y8 sc x=true):sc.names.lookup x=some .local:=by
 unfold Y8 at h
 split at h
 ·rename_i e;exact e
 ·cases h
def V5 (sc:Scope)(x:Str):Bool:=match sc.names.lookup x with
 |some .local=>true
 |some .cell=>true
 |some .free=>true
 |_=>false
theorem ZcX {sc:Scope}{x:Str}(h:V5 sc x=true):Vis sc x:=by
 unfold V5 at h
 split at h
 ·rename_i e;exact .inl e
 ·rename_i e;exact .inr (.inl e)
 ·rename_i e;exact .inr (.inr e)
 ·cases h
def Z9 (sc:Scope)(x:Str):Bool:=match sc.names.lookup x with
 |some .globalImplicit=>true
 |_=>false
def YO:Expr->Bool
 | .Starred _ _=>false
 |_=>true
theorem Yz {e:Expr}{es:List Expr}{env:Env}(h:YO e=true):starEach (e::es) env=(false,eval e env)::starEach es env:=by cases e <;> first|rfl|cases h
def Yx:List Expr->Bool
 | []=>true
 |e::r=>YO e && Yx r
theorem Yo {env:Env}{pos:Pos}:∀{es:List Expr},Yx es=true->(backTo pos (starEach es env)).any (·.1)=false
 | [],_=>rfl
 |e::r,h=>by
  unfold Yx at h
  rw[Bool.and_eq_true] at h
  rw[Yz h.1]
  exact Yo h.2
section
variable {X:Cx}
theorem pc {e:Expr}{es:List Expr}{te:TE}{t:TA}(ha:PE X e te)(hr:PA X es t)(hs:YO e=true:=by rfl):PA X (e::es) (Zb4 te t):=ZdK ha hr (Yz hs)
theorem YZ {x:Str}(h:Z9 X.env.scope x=true):Gl X x:=by
 unfold Z9 at h
 split at h
 ·rename_i e;exact e
 ·cases h
theorem vn (i:Nat){x:Str}{pos:Pos}(hN:X.N[i]?=some x:=by rfl)(hv:V5 X.env.scope x=true:=by kernel_rfl)(hd:(x == ("__debug__":Str))=false:=by kernel_rfl)(hcd:(x == ("__classdict__":Str))=false:=by kernel_rfl) :
  PE X (.Name x pos) (JQ i):=Zfe hN (ZcX hv) hd hcd
theorem gn (i:Nat){x:Str}{pos:Pos}(hi:X.N[i]?=some x:=by rfl)(hN:YN X.N=true:=by kernel_rfl)(hx:Y8 X.env.scope x=true:=by kernel_rfl):PG X (.Name x pos) (Yf i):=
 ZaF (Ya hN) hi (.inl (Yl hx)) (.inr (Yl hx))
theorem gnf (i:Nat){x:Str}{pos:Pos}(hf:X.fn x=true)(hi:X.N[i]?=some x:=by rfl)(hN:YN X.N=true:=by kernel_rfl)(hx:V7 X.env.scope x=true:=by kernel_rfl):PG X (.Name x pos) (Yf i):=
 ZaF (Ya hN) hi (V6 hx) (.inl hf)
theorem ZZ (i:Nat){x:Str}{e:Expr}{te:TE}{pos pos':Pos}(hf:X.fn x=true)(he:PE X e te)(hi:X.N[i]?=some x:=by rfl)(hN:YN X.N=true:=by kernel_rfl)(hx:V7 X.env.scope x=true:=by kernel_rfl)
  (hs:swapsWith e (some (.Name x pos')) pos.line X.env=pure false:=by rfl):PS X (.Assign [.Name x pos'] e pos) (Za6 te (Yf i)):=
 Zfb (Ya hN) hi (V6 hx) he hs (.inl hf)
theorem cb {x:Str}{id:String}{r:List V->Hp->VK->Prop}{e:Expr}{es:List Expr}{t:TA}{p pos:Pos}(hc:ZR X (.builtin id) r)(hm:X.mg x=none)(ha:PA X (e::es) t)(hg:Z9 X.env.scope x=true:=by kernel_rfl)(hv:bootBuiltins x=some (.builtin id):=by kernel_rfl)
  (hn:x ≠ "__name__":=by decide) (hd:(x == ("__debug__":Str))=false:=by kernel_rfl) (he:YO e=true:=by rfl) (hpl:Yx es=true:=by rfl) :
  PE X (.Call (.Name x p) (e::es) [] pos) (tCB r t):=ZcI hc (YZ hg) hm hv ha hn hd (Yz he) (Yo hpl)
theorem ct {x:Str}{T:String}{r:List V->Hp->VK->Prop}{e:Expr}{es:List Expr}{t:TA}{p pos:Pos}(hc:ZR X (.type T) r)(hm:X.mg x=none)(ha:PA X (e::es) t)(hg:Z9 X.env.scope x=true:=by kernel_rfl)(hv:bootBuiltins x=some (.type T):=by kernel_rfl)
  (hn:x ≠ "__name__":=by decide) (hd:(x == ("__debug__":Str))=false:=by kernel_rfl) (he:YO e=true:=by rfl) (hpl:Yx es=true:=by rfl) :
  PE X (.Call (.Name x p) (e::es) [] pos) (tCB r t):=Zbh hc (YZ hg) hm hv ha hn hd (Yz he) (Yo hpl)
theorem tyv (T:String){x:Str}{pos:Pos}(hm:X.mg x=none)(hg:Z9 X.env.scope x=true:=by kernel_rfl)(hv:bootBuiltins x=some (.type T):=by kernel_rfl)(hn:x ≠ "__name__":=by decide)(hd:(x == ("__debug__":Str))=false:=by kernel_rfl) :
  PE X (.Name x pos) (tC (.ty T)):=ZdJ (YZ hg) hm hv rfl hn hd
theorem Zgv {x:Str}{i:Int}{t:Tok}{pos:Pos}(hm:X.mg x=some (.int i t))(hg:Z9 X.env.scope x=true:=by kernel_rfl)(hd:(x == ("__debug__":Str))=false:=by kernel_rfl):PE X (.Name x pos) (tC (.int i)):=Vi (YZ hg) hm ⟨t,rfl⟩ hd
theorem Zcp {tg a:Expr}{ta:TA}{p pos:Pos}(hm:X.mg "range"=none)(ha:PA X [a] ta)(hg:Z9 X.env.scope "range"=true:=by kernel_rfl)(hs:starEach [a] X.env=[(false,eval a X.env)]:=by rfl):PI X tg (.Call (.Name "range" p) [a] [] pos) (ZeI ta):=Zbg (YZ hg) hm ha hs
end
def Fn (P:Program)(w:World)(K:PySem.W.Frag)(mg:Str->Option Value)(base:Heap)(CX:Jq)(k:Nat)(x:Str)(ps:List Str)(sp:Sp):Prop:=
 ∃f fd,ZY P w K mg base CX k f fd ps sp/\mg x=some (.ref f)/\PySem.W.keepIn K (.ref f)=true/\Binds K fd ps []
section
variable {X:Cx}
theorem WS {CX:Jq}{k j:Nat}{x:Str}{ps:List Str}{sp:Sp}{E:XK}{e:Expr}{es:List Expr}{t:TA}{p pos:Pos}(G:Fn X.prog X.w X.K X.mg X.base CX k x ps sp)(hr:Yb j X.A)(hx:YC CX X E)(ha:PA X (e::es) t)(hk:k<=j:=by decide)
  (hg:Z9 X.env.scope x=true:=by kernel_rfl) (hd:(x == ("__debug__":Str))=false:=by kernel_rfl) (he:YO e=true:=by rfl) (hpl:Yx es=true:=by rfl) :
  PE X (.Call (.Name x p) (e::es) [] pos) (Zb6 sp [] E t):=by
 obtain⟨f,fd,F,hm,kp,b⟩:=G
 exact ZdI F (hr.mono hk) (YZ hg) hm kp b .nil hx ha hd (Yz he) (Yo hpl)
end
theorem Fn.mk {P:Program}{w:World}{K:PySem.W.Frag}{mg:Str->Option Value}{base h:Heap}{CX:Jq}{k:Nat}{x:Str}{ps:List Str}{sp:Sp}{st:Stmt}{f:Addr}{oc:Value}{od an:Option Addr}{osl:Array (Option Value)}{kV doc pm cdv ct:Value}(X:K.In h)(G:h.Ns mainGlobals mg)
  (a:PySem.W.nsIn K mainGlobals x=some (some (.ref f))) (l:K.lookup f=some ⟨oc,od,.func (PySem.W.fnOf x x (Z0 st) (ZL st) (ZB st) .none kV doc pm an cdv ct),osl⟩) (c:PySem.W.codeIn K cdv x=true) (kp:PySem.W.keepIn K (.ref f)=true)
  (hok:∀fd,W8 K x x st f fd->ZY P w K mg base CX k f fd ps sp)
  (hb:∀(kV doc pm:Value) (an:Option Addr) (cdv ct:Value) (us:List Value),us.length=ps.length->bindArgs (PySem.W.fnOf x x (Z0 st) (ZL st) (ZB st) .none kV doc pm an cdv ct) ⟨us,[]⟩=pure (ps.zip us)) :
  Fn P w K mg base CX k x ps sp:=
 ⟨f,_,hok _ (Xh l c kp),PySem.W.mg_of X G a,kp,(Xh l c kp).binds hb⟩
def JC (n T:String):Bool:=n == T || (n == "bool" && T == "int")
def U7:List String:=["NoneType", "bool", "int", "str", "list", "tuple", "dict"]
theorem Zhp {K:PySem.W.Frag}{n T:String}(hn:n∈U7)(hT:T∈["int", "bool", "tuple", "list", "str"]):PySem.W.kitOne K (.type n) (.type T)=some (JC n T):=by
 simp only[U7,List.mem_cons,List.mem_singleton,List.not_mem_nil,or_false] at hn hT
 rcases hn with rfl|rfl|rfl|rfl|rfl|rfl|rfl <;> rcases hT with rfl|rfl|rfl|rfl|rfl <;> kernel_rfl
def Kd (K:PySem.W.Frag)(H:Hp)(x:V)(n:String):Prop:=W6 K H x (.type n)/\n∈U7
theorem Kd.mono {K:PySem.W.Frag}{H H':Hp}{x:V}{n:String}(s:Zv H H')(h:Kd K H x n):Kd K H' x n:=by
 refine⟨?_,h.2⟩
 obtain⟨h,_⟩:=h
 generalize ht:Value.type n=t at h
 cases h with
 |non=>exact .non
 |bl x=>exact .bl x
 |int i=>exact .int i
 |str x=>exact .str x
 |flt x=>exact .flt x
 |lst e=>exact .lst (s _ _ e)
 |frz e=>exact .frz (s _ _ e)
 |tup e=>exact .tup (s _ _ e)
 |dK e=>exact .dK (s _ _ e)
 |dT e=>exact .dT (s _ _ e)
 |ins e a b c d f=>exact .ins (s _ _ e) a b c d f
def Zgg (K:PySem.W.Frag)(T:String):List V->Hp->VK->Prop:=fun xs H Q=>∃x n,xs=[x,.ty T]/\Kd K H x n/\Q (.bl (JC n T)) H
theorem Ws {X:Cx}{T:String}(hT:T∈["int", "bool", "tuple", "list", "str"]):ZR X (.builtin "isinstance") (Zgg X.K T):=by
 intro pins s σ H xs us Q I r h
 obtain⟨x,n,rfl,⟨ty,hn⟩,q⟩:=h
 refine Zdj pins s σ H _ us Q I r ⟨x,.ty T,.type n,JC n T,rfl,ty,fun cv rc=>?_,q⟩
 cases (show cv=Value.type T from rc)
 exact Zhp hn hT
section
variable {X:Cx}
theorem ixT (K:PySem.W.Frag)(hK:X.K=K:=by rfl):IxR X (Zgf K):=hK▸ZfA
theorem ixL (K:PySem.W.Frag)(hK:X.K=K:=by rfl):IxR X (Ze9 K):=hK▸ZK
theorem ZfB (K:PySem.W.Frag)(T:String)(hT:T∈["int", "bool", "tuple", "list", "str"]:=by decide)(hK:X.K=K:=by rfl):ZR X (.builtin "isinstance") (Zgg K T):=hK▸Ws hT
def Zhg (K:PySem.W.Frag):List V->Hp->VK->Prop:=fun xs H Q=>∃p ys,xs=[.ref p]/\(Wa K H p ys\/WG K H p ys)/\Q (.int ys.length) H
theorem WL (K:PySem.W.Frag)(hK:X.K=K:=by rfl):ZR X (.builtin "len") (Zhg K):=hK▸ZQ
theorem itT (K:PySem.W.Frag){tg l:Expr}{tl:TE}(hl:PE X l tl)(hK:X.K=K:=by rfl):PI X tg l (Zgu K tl):=hK▸Zcy hl
theorem itL (K:PySem.W.Frag){tg l:Expr}{tl:TE}(hl:PE X l tl)(hK:X.K=K:=by rfl):PI X tg l (ZeJ K tl):=hK▸ZdF hl
end
def Zaf (N:List Str)(esc:Scope)(own:List Str)(caps:List Nat)(N':List Str)(sc:Scope):Bool:=
 (sc.kind == .function) && YN (sc.names.map (·.1)) && sc.names.all (fun y=>y.2 != .local || Y8 sc y.1) && YN N' && decide (N'=own++caps.map fun j=>N.getD j "") &&
  caps.all (fun j=>decide (j<N.length) && (match sc.names.lookup (N.getD j "") with|some .free=>true|_=>false)) &&
  sc.names.all (fun y=>y.2 != .free || (match esc.names.lookup y.1 with|some .cell=>true|some .free=>true|_=>false))
theorem WE.of {N:List Str}{esc:Scope}{own:List Str}{caps:List Nat}{N':List Str}{sc:Scope}(h:Zaf N esc own caps N' sc=true):WE N esc own caps N' sc:=by
 unfold Zaf at h
 simp only[Bool.and_eq_true,List.all_eq_true,decide_eq_true_eq,beq_iff_eq,bne_iff_ne,ne_eq,Bool.or_eq_true] at h
 obtain⟨⟨⟨⟨⟨⟨h1,h2⟩,h3⟩,h4⟩,h5⟩,h6⟩,h7⟩:=h
 refine⟨h1,Ya h2,fun y hy e=>?_,Ya h4,h5,fun j hj=>⟨(h6 j hj).1,?_⟩,fun y hy e=>?_⟩
 ·rcases h3 y hy with z|z
  ·exact absurd e z
  ·exact Yl z
 ·have:=(h6 j hj).2
  split at this
  ·rename_i z;exact z
  ·cases this
 ·rcases h7 y hy with z|z
  ·exact absurd e z
  ·split at z
   ·rename_i q;exact .inl q
   ·rename_i q;exact .inr q
   ·cases z
theorem cmp {X:Cx}(own:List Str)(caps:List Nat)(N':List Str){scope:Scope}{elt iter tg:Expr}{ifs:List Expr}{pos:Pos}{wi:TI}{g:TG}{tc:TT}{te:TE}(hc:X.calm=true)(hi:PI X tg iter wi)
  (hg:∀cl C s H ex,PG (YQ X scope cl N' C s H ex) tg g) (ht:∀cl C s H ex,PIf (YQ X scope cl N' C s H ex) ifs tc) (he:∀cl C s H ex,PE (YQ X scope cl N' C s H ex) elt te)
  (hS:Zaf X.N X.env.scope own caps N' scope=true:=by kernel_rfl) (hs:∀x,foldedSetIterable iter X.env x=pure x:=by intro _;rfl) :
  PE X (.ListComp elt [⟨tg,iter,ifs,0⟩] scope pos) (Zeq own caps wi g tc te):=ZdH rfl (.of hS) hc hi hg ht he hs
section
variable {X:Cx}
end
theorem JO {c:TT}{tb:TS}{D:Wx}{σ:St}{H:Hp}(Pv:Nat->St->Hp->Prop)(Ex:St->Hp->Prop)(hend:∀ σ H,Ex σ H->D.nx σ H)(h0:∃m,Pv m σ H)
  (turn:(∀ σ H,Ex σ H->D.nx σ H)->∀m σ H,Pv m σ H->c σ H fun b H1=>if b=true then ∃N:St->Hp->Prop,(∀ σ' H',N σ' H'->∃m',m'<m/\Pv m' σ' H')/\tb {D with nx:=N,ct:=N,bk:=D.nx} σ H1 else D.nx σ H1) :
  Zb3 c tb D σ H:=⟨Pv,h0,turn hend⟩
structure Xo (J:It)(H:Hp)(xs:List V):Prop where
 go:∀(i:Nat) H',Zv H H'->i<xs.length->J.go i H'
 yld:∀(i:Nat) H' x H2,Zv H H'->i<xs.length->J.yld i H' x H2->H2=H'/\xs[i]?=some x
 stop:∀H',Zv H H'->J.stop xs.length H'
theorem WV {K:PySem.W.Frag}{H:Hp}{a:Addr}{xs:List V}(h:WG K H a xs):Xo (Itt K a) H xs:=
 ⟨fun i H' s hi=>⟨xs,_,s.tup h,Zf hi⟩,fun i H' x H2 s _ y=>⟨y.1,y.2 xs (s.tup h)⟩,fun H' s=>⟨xs,s.tup h,Zq _⟩⟩
theorem YF {K:PySem.W.Frag}{H:Hp}{a:Addr}{xs:List V}(h:Wa K H a xs):Xo (Itl K a) H xs:=
 ⟨fun i H' s hi=>⟨xs,_,s.seq h,Zf hi⟩,fun i H' x H2 s _ y=>⟨y.1,y.2 xs (s.seq h)⟩,fun H' s=>⟨xs,s.seq h,Zq _⟩⟩
theorem Uj {J:It}{own:List Str}{caps:List Nat}{g:TG}{tc:TT}{te:TE}{σ:St}{H:Hp}{Q:VK}{xs:List V}(S:Xo J H xs)(cs:St)(hcs:XB own caps σ=none::cs)(f:V->Option V)(hz:xs.length<=1000000)
  (hs:∀(i:Nat) x v0 H',xs[i]?=some x->Zv H H'->∀(R:St->V->Hp->Prop) (R':St->Hp->Prop),(∀v H5,f x=some v->Zv H' H5->R (some x::cs) v H5)->(∀H4,f x=none->Zv H' H4->R' (some x::cs) H4)->
   g x (v0::cs) H' fun σ3 H3=>tc σ3 H3 fun b H4=>if b=true then te σ3 H4 (R σ3) else R' σ3 H4)
  (hd:∀D H',H D=none->Zv H H'->H' D=some (.lst (xs.filterMap f))->Q (.ref D) H') :
  Xt own caps g tc te σ Q J H:=by
 intro D hD
 refine⟨fun i m σ' H'=>m=xs.length-i/\i<=xs.length/\(∃v0,σ'=v0::cs)/\Zv H H'/\H' D=some (.lst ((xs.take i).filterMap f)),⟨_,rfl,Nat.zero_le _,⟨none,hcs⟩,Zv.upd hD,by rw[Zs,List.take_zero];rfl⟩,?_⟩
 rintro i m σ' H' ⟨rfl,hi,⟨v0,rfl⟩,s,hl⟩
 by_cases hlt:i<xs.length
 ·refine .inr ⟨S.go i H' s hlt,_,fun σ2 H2 z=>z,fun x H2 y=>?_⟩
  obtain⟨rfl,hx⟩:=S.yld i H' x H2 s hlt y
  have ht:xs.take (i+1)=xs.take i++[x]:=by rw[List.take_add_one,hx];rfl
  have hlen:((xs.take i).filterMap f).length<=i:=Nat.le_trans (List.length_filterMap_le _ _) (by rw[List.length_take];omega)
  refine hs i x v0 H2 hx s _ _ (fun v H5 e s5=>?_) (fun H4 e s4=>?_)
  ·refine⟨_,s5 _ _ hl,?_,xs.length-(i+1),by omega,rfl,hlt,⟨_,rfl⟩,(s.trans s5).updr hD,?_⟩
   ·have:(16777216:Nat)=sizeLine:=by decide
    omega
   ·rw[Zs,ht,List.filterMap_append,List.filterMap_cons,e];rfl
  ·refine⟨xs.length-(i+1),by omega,rfl,hlt,⟨_,rfl⟩,s.trans s4,?_⟩
   rw[s4 _ _ hl,ht,List.filterMap_append,List.filterMap_cons,e]
   simp
 ·have e:i=xs.length:=by omega
  subst e
  refine .inl ⟨S.stop H' s,hd D H' hD s ?_⟩
  rw[hl,List.take_length]
theorem W3 {J:It}{g:TG}{tb:TS}{D:Wx}{σ:St}{H0 H:Hp}{xs:List V}(S:Xo J H0 xs)(Pv:Nat->St->Hp->Prop)(h0:Pv 0 σ H)(hS:∀i σ H,Pv i σ H->Zv H0 H)
  (hs:∀(i:Nat) x σ H,xs[i]?=some x->Pv i σ H->g x σ H fun σ2 H2=>tb {D with nx:=Pv (i+1),ct:=Pv (i+1),bk:=D.nx} σ2 H2) (hd:∀ σ H,Pv xs.length σ H->D.nx σ H) :
  ∃W:Nat->Nat->St->Hp->Prop,(∃m,W 0 m σ H)/\∀i m σ H,W i m σ H->
   (J.stop i H/\D.nx σ H)\/(J.go i H/\∃N:St->Hp->Prop,(∀ σ' H',N σ' H'->∃m',m'<m/\W (i+1) m' σ' H')/\∀x H',J.yld i H x H'->g x σ H' fun σ2 H2=>tb {D with nx:=N,ct:=N,bk:=D.nx} σ2 H2):=by
 refine⟨fun i m σ H=>m=xs.length-i/\i<=xs.length/\Pv i σ H,⟨_,rfl,Nat.zero_le _,h0⟩,?_⟩
 rintro i m σ H ⟨rfl,hi,p⟩
 have s:=hS i σ H p
 by_cases hlt:i<xs.length
 ·refine .inr ⟨S.go i H s hlt,Pv (i+1),fun σ' H' p'=>⟨xs.length-(i+1),by omega,rfl,hlt,p'⟩,fun x H' y=>?_⟩
  obtain⟨rfl,hx⟩:=S.yld i H x H' s hlt y
  exact hs i x σ _ hx p
 ·have e:i=xs.length:=by omega
  subst e
  exact .inl ⟨S.stop H s,hd σ H p⟩
theorem tT {A B:Hp->Prop}{σ:St}{H:Hp}(h:A H):Js σ H fun b H4=>if b=true then A H4 else B H4:=by
 show if true=true then A H else B H
 rw[if_pos rfl];exact h
theorem ZaP {α β:Type}(g:α->β):∀xs:List α,xs.filterMap (fun y=>some (g y))=xs.map g
 | []=>rfl
 |x::r=>by rw[List.filterMap_cons,List.map_cons,ZaP g r]
theorem ZeL {α β:Type}(p:α->Bool)(g:α->β):∀xs:List α,xs.filterMap (fun y=>if p y=true then some (g y) else none)=(xs.filter p).map g
 | []=>rfl
 |x::r=>by
  rw[List.filterMap_cons,List.filter_cons,ZeL p g r]
  by_cases h:p x=true
  ·rw[if_pos h,if_pos h];rfl
  ·rw[if_neg h,if_neg h]
theorem Yt {c A B:Prop} [Decidable c](hc:c)(h:A):if c then A else B:=by rw[if_pos hc];exact h
theorem Wj {c A B:Prop} [Decidable c](hc:¬c)(h:B):if c then A else B:=by rw[if_neg hc];exact h
theorem Zgs {ns:List Int}{i:Int}(h0:0<=i)(h1:i<ns.length):atI (ns.map V.int) i=some (.int (ns.getD i.toNat 0)):=by
 obtain⟨j,rfl⟩:=Int.eq_ofNat_of_zero_le h0
 have hj:j<ns.length:=by omega
 refine Z8 ?_
 rw[Zc,Zj,Zb,Zf hj];rfl
theorem ZbE (ns:List Int):∀j:Nat,(ns.map V.int).eraseIdx j=(ns.eraseIdx j).map V.int:=by
 induction ns with
 |nil=>intro j;rfl
 |cons n r ih=>
  intro j
  cases j with
  |zero=>rfl
  |succ j=>show V.int n::(r.map V.int).eraseIdx j=V.int n::(r.eraseIdx j).map V.int;rw[ih j]
theorem W4 {J:It}{own:List Str}{caps:List Nat}{te:TE}{σ:St}{H:Hp}{Q:VK}{xs:List V}(S:Xo J H xs)(cs:St)(hcs:XB own caps σ=none::cs)(f:V->V)(hz:xs.length<=1000000)
  (hs:∀(i:Nat) x H',xs[i]?=some x->Zv H H'->∀R:VK,(∀H5,Zv H' H5->R (f x) H5)->te (some x::cs) H' R)
  (hd:∀D H',H D=none->Zv H H'->H' D=some (.lst (xs.map f))->Q (.ref D) H'):Xt own caps (Yf 0) Js te σ Q J H:=by
 refine Uj S cs hcs (fun x=>some (f x)) hz (fun i x v0 H' hx s R R' h1 h2=>?_) fun D H' hD s hl=>hd D H' hD s (by rw[hl,ZaP])
 show Js (some x::cs) H' fun b H4=>if b=true then te (some x::cs) H4 (R (some x::cs)) else R' (some x::cs) H4
 exact tT (A:=fun H4=>te (some x::cs) H4 (R (some x::cs))) (hs i x H' hx s _ fun H5 s5=>h1 _ H5 rfl s5)
theorem ZbJ {J:It}{own:List Str}{caps:List Nat}{tc:TT}{te:TE}{σ:St}{H:Hp}{Q:VK}{xs:List V}(S:Xo J H xs)(cs:St)(hcs:XB own caps σ=none::cs)(p:V->Bool)(f:V->V)(hz:xs.length<=1000000)
  (hs:∀(i:Nat) x H',xs[i]?=some x->Zv H H'->∀(R:VK) (R':Hp->Prop),(p x=true->∀H5,Zv H' H5->R (f x) H5)->(p x=false->∀H4,Zv H' H4->R' H4)->tc (some x::cs) H' fun b H4=>if b=true then te (some x::cs) H4 R else R' H4)
  (hd:∀D H',H D=none->Zv H H'->H' D=some (.lst ((xs.filter p).map f))->Q (.ref D) H'):Xt own caps (Yf 0) tc te σ Q J H:=by
 refine Uj S cs hcs (fun x=>if p x=true then some (f x) else none) hz (fun i x v0 H' hx s R R' h1 h2=>?_) fun D H' hD s hl=>hd D H' hD s (by rw[hl,ZeL])
 exact hs i x H' hx s (R (some x::cs)) (R' (some x::cs)) (fun e H5 s5=>h1 _ H5 (by rw[if_pos e]) s5) fun e H4 s4=>h2 H4 (by rw[if_neg (by rw[e];decide)]) s4
theorem WU:∀{ns:List Int},(∀n∈ns,n.natAbs<2 ^ 200)->PyData.showableAll (ns.map PyData.int)=true/\PyData.hasDictAll (ns.map PyData.int)=false/\PyData.depthAll (ns.map PyData.int)=0/\PyData.leavesShortAll 300 (ns.map PyData.int)=true/\PyData.bulkAll (ns.map PyData.int)=ns.length/\PyData.canLayAll0 (ns.map PyData.int)=true
 | [],_=>⟨rfl,rfl,rfl,rfl,rfl,rfl⟩
 |n::r,h=>by
  obtain⟨h1,h2,h3,h4,h5,h6⟩:=WU (ns:=r) fun m hm=>h m (List.mem_cons_of_mem _ hm)
  have hn:=h n List.mem_cons_self
  have hlog:n.natAbs.log2<1920:=by
   by_cases h0:n.natAbs=0
   ·rw[h0];decide +kernel
   ·have:=(Nat.log2_lt h0).mpr hn
    omega
  have hlen:(PyData.shown (.int n)).length<=300:=by
   have h2:n.natAbs.log2<200:=by
    by_cases h0:n.natAbs=0
    ·rw[h0];decide +kernel
    ·exact (Nat.log2_lt h0).mpr hn
   have:=int_text_length_le (k:=200) (by decide) h2
   simp only[PyData.shown]
   rw[PySem.ofString_length];omega
  refine⟨?_,?_,?_,?_,?_,?_⟩
  ·simp only[List.map_cons,PyData.showableAll,PyData.showable,h1,Bool.and_true,decide_eq_true_eq];exact hlog
  ·simp only[List.map_cons,PyData.hasDictAll,PyData.hasDict,h2,Bool.or_false]
  ·simp only[List.map_cons,PyData.depthAll,PyData.depth,h3];rfl
  ·simp only[List.map_cons,PyData.leavesShortAll,PyData.leavesShort,h4,Bool.and_true,decide_eq_true_eq];exact hlen
  ·simp only[List.map_cons,PyData.bulkAll,PyData.bulk,h5,Zi];omega
  ·simp only[List.map_cons,PyData.canLayAll0,PyData.canLay0,h6,Bool.and_true]
def ZD (K:PySem.W.Frag)(x:Str)(st:Stmt):Prop:=
 ∃(f:Addr) (oc:Value) (od an:Option Addr) (osl:Array (Option Value)) (kV doc pm cdv ct:Value),PySem.W.nsIn K mainGlobals x=some (some (.ref f))/\
  K.lookup f=some ⟨oc,od,.func (PySem.W.fnOf x x (Z0 st) (ZL st) (ZB st) .none kV doc pm an cdv ct),osl⟩/\PySem.W.codeIn K cdv x=true/\PySem.W.keepIn K (.ref f)=true
theorem ZD.mk {K:PySem.W.Frag}{x:Str}{st:Stmt}{f:Addr}{oc:Value}{od an:Option Addr}{osl:Array (Option Value)}{kV doc pm cdv ct:Value}(a:PySem.W.nsIn K mainGlobals x=some (some (.ref f)))
  (l:K.lookup f=some ⟨oc,od,.func (PySem.W.fnOf x x (Z0 st) (ZL st) (ZB st) .none kV doc pm an cdv ct),osl⟩) (c:PySem.W.codeIn K cdv x=true) (k:PySem.W.keepIn K (.ref f)=true):ZD K x st:=
 ⟨f,oc,od,an,osl,kV,doc,pm,cdv,ct,a,l,c,k⟩
theorem ZD.fn {P:Program}{w:World}{K:PySem.W.Frag}{mg:Str->Option Value}{base h:Heap}{CX:Jq}{k:Nat}{x:Str}{ps:List Str}{sp:Sp}{st:Stmt}(D:ZD K x st)(X:K.In h)(G:h.Ns mainGlobals mg)
  (hok:∀f fd,W8 K x x st f fd->ZY P w K mg base CX k f fd ps sp)
  (hb:∀(kV doc pm:Value) (an:Option Addr) (cdv ct:Value) (us:List Value),us.length=ps.length->bindArgs (PySem.W.fnOf x x (Z0 st) (ZL st) (ZB st) .none kV doc pm an cdv ct) ⟨us,[]⟩=pure (ps.zip us)) :
  Fn P w K mg base CX k x ps sp:=by
 obtain⟨f,oc,od,an,osl,kV,doc,pm,cdv,ct,a,l,c,kp⟩:=D
 exact Fn.mk X G a l c kp (fun fd F=>hok f fd F) hb
theorem Yk {α:Type} [DecidableEq α]:∀(l l':List α),l.Nodup->(∀a∈l,a∈l')->l.length<=l'.length
 | [],_,_,_=>Nat.zero_le _
 |a::r,l',nd,h=>by
  obtain⟨na,nr⟩:=List.nodup_cons.mp nd
  have ha:a∈l':=h a List.mem_cons_self
  have:=Yk r (l'.erase a) nr fun b hb=>by
   have hne:b≠a:=fun e=>na (e▸hb)
   exact (List.mem_erase_of_ne hne).mpr (h b (List.mem_cons_of_mem _ hb))
  rw[List.length_erase_of_mem ha] at this
  have hp:0<l'.length:=List.length_pos_of_mem ha
  rw[Zi]
  omega
theorem XS (val:Nat->Int):∀i,(firstMet val i).Nodup
 |0=>List.nodup_nil
 |i+1=>by
  have ih:=XS val i
  rw[firstMet_succ]
  unfold step_dedup
  split
  ·exact ih
  ·rename_i h
   refine List.nodup_append.mpr ⟨ih,List.nodup_cons.mpr ⟨by simp,List.nodup_nil⟩,?_⟩
   intro a ha b hb e
   rw[List.mem_singleton.mp hb] at e
   apply h
   first
    |exact List.any_eq_true.mpr ⟨a,ha,by simp[e]⟩
    |simpa [e] using ha
theorem Zd0 (val:Nat->Int)(i:Nat)(k:Int):k∈firstMet val i↔∃j,j<i/\val j=k:=by
 have h:=firstMet_any val i k
 constructor
 ·intro hk
  have:(firstMet val i).any (· == k)=true:=List.any_eq_true.mpr ⟨k,hk,by simp⟩
  rw[h] at this
  obtain⟨x,hx,e⟩:=List.any_eq_true.mp this
  obtain⟨j,hj,rfl⟩:=List.mem_map.mp hx
  exact⟨j,List.mem_range.mp hj,by simpa using e⟩
 ·rintro⟨j,hj,rfl⟩
  have:((List.range i).map val).any (· == val j)=true:=List.any_eq_true.mpr ⟨val j,List.mem_map.mpr ⟨j,List.mem_range.mpr hj,rfl⟩,by simp⟩
  rw[<-h] at this
  obtain⟨x,hx,e⟩:=List.any_eq_true.mp this
  have:x=val j:=by simpa using e
  exact this▸hx
theorem XT (ns:List Int)(k:Int):k∈Y9 ns ns.length↔k∈ns:=by
 rw[Zd0]
 constructor
 ·rintro⟨j,hj,rfl⟩
  rw[Zb,Zf hj];exact List.getElem_mem hj
 ·intro h
  obtain⟨j,hj,e⟩:=List.getElem_of_mem h
  exact⟨j,hj,by rw[Zb,Zf hj];exact e⟩
theorem JV (n:Nat):(Yg 0 n).Nodup:=by
 unfold Yg
 rw[List.Nodup,List.pairwise_map]
 exact List.Pairwise.imp (fun h e=>h (by omega)) (List.nodup_range (n:=n))
theorem WW {n:Nat}{k:Int}:k∈Yg 0 n↔0<=k/\k<n:=by
 unfold Yg
 rw[List.mem_map]
 constructor
 ·rintro⟨i,hi,rfl⟩
  have:=List.mem_range.mp hi;omega
 ·rintro⟨h0,h1⟩
  obtain⟨j,rfl⟩:=Int.eq_ofNat_of_zero_le h0
  exact⟨j,List.mem_range.mpr (by omega),by simp⟩
theorem ZcB (ns:List Int):((∀z∈ns,0<=z/\z<ns.length)/\(Y9 ns ns.length).length=ns.length)↔∀k:Nat,k<ns.length->(k:Int)∈ns:=by
 constructor
 ·rintro⟨hr,hl⟩ k hk
  apply Classical.byContradiction
  intro hn
  have h1:=Yk (Y9 ns ns.length) ((Yg 0 ns.length).erase (k:Int)) (XS _ _) fun a ha=>by
   have hm:=(XT ns a).mp ha
   have hne:a≠(k:Int):=fun e=>hn (e▸hm)
   exact (List.mem_erase_of_ne hne).mpr (WW.mpr (hr a hm))
  rw[List.length_erase_of_mem (WW.mpr ⟨by omega,by omega⟩),YU,hl] at h1
  omega
 ·intro h
  have hsub:∀a∈Yg 0 ns.length,a∈ns:=fun a ha=>by
   obtain⟨h0,h1⟩:=WW.mp ha
   obtain⟨j,rfl⟩:=Int.eq_ofNat_of_zero_le h0
   exact h j (by omega)
  refine⟨fun z hz=>?_,?_⟩
  ·apply Classical.byContradiction
   intro hn
   have h1:=Yk (Yg 0 ns.length) (ns.erase z) (JV _) fun a ha=>by
    have hne:a≠z:=fun e=>hn (e▸WW.mp ha)
    exact (List.mem_erase_of_ne hne).mpr (hsub a ha)
   have hp:0<ns.length:=List.length_pos_of_mem hz
   rw[List.length_erase_of_mem hz,YU] at h1
   omega
  ·have h1:=Yk (Yg 0 ns.length) (Y9 ns ns.length) (JV _) fun a ha=>(XT ns a).mpr (hsub a ha)
   have h2:=firstMet_length_le (fun i=>ns.getD i 0) ns.length
   rw[YU] at h1
   have h3:(Y9 ns ns.length).length<=ns.length:=h2
   omega
section
variable {X:Cx}
end
theorem gT {te:TE}{N:St->Hp->Prop}{Kt:St->V->Hp->Prop}{x:V}{v0:Option V}{cs:St}{H:Hp}(h:te (some x::cs) H (Kt (some x::cs))):Yf 0 x (v0::cs) H fun σ3 H3=>Js σ3 H3 fun b H4=>if b=true then te σ3 H4 (Kt σ3) else N σ3 H4:=by
 show if true=true then te (some x::cs) H (Kt (some x::cs)) else N (some x::cs) H
 rw[if_pos rfl];exact h
theorem Uk {J:It}{own:List Str}{caps:List Nat}{te:TE}{σ:St}{H:Hp}{Q:VK}{xs:List V}(G:Addr->Nat->List V->Hp->Prop)(cs:St)(hcs:XB own caps σ=none::cs)(hz:xs.length<=1000000)
  (S:∀D i ys H',H D=none->H' D=some (.lst ys)->G D i ys H'->(i<xs.length->J.go i H'/\∀x H2,J.yld i H' x H2->H2=H'/\xs[i]?=some x)/\(i=xs.length->J.stop i H'))
  (h0:∀D,H D=none->G D 0 [] (upd H D (.lst [])))
  (hs:∀D (i:Nat) x ys H',H D=none->H' D=some (.lst ys)->xs[i]?=some x->G D i ys H'->∀R:VK,(∀v H5,H5 D=some (.lst ys)->G D (i+1) (ys++[v]) (upd H5 D (.lst (ys++[v])))->R v H5)->te (some x::cs) H' R)
  (hd:∀D ys H',H D=none->H' D=some (.lst ys)->ys.length=xs.length->G D xs.length ys H'->Q (.ref D) H'):Xt own caps (Yf 0) Js te σ Q J H:=by
 intro D hD
 refine⟨fun i m σ' H'=>m=xs.length-i/\i<=xs.length/\(∃v0,σ'=v0::cs)/\∃ys,H' D=some (.lst ys)/\ys.length=i/\G D i ys H',⟨_,rfl,Nat.zero_le _,⟨none,hcs⟩,[],Zs,rfl,h0 D hD⟩,?_⟩
 rintro i m σ' H' ⟨rfl,hi,⟨v0,rfl⟩,ys,hl,hy,g⟩
 obtain⟨S1,S2⟩:=S D i ys H' hD hl g
 by_cases hlt:i<xs.length
 ·refine .inr ⟨(S1 hlt).1,_,fun σ2 H2 z=>z,fun x H2 y=>?_⟩
  obtain⟨rfl,hx⟩:=(S1 hlt).2 x H2 y
  refine gT ?_
  refine hs D i x ys H2 hD hl hx g _ fun v H5 h5 g5=>⟨ys,h5,?_,xs.length-(i+1),by omega,rfl,hlt,⟨_,rfl⟩,ys++[v],Zs,by rw[Zd];simp[hy],g5⟩
  have:(16777216:Nat)=sizeLine:=by decide
  omega
 ·have e:i=xs.length:=by omega
  exact .inl ⟨S2 e,hd D ys H' hD hl (by omega) (e▸g)⟩
end L2
namespace PyX
open PySem
def Jo (h:Heap)(C N:Addr)(bm:List Value)(nid:String):Prop:=
 ∃nm q bs hd sn sb ab cl dd k0 k1 k2 k3 k5,
  h.get? C=some (excClassObj nm q C N bs bm hd sn sb ab cl dd k0 k1 k2 k3 k5 nid)
theorem Jo.keeps {h h':Heap}{C N:Addr}{bm:List Value}{nid:String}(x:Jo h C N bm nid)
  (k:∀b o,h.get? b=some o->h'.get? b=some o):Jo h' C N bm nid:=by
 obtain⟨nm,q,bs,hd,sn,sb,ab,cl,dd,k0,k1,k2,k3,k5,e⟩:=x
 exact⟨nm,q,bs,hd,sn,sb,ab,cl,dd,k0,k1,k2,k3,k5,k _ _ e⟩
abbrev Xl (xs:List Value):Obj:={cls:=.type "tuple",data:=.seq xs.toArray}
abbrev Xk (C a:Addr):Obj:=
 {cls:=.ref C,data:=.fields #[.ref a,.none,.none,.none,.bool false,.none]}
section
variable {prog:Program}{w:World}{A:Around}{E:Value->Shared->Prop}
variable {h:Heap}{gs:Array GenState}{dr:Drawn}{tk:Nat}{os:OsState}
variable {C N fI:Addr}{oI:Obj}{bm bB:List Value}{B nid iid:String}{mN:Str->Option Value}{xs:List Value}
theorem JN {Q:Fin->Shared->Prop}(F:ExcBaseFacts B nid iid bB)(T:OwnTail h bB bm)
    (x:Jo h C N bm nid) (ns:h.Ns N mN) (hi:mN "__init__"=some (.ref fI))
    (hf:h.get? fI=some oI) (hc:oI.cls=.type "function")
    (hq:∀h' e,Heap.MadeExcOf h h' e (.ref C) xs->h.objs.size<=e->
      wpAny (model prog w) A (call (.ref fI) (.ref e::xs))
        (fun r s'=>r=.none/\Q (.done (.ret (.ref e))) s') E ⟨h',gs,dr,tk,os⟩)
    (hl:xs.length<=sizeLine) :
    wpAny (model prog w) A (Builtin.«type.__call__» ⟨.ref C::xs,[]⟩) Q E ⟨h,gs,dr,tk,os⟩:=by
  obtain⟨nm,q,bs,hd,sn,sb,ab,cl,dd,k0,k1,k2,k3,k5,hC⟩:=x
  repeat (first
    |with_reducible refine wpAny_loadPart_at hC ?_
    |with_reducible refine wpAny_madeBy_exc hC ?_
    |wp_step)
  refine codeAny_call_builtin_code (Code.quiet_builtin _ F.quiet)
    (wpAny_check_new_subT F T hC (codeAny_exc_new_subT F T hC ?_ hl))
  show wpAny _ _ _ _ _ _
  have kp:∀b o,h.get? b=some o->((h.push (Xl xs)).push (Xk C h.objs.size)).get? b=some o:=
    fun b o e=>Zn _ (Zn _ e)
  have hC1:=kp _ _ hC
  have hf1:=kp _ _ hf
  have ns1:=ns.keeps kp
  have T1:=T.keeps kp
  have he:((h.push (Xl xs)).push (Xk C h.objs.size)).get? (h.objs.size+1)=some (Xk C h.objs.size):=by
    heap_get
  have hself:(Value.ref C::bm).contains (.ref C)=true:=by
    simp
  unfold isInstance
  repeat (first
    |with_reducible refine wpAny_loadPart_at he ?_
    | (with_reducible refine wpAny_isSubtype_exc hC1 ?_
       rw[hself])
    |wp_step)
  show wpAny _ _ (typeLookup (.ref C) _) _ _ _
  refine wpAny_typeLookup_tail hC1 ns1 T1 F.mroIs F.init.lookup ?_
  rw[hi]
  refine wpAny_holding (Zl ?_)
  unfold bindSpecial
  refine Zl (wpAny_typeOf (T:="function") ⟨_,hf1,hc⟩ ?_)
  rw[if_pos (by decide)]
  have mk:Heap.MadeExcOf h ((h.push (Xl xs)).push (Xk C h.objs.size)) (h.objs.size+1) (.ref C) xs:=
    ⟨kp,Heap.get?_none_of_le (Nat.le_succ _),h.objs.size,he,Heap.get?_none_of_le (Zq _),
      Zn _ (Heap.get?_push_at rfl rfl)⟩
  refine Zm (Zl (wpAny_mono (hq _ _ mk (Nat.le_succ _)) (fun r s' hr=>?_) fun _ _ z=>z))
  obtain⟨rfl,hQ⟩:=hr
  wp_walk
  exact hQ
theorem Zaj {Q:Value->Shared->Prop}(F:ExcBaseFacts B nid iid bB)(T:OwnTail h bB bm)
  (x:Jo h C N bm nid) (ns:h.Ns N mN) (hi:mN "__init__"=some (.ref fI))
  (hf:h.get? fI=some oI) (hc:oI.cls=.type "function")
  (hq:∀h' e,Heap.MadeExcOf h h' e (.ref C) xs->h.objs.size<=e->
   wpAny (model prog w) (A.under (.builtin "type.__call__" ⟨.ref C::xs,[]⟩)) (call (.ref fI) (.ref e::xs))
    (fun r s'=>r=.none/\Q (.ref e) s') E ⟨h',gs,dr,tk,os⟩)
  (hl:xs.length<=sizeLine) :
  wpAny (model prog w) A (call (.ref C) xs) Q E ⟨h,gs,dr,tk,os⟩:=by
 obtain⟨nm,q,bs,hd,sn,sb,ab,cl,dd,k0,k1,k2,k3,k5,hC⟩:=x
 have f1:=tc_lookup
 have f2:=tc_bind (.ref C)
 have hT:(⟨h,gs,dr,tk,os⟩:Shared).TypeIs (.ref C) "type":=⟨_,hC,rfl⟩
 refine wpAny_call (codeAny_of_tree ?_)
 show wpAny _ _ (callAny (.ref C) _) _ _ _
 repeat (any_goals (first
  |assumption
  |with_reducible refine wpAny_loadPart_at hC ?_
  |wp_step))
 refine⟨rfl,?_⟩
 refine codeAny_call_builtin_at (Code.quiet_builtin _ (by decide +kernel)) entry_typeCall
  (wpAny_check_type_call_sub hC (JN F T ⟨nm,q,bs,hd,sn,sb,ab,cl,dd,k0,k1,k2,k3,k5,hC⟩
   ns hi hf hc (fun h' e hm hz=>?_) hl))
 exact hq h' e hm hz
theorem JB {Q:Fin->Shared->Prop}(F:ExcBaseFacts B nid iid bB)(T:OwnTail h bB bm)
    (x:Jo h C N bm nid) (ns:h.Ns N mN) (hi:mN "__init__"=none)
    (hq:∀h' e,Heap.MadeExcOf h h' e (.ref C) xs->h.objs.size<=e->Q (.done (.ret (.ref e))) ⟨h',gs,dr,tk,os⟩)
    (hl:xs.length<=sizeLine) :
    wpAny (model prog w) A (Builtin.«type.__call__» ⟨.ref C::xs,[]⟩) Q E ⟨h,gs,dr,tk,os⟩:=by
  obtain⟨nm,q,bs,hd,sn,sb,ab,cl,dd,k0,k1,k2,k3,k5,hC⟩:=x
  repeat (first
    |with_reducible refine wpAny_loadPart_at hC ?_
    |with_reducible refine wpAny_madeBy_exc hC ?_
    |wp_step)
  refine codeAny_call_builtin_code (Code.quiet_builtin _ F.quiet)
    (wpAny_check_new_subT F T hC (codeAny_exc_new_subT F T hC ?_ hl))
  show wpAny _ _ _ _ _ _
  have kp:∀b o,h.get? b=some o->((h.push (Xl xs)).push (Xk C h.objs.size)).get? b=some o:=
    fun b o e=>Zn _ (Zn _ e)
  have hC1:=kp _ _ hC
  have ns1:=ns.keeps kp
  have T1:=T.keeps kp
  have he:((h.push (Xl xs)).push (Xk C h.objs.size)).get? (h.objs.size+1)=some (Xk C h.objs.size):=by
    heap_get
  have hself:(Value.ref C::bm).contains (.ref C)=true:=by
    simp
  unfold isInstance
  repeat (first
    |with_reducible refine wpAny_loadPart_at he ?_
    | (with_reducible refine wpAny_isSubtype_exc hC1 ?_
       rw[hself])
    |wp_step)
  show wpAny _ _ (typeLookup (.ref C) _) _ _ _
  refine wpAny_typeLookup_tail hC1 ns1 T1 F.mroIs F.init.lookup ?_
  rw[hi]
  refine wpAny_holding (Zl (wpAny_of_eq (F.init.bind _) ?_))
  refine Zl (wpAny_call (codeAny_call_builtin F.init.plain F.initEntry (wpAny_check_init_subT F T1 hC1 he rfl ?_)))
  wp_walk
  refine hq _ _ ⟨fun b o hb=>?_,Heap.get?_none_of_le (Nat.le_succ _),h.objs.size+2,?_,Heap.get?_none_of_le (by omega),?_⟩ (Nat.le_succ _)
  · rw[Heap.get?_update_other _ _ (Nat.ne_of_gt (Nat.lt_succ_of_lt (Zp hb)))]
    exact Zn _ (kp b o hb)
  · rw[Heap.get?_update_self _ (Zn _ he) rfl]
    simp only[Heap.size_push]
    rfl
  · rw[Heap.get?_update_other _ _ (show h.objs.size+1≠h.objs.size+2 by
      omega)]
    exact Heap.get?_push_at (by
      simp only[Heap.size_push]) rfl
theorem Uq {Q:Value->Shared->Prop}(F:ExcBaseFacts B nid iid bB)(T:OwnTail h bB bm)
  (x:Jo h C N bm nid) (ns:h.Ns N mN) (hi:mN "__init__"=none)
  (hq:∀h' e,Heap.MadeExcOf h h' e (.ref C) xs->h.objs.size<=e->Q (.ref e) ⟨h',gs,dr,tk,os⟩)
  (hl:xs.length<=sizeLine) :
  wpAny (model prog w) A (call (.ref C) xs) Q E ⟨h,gs,dr,tk,os⟩:=by
 obtain⟨nm,q,bs,hd,sn,sb,ab,cl,dd,k0,k1,k2,k3,k5,hC⟩:=x
 have f1:=tc_lookup
 have f2:=tc_bind (.ref C)
 have hT:(⟨h,gs,dr,tk,os⟩:Shared).TypeIs (.ref C) "type":=⟨_,hC,rfl⟩
 refine wpAny_call (codeAny_of_tree ?_)
 show wpAny _ _ (callAny (.ref C) _) _ _ _
 repeat (any_goals (first
  |assumption
  |with_reducible refine wpAny_loadPart_at hC ?_
  |wp_step))
 refine⟨rfl,?_⟩
 refine codeAny_call_builtin_at (Code.quiet_builtin _ (by decide +kernel)) entry_typeCall
  (wpAny_check_type_call_sub hC (JB F T ⟨nm,q,bs,hd,sn,sb,ab,cl,dd,k0,k1,k2,k3,k5,hC⟩
   ns hi (fun h' e hm hz=>?_) hl))
 exact hq h' e hm hz
theorem VX {e D:Addr}{oe:Obj}{b:Bool}{Q:Bool->Shared->Prop}{ND:Addr}{bD:List Value}{M:Model}
    (x:Jo h C N bm nid) (y:Jo h D ND bD nid) (he:h.get? e=some oe) (hcl:oe.cls=.ref C)
    (hbD:bD.contains (.type "BaseException")=true) (hb:(Value.ref C::bm).contains (.ref D)=b)
    (hq:Q b ⟨h,gs,dr,tk,os⟩) :
    wpAny M A (excMatches (.ref e) (.ref D)) Q E ⟨h,gs,dr,tk,os⟩:=by
  obtain⟨nm,q,bs,hd,sn,sb,ab,cl,dd,k0,k1,k2,k3,k5,hC⟩:=x
  obtain⟨nm1,q1,bs1,hd1,sn1,sb1,ab1,cl1,dd1,j0,j1,j2,j3,j5,hD⟩:=y
  have hDB:(Value.ref D::bD).contains (.type "BaseException")=true:=by
    rw[List.contains_cons,hbD,Bool.or_true]
  have f:=tc_notTuple
  unfold excMatches
  repeat (first
    | (with_reducible refine wpAny_loadPart_at he ?_
       rw[hcl])
    |with_reducible refine wpAny_loadPart_at hD ?_
    | (with_reducible refine wpAny_isSubtype_exc hD ?_
       rw[hDB])
    | (with_reducible refine wpAny_isSubtype_exc hC ?_
       rw[hb])
    |wp_step)
  cases b <;> (first|exact hq|(wp_walk;exact hq))
end
end PyX
namespace PyX
open PySem
open PySem.Builtin PySem.Builtin.ObjectAttr
abbrev VE:List Value:=[.type "ValueError",.type "Exception",.type "BaseException",.type "object"]
abbrev YE:String:="ValueError.__new__"
def Uw (h:Heap)(C N:Addr)(bm:List Value)(nid:String):Prop:=
 ∃nm q bs sn sb ab cl dd k0 k1 k2 k3 k5,
  h.get? C=some (excClassObj nm q C N bs bm true sn sb ab cl dd k0 k1 k2 k3 k5 nid)
theorem Uw.ex {h:Heap}{C N:Addr}{bm:List Value}{nid:String}(x:Uw h C N bm nid):Jo h C N bm nid:=by
 obtain⟨nm,q,bs,sn,sb,ab,cl,dd,k0,k1,k2,k3,k5,e⟩:=x
 exact⟨nm,q,bs,true,sn,sb,ab,cl,dd,k0,k1,k2,k3,k5,e⟩
theorem Uw.keeps {h h':Heap}{C N:Addr}{bm:List Value}{nid:String}(x:Uw h C N bm nid)
  (k:∀b o,h.get? b=some o->h'.get? b=some o):Uw h' C N bm nid:=by
 obtain⟨nm,q,bs,sn,sb,ab,cl,dd,k0,k1,k2,k3,k5,e⟩:=x
 exact⟨nm,q,bs,sn,sb,ab,cl,dd,k0,k1,k2,k3,k5,k _ _ e⟩
structure WF (h:Heap)(C N T U:Addr)(nid:String)(mN mT:Str->Option Value):Prop where
 c:Uw h C N (.ref T::VE) nid
 t:Uw h T U VE nid
 nsC:h.Ns N mN
 nsT:h.Ns U mT
 ini:mT "__init__"=none
section
variable {h h':Heap}{C N T U:Addr}{nid:String}{mN mT:Str->Option Value}
theorem WF.keeps (x:WF h C N T U nid mN mT)(k:∀b o,h.get? b=some o->h'.get? b=some o):WF h' C N T U nid mN mT:=
 ⟨x.c.keeps k,x.t.keeps k,x.nsC.keeps k,x.nsT.keeps k,x.ini⟩
theorem WF.tail (x:WF h C N T U nid mN mT):OwnTail h VE (.ref T::VE):=by
 obtain⟨nm,q,bs,sn,sb,ab,cl,dd,k0,k1,k2,k3,k5,e⟩:=x.t
 exact .own e x.nsT x.ini .base
variable {M:Model}{A:Around}{E:Value->Shared->Prop}{gs:Array GenState}{dr:Drawn}{tk:Nat}{os:OsState}
theorem WF.look (x:WF h C N T U nid mN mT){name:Str}{y:Option Value}{Q:Option Value->Shared->Prop}
  (hB:typeLookup (.type "ValueError") name=pure y)
  (hq:Q (match mN name with|some v=>some v|none=>(match mT name with|some v=>some v|none=>y)) ⟨h,gs,dr,tk,os⟩) :
  wpAny M A (typeLookup (.ref C) name) Q E ⟨h,gs,dr,tk,os⟩:=by
 obtain⟨nm,q,bs,sn,sb,ab,cl,dd,k0,k1,k2,k3,k5,eC⟩:=x.c
 obtain⟨nm',q',bs',sn',sb',ab',cl',dd',j0,j1,j2,j3,j5,eT⟩:=x.t
 have r:lookupAlong VE name=pure y:=by
  rw[typeLookup_eq,F.excBase_ValueError.mroIs] at hB
  exact hB
 rw[typeLookup_eq]
 refine Zl (wpAny_mroOf_exc eC ?_)
 rw[lookupAlong_cons]
 refine Zl (wpAny_classOwn_exc eC x.nsC ?_)
 cases hv:mN name with
 |some v=>
  rw[hv] at hq
  exact Zm hq
 |none=>
  rw[hv] at hq
  simp only[]
  rw[lookupAlong_cons]
  refine Zl (wpAny_classOwn_exc eT x.nsT ?_)
  cases hv':mT name with
  |some v=>
   rw[hv'] at hq
   exact Zm hq
  |none=>
   rw[hv'] at hq
   simp only[]
   rw[r]
   exact Zm hq
theorem WF.lookB (x:WF h C N T U nid mN mT){name:Str}{y:Option Value}{Q:Option Value->Shared->Prop}
  (hB:typeLookup (.type "ValueError") name=pure y) (h1:mN name=none) (h2:mT name=none)
  (hq:Q y ⟨h,gs,dr,tk,os⟩):wpAny M A (typeLookup (.ref C) name) Q E ⟨h,gs,dr,tk,os⟩:=
 x.look hB (by
  rw[h1]
  simp only[]
  rw[h2]
  exact hq)
end
section
variable {prog:Program}{w:World}{h:Heap}{C N T U x:Addr}{nid:String}{mN mT mA:Str->Option Value}
variable {A:Around}{E:Value->Shared->Prop}{gs:Array GenState}{dr:Drawn}{tk:Nat}{os:OsState}
variable {name:Str}{v:Value}
abbrev SF:=F.store_ValueError
theorem Zeh {M:Model}{o:Obj}{nv:Value}{Q:Unit->Shared->Prop}(c:WF h C N T U nid mN mT)
    (hx:h.get? x=some o) (hc:o.cls=.ref C) (hq:Q () ⟨h,gs,dr,tk,os⟩) :
    wpAny M A (checkBuiltinCall "object.__setattr__" ⟨[.ref x,nv,v],[]⟩) Q E ⟨h,gs,dr,tk,os⟩:=by
  obtain⟨nm,q,bs,sn,sb,ab,cl,dd,k0,k1,k2,k3,k5,hC⟩:=c.c
  have hO:(Value.ref C::Value.ref T::VE).contains (.type "object")=true:=by
    rw[List.contains_cons,List.contains_cons,SF.hasOwner,Bool.or_true,Bool.or_true]
  have ha:=SF.args (.ref x) nv v
  simp only[checkBuiltinCall,SF.kind,SF.split]
  refine Zl ?_
  unfold isInstance
  repeat (first
    | (with_reducible refine wpAny_loadPart_at hx ?_
       rw[hc])
    | (with_reducible refine wpAny_isSubtype_exc hC ?_
       rw[hO])
    |wp_step)
  exact hq
def JA (h h':Heap)(x:Addr):Prop:=
 (∀b o,b≠x->(∀o0 dx,h.get? x=some o0->o0.dict=some dx->b≠dx)->h.get? b=some o->h'.get? b=some o)/\
 (∀o0,h.get? x=some o0->∃o1,h'.get? x=some o1/\o1.cls=o0.cls/\o1.data=o0.data/\o1.slots=o0.slots/\∀dx,o0.dict=some dx->o1.dict=some dx)/\
 (∀o0,h.get? x=some o0->o0.dict=none->∃o1,h'.get? x=some o1/\o1.dict=some h.objs.size)
theorem UI {kt:Tok}{Q:Fin->Shared->Prop}{ns:List Str}(c:WF h C N T U nid mN mT)
    (h1:mN name=none) (h2:mT name=none) (hB:typeLookup (.type "ValueError") name=pure none) (I:h.Inst x C mA)
    (hw:Within mA ns) (hsz:ns.length<sizeLine)
    (hq:∀h' t',h'.Inst x C (fun y=>if y=name then some v else mA y)->JA h h' x->Q (.done (.ret .none)) ⟨h',gs,dr,t',os⟩) :
    wpAny (model prog w) A (Builtin.«object.__setattr__» ⟨[.ref x,.str name kt,v],[]⟩) Q E ⟨h,gs,dr,tk,os⟩:=by
  obtain⟨nm,q,bs,sn,sb,ab,cl,dd,k0,k1,k2,k3,k5,hC⟩:=id c.c
  obtain⟨o,hx,hc,hnc,hd⟩:=I
  have hp:=SF.passes (.ref x)
  unfold Builtin.«object.__setattr__»
  repeat (first
    |rw[refuse_eq]
    |rw[refuseLoop_ref,refuseLoop_ref,hp]
    | (with_reducible refine wpAny_loadPart_at hx ?_
       rw[hc])
    |with_reducible refine wpAny_mroOf_exc hC ?_
    |with_reducible refine c.lookB hB h1 h2 ?_
    |wp_step)
  rcases hd with ⟨hdn,hmA⟩|⟨dx,hdx,hne,hns⟩
  · rw[hdn,if_neg (by simp[typeHasDict])]
    split
    · rename_i z
      cases z
    split
    · rename_i cc z
      exact absurd z (hnc cc)
    have hxs:x≠h.objs.size:=Nat.ne_of_lt (Zp hx)
    have hx1:(h.push {cls:=.type "dict",data:=.dict #[]}).get? x=some o:=Zn _ hx
    refine Zl (wpAny_alloc' (Zl (wpAny_update' hx1 (Zm ?_))))
    show wpAny _ _ (storeInDict h.objs.size (.str name kt) name v) _ _ _
    have hgd:((h.push {cls:=.type "dict",data:=.dict #[]}).update x fun o=>{cls:=o.cls,dict:=some h.objs.size,data:=o.data,slots:=o.slots}).get? h.objs.size
       =some {cls:=.type "dict",data:=.dict #[]}:=
      (Heap.get?_update_ne _ _ _ _ hxs.symm).trans (Heap.get?_push_at rfl rfl)
    unfold storeInDict newKeyGuard
    refine Zl (Zm (Zl (wpAny_nsSet1 (Heap.Ns1.of_empty
      ⟨_,#[],_,hgd,rfl,fun e he=>absurd he (by simp),fun _=>rfl⟩) fun h' hn' hs=>?_)))
    obtain⟨oD,es,ep,hoD,hdD,hcD⟩:=hn'.count (Within.cons name v Within.nil)
    refine Zl (wpAny_lookBehind hoD (by
      rw[hdD]
      exact pastItsLine_dict (Nat.le_trans hcD (by
        rw[Zi,List.length_nil,sizeLine_eq]
        omega))) ?_)
    wp_walk
    have hx':h'.get? x=some {cls:=o.cls,dict:=some h.objs.size,data:=o.data,slots:=o.slots}:=by
      refine (hs.2 x hxs).trans (Heap.get?_update_self _ hx1 ?_)
      have hfr:=(Heap.get?_some_iff.mp hx).2
      obtain⟨oc,od,odt,osl⟩:=o
      cases odt <;> first|rfl|exact hfr
    refine hq h' _ ⟨_,hx',hc,hnc,.inr ⟨h.objs.size,rfl,hxs.symm,?_⟩⟩ ⟨fun b ob hbx _ hb=>?_,fun o0 e0=>?_,fun o0 e0 _=>⟨_,hx',rfl⟩⟩
    · obtain⟨o',es',ep',e1,e2,e3,eu,e4⟩:=hn'
      refine⟨o',es',ep',e1,e2,e3,eu,fun y=>?_⟩
      rw[e4 y]
      by_cases hy:y=name <;> simp[hy,hmA]
    · exact (hs.2 b (Nat.ne_of_lt (Zp hb))).trans ((Heap.get?_update_ne _ _ _ _ hbx).trans (Zn _ hb))
    · obtain rfl:o=o0:=Option.some.inj (hx.symm.trans e0)
      exact⟨_,hx',rfl,rfl,rfl,fun dx e=>by
        rw[hdn] at e
        cases e⟩
  · rw[hdx]
    refine Zm ?_
    show wpAny _ _ (storeInDict dx (.str name kt) name v) _ _ _
    unfold storeInDict newKeyGuard
    refine Zl (Zm (Zl (wpAny_nsSet1 hns fun h' hn' hs=>?_)))
    obtain⟨oD,es,ep,hoD,hdD,hcD⟩:=hn'.count (Within.cons name v hw)
    refine Zl (wpAny_lookBehind hoD (by
      rw[hdD]
      exact pastItsLine_dict (Nat.le_trans hcD (by
        rw[Zi]
        omega))) ?_)
    wp_walk
    refine hq h' _ ⟨o,(hs.2 x hne.symm).trans hx,hc,hnc,.inr ⟨dx,hdx,hne,hn'⟩⟩ ⟨fun b ob _ hbd hb=>?_,fun o0 e0=>?_,fun o0 e0 n0=>?_⟩
    · exact (hs.2 b (hbd o dx hx hdx)).trans hb
    · exact⟨o0,(hs.2 x hne.symm).trans e0,rfl,rfl,rfl,fun _ e=>e⟩
    · obtain rfl:o=o0:=Option.some.inj (hx.symm.trans e0)
      rw[hdx] at n0
      cases n0
theorem Za8 {Q:Unit->Shared->Prop}{ns:List Str}(c:WF h C N T U nid mN mT)
    (h1:mN name=none) (h2:mT name=none) (hB:typeLookup (.type "ValueError") name=pure none)
    (h3:mN "__setattr__"=none) (h4:mT "__setattr__"=none) (I:h.Inst x C mA)
    (hw:Within mA ns) (hsz:ns.length<sizeLine)
    (hq:∀h' t',h'.Inst x C (fun y=>if y=name then some v else mA y)->JA h h' x->Q () ⟨h',gs,dr,t',os⟩) :
    wpAny (model prog w) A (setAttr (.ref x) name v) Q E ⟨h,gs,dr,tk,os⟩:=by
  obtain⟨o,hx,hc,_⟩:=id I
  have f3:=SF.slot.bind (.ref x)
  unfold setAttr callSpecial? specialOf
  repeat (any_goals (first
    |assumption
    | (with_reducible refine wpAny_loadPart_at hx ?_
       rw[hc])
    |with_reducible refine c.lookB SF.slot.lookup h3 h4 ?_
    |wp_step))
  refine codeAny_call_builtin SF.slot.plain SF.entry (Zeh c hx hc (UI c h1 h2 hB I hw hsz fun h' t' I' k=>?_))
  repeat (any_goals (first
    |assumption
    |wp_step))
  exact hq h' t' I' k
theorem Zbs {kt:Tok}{Q:Fin->Shared->Prop}(c:WF h C N T U nid mN mT)
    (h1:mN name=none) (h2:mT name=none) (hB:typeLookup (.type "ValueError") name=pure none) (I:h.Inst x C mA)
    (hv:mA name=some v) (hq:Q (.done (.ret v)) ⟨h,gs,dr,tk,os⟩) :
    wpAny (model prog w) A (Builtin.«object.__getattribute__» ⟨[.ref x,.str name kt],[]⟩) Q E ⟨h,gs,dr,tk,os⟩:=by
  obtain⟨nm,q,bs,sn,sb,ab,cl,dd,k0,k1,k2,k3,k5,hC⟩:=id c.c
  obtain⟨o,hx,hc,hnc,hd⟩:=I
  rcases hd with ⟨_,hmA⟩|⟨dx,hdx,hne,hns⟩
  · rw[hmA name] at hv
    cases hv
  repeat (first
    | (with_reducible refine wpAny_loadPart_at hx ?_
       rw[hc])
    |with_reducible refine c.lookB hB h1 h2 ?_
    |wp_step)
  split
  · rename_i cc z
    exact absurd z (hnc cc)
  unfold instanceDict
  repeat (first
    | (with_reducible refine wpAny_loadPart_at hx ?_
       rw[hc])
    |with_reducible refine wpAny_loadPart_at hC ?_
    |wp_step)
  rw[hdx]
  repeat (first
    | (with_reducible refine wpAny_nsGet hns.ns ?_
       rw[hv])
    |wp_step)
  exact hq
theorem Za0 {M:Model}{o:Obj}{nv:Value}{Q:Unit->Shared->Prop}(c:WF h C N T U nid mN mT)
    (hx:h.get? x=some o) (hc:o.cls=.ref C) (hq:Q () ⟨h,gs,dr,tk,os⟩) :
    wpAny M A (checkBuiltinCall "BaseException.__getattribute__" ⟨[.ref x,nv],[]⟩) Q E ⟨h,gs,dr,tk,os⟩:=by
  obtain⟨nm,q,bs,sn,sb,ab,cl,dd,k0,k1,k2,k3,k5,hC⟩:=c.c
  have hk:builtinKind "BaseException.__getattribute__"=some .slot:=by
    decide +kernel
  have hs:splitId "BaseException.__getattribute__"=some ("BaseException", "__getattribute__"):=by
    decide +kernel
  have hO:(Value.ref C::Value.ref T::VE).contains (.type "BaseException")=true:=by
    rw[List.contains_cons,List.contains_cons,F.excBase_ValueError.hasBase,Bool.or_true,Bool.or_true]
  have ha:=F.args_bexc_ga (.ref x) nv
  simp only[checkBuiltinCall,hk,hs]
  refine Zl ?_
  unfold isInstance
  repeat (first
    | (with_reducible refine wpAny_loadPart_at hx ?_
       rw[hc])
    | (with_reducible refine wpAny_isSubtype_exc hC ?_
       rw[hO])
    |wp_step)
  exact hq
theorem ZcS {expr:Bool}{Q:Value->Shared->Prop}(c:WF h C N T U nid mN mT)
    (h1:mN name=none) (h2:mT name=none) (hB:typeLookup (.type "ValueError") name=pure none)
    (h3:mN "__getattribute__"=none) (h4:mT "__getattribute__"=none) (h5:mN "__getattr__"=none) (h6:mT "__getattr__"=none)
    (I:h.Inst x C mA) (hv:mA name=some v) (hh:handedOut v=pure v) (hq:Q v ⟨h,gs,dr,tk+1,os⟩) :
    wpAny (model prog w) A (getAttr (.ref x) name expr) Q E ⟨h,gs,dr,tk,os⟩:=by
  obtain⟨o,hx,hc,_⟩:=id I
  have f3:=F.attr_ValueError.ga.bind (.ref x)
  have e0:(expr && onTheHeap (Value.builtin "BaseException.__getattribute__"))=false:=by
    cases expr <;> rfl
  have e2:(Value.builtin "BaseException.__getattribute__" == Value.builtin "object.__getattribute__")=false:=by
    decide +kernel
  have e1:(onTheHeap (Value.ref C) && Value.builtin "BaseException.__getattribute__" == Value.builtin "object.__getattribute__")=false:=by
    rw[e2]
    rfl
  unfold getAttr getAttrBy
  repeat (any_goals (first
    |assumption
    | (with_reducible refine wpAny_loadPart_at hx ?_
       rw[hc])
    |with_reducible refine c.lookB F.attr_ValueError.ga.lookup h3 h4 ?_
    |with_reducible refine c.lookB F.attrBase_ValueError.noGetattr h5 h6 ?_
    |wp_step))
  refine codeAny_call_builtin F.attr_ValueError.ga.plain F.entry_bexc_ga (Za0 c hx hc (Zbs c h1 h2 hB I hv ?_))
  repeat (any_goals (first
    |assumption
    |wp_step))
end
end PyX
namespace PyX
open PySem
abbrev Uz (l:List Env):List Addr:=l.filterMap (·.frame)
def Ex (h:Heap)(e C:Addr)(d:Option Addr)(T:Addr)(fl:Value):Prop:=
 ∃vs oT ts,h.get? e=some {cls:=.ref C,dict:=d,data:=.fields vs}/\vs[1]?=some (.ref T)/\
  T≠e/\h.get? T=some oT/\oT.data=.fields ts/\ts[3]?=some fl
def Ex0 (h:Heap)(e C:Addr)(d:Option Addr):Prop:=
 ∃vs,h.get? e=some {cls:=.ref C,dict:=d,data:=.fields vs}/\vs[1]?=some .none
def But (l:List Env)(xs:List Addr)(h h':Heap):Prop:=
 (∀b o,h.get? b=some o->b∉Uz l->b∉xs->h'.get? b=some o)/\
 (∀b o,h.get? b=some o->b∉xs->∃sl,h'.get? b=some {o with slots:=sl})
section
variable {M:Model}{A:Around}{E:Value->Shared->Prop}{s:Shared}
variable {base:Heap}{env:Env}{outer:List Env}{L e C T:Addr}{d:Option Addr}{fl:Value}{vs:Array Value}
theorem newEntry {head:Value}{nx:Bool}{Q:Unit->Shared->Prop}
  (fr:A.frames=some (env::outer)) (hl:s.heap.FunFrames base (env::outer)) (hf:env.frame=some L)
  (he:s.heap.get? e=some {cls:=.ref C,dict:=d,data:=.fields vs}) (sz:1<vs.size)
  (hq:∀h' T,s.heap.objs.size<=T->Ex h' e C d T (rawInt L)->But (env::outer) [e] s.heap h'->Q () {s with heap:=h'}) :
  wpAny M A (do let a <-frameOf env;let pl <-entryPlaceOf L nx;let b <-EntryCells.newEntry head a .none (rawInt L) .none pl;setField (.ref e) 1 b)
   Q E s:=by
 have hne:e∉(env::outer).filterMap (·.frame):=fun hm=>by
  obtain⟨_,o,ho,hnf⟩:=hl.mem hm
  rw[he] at ho
  injection ho with ho
  subst ho
  exact hnf vs rfl
 refine Zl (wpAny_frameOf_fun fr hl hf fun h1 k1=>?_)
 refine Zl (wpAny_entryPlaceOf fun pl hpl=>?_)
 unfold EntryCells.newEntry newFields
 refine Zl (wpAny_newObj_type ?_ (hpl.sizeOk5 _ _ _ _ _))
 have e1:h1.get? e=some {cls:=.ref C,dict:=d,data:=.fields vs}:=(k1.2.1 e hne).trans he
 generalize hO:({cls:=.type "traceback",dict:=none,data:=.fields ([head,.ref L,.none,rawInt L,.none]++(if pl.isEmpty then List.replicate 6 Value.none else pl)).toArray}:Obj)=oT
 have e2:=Zn (h:=h1) oT e1
 have hfr:oT.isFreed=false:=by
  rw[<-hO]
  rfl
 refine wpAny_setField e2 rfl sz (hq _ h1.objs.size ?_ ?_ ?_)
 ·rw[k1.1]
  exact Zq _
 ·have hTe:h1.objs.size≠e:=Nat.ne_of_gt (Zp e1)
  have e3:=Heap.get?_update_self (Obj.mapFields (·.setIfInBounds 1 (Value.ref h1.objs.size))) e2 rfl
  have t3:=(Heap.get?_update_other (h1.push oT) (Obj.mapFields (·.setIfInBounds 1 (Value.ref h1.objs.size))) (Ne.symm hTe)).trans (Zo h1 hfr)
  refine⟨vs.setIfInBounds 1 (.ref h1.objs.size),oT,_,e3,by simp[sz],hTe,t3,(by rw[<-hO]),?_⟩
  simp
 ·refine⟨fun b o q n m=>?_,fun b o q m=>?_⟩
  ·have hbe:b≠e:=fun z=>m (by simp[z])
   rw[Heap.get?_update_other _ _ (Ne.symm hbe)]
   exact Zn _ ((k1.2.1 b n).trans q)
  ·have hbe:b≠e:=fun z=>m (by simp[z])
   obtain⟨sl,q'⟩:=k1.2.2 b o q
   refine⟨sl,?_⟩
   rw[Heap.get?_update_other _ _ (Ne.symm hbe)]
   exact Zn _ q'
theorem UY {Q:Unit->Shared->Prop}
  (fr:A.frames=some (env::outer)) (hl:s.heap.FunFrames base (env::outer)) (hf:env.frame=some L) (x:Ex0 s.heap e C d)
  (hq:∀h' T,s.heap.objs.size<=T->Ex h' e C d T (rawInt L)->But (env::outer) [e] s.heap h'->Q () {s with heap:=h'}) :
  wpAny M A (noteFrame (.ref e) env) Q E s:=by
 obtain⟨vs,he,h1⟩:=x
 unfold noteFrame
 simp only[hf]
 refine Zl (wpAny_field he rfl h1 ?_)
 rw[if_neg (by decide)]
 exact newEntry fr hl hf he (Array.getElem?_eq_some_iff.mp h1).1 hq
theorem XR {Q:Unit->Shared->Prop}
  (fr:A.frames=some (env::outer)) (hl:s.heap.FunFrames base (env::outer)) (hf:env.frame=some L) (x:Ex s.heap e C d T .none)
  (hq:∀h' T',s.heap.objs.size<=T'->Ex h' e C d T' (rawInt L)->But (env::outer) [e,T] s.heap h'->Q () {s with heap:=h'}) :
  wpAny M A (noteFrame (.ref e) env) Q E s:=by
 obtain⟨vs,oT,ts,he,h1,hTe,hT,hdT,h3⟩:=x
 unfold noteFrame
 simp only[hf]
 refine Zl (wpAny_field he rfl h1 ?_)
 rw[if_pos (show (Value.ref T != Value.none)=true from by simp)]
 refine Zl (wpAny_field hT hdT h3 ?_)
 rw[if_neg (show ¬((Value.none == rawInt L)=true) from by simp[rawInt])]
 refine Zl (wpAny_setField hT hdT (Array.getElem?_eq_some_iff.mp h3).1 ?_)
 have other:∀b,b≠T->(s.heap.update T (Obj.mapFields (·.setIfInBounds 3 Value.none))).get? b=s.heap.get? b:=
  fun b hb=>Heap.get?_update_other _ _ (Ne.symm hb)
 have noR:∀b o,s.heap.get? b=some o->(∀ws,o.data≠.fields ws)->b≠T:=fun b o hb hnf z=>by
  rw[z,hT] at hb
  injection hb with hb
  subst hb
  exact hnf ts hdT
 refine newEntry fr (hl.of_keeps fun b o hb hnf=>⟨o,(other b (noR b o hb hnf)).trans hb,rfl⟩) hf
  ((other e (Ne.symm hTe)).trans he) (Array.getElem?_eq_some_iff.mp h1).1 fun h' T' n x k=>hq h' T' ?_ x ?_
 ·have n':(s.heap.update T (Obj.mapFields (·.setIfInBounds 3 Value.none))).objs.size<=T':=n
  rw[Heap.size_after_update] at n'
  exact n'
 ·refine⟨fun b o q nf m=>?_,fun b o q m=>?_⟩
  ·have b1:b≠T:=fun z=>m (by simp[z])
   exact k.1 b o ((other b b1).trans q) nf fun z=>m (by simp at z;simp[z])
  ·have b1:b≠T:=fun z=>m (by simp[z])
   exact k.2 b o ((other b b1).trans q) fun z=>m (by simp at z;simp[z])
theorem YH {Q:Unit->Shared->Prop}(x:Ex s.heap e C d T fl)
  (hq:∀h',Ex h' e C d T .none->But [] [T] s.heap h'->Q () {s with heap:=h'}) :
  wpAny M A (setFlight (.ref e) none) Q E s:=by
 obtain⟨vs,oT,ts,he,h1,hTe,hT,hdT,h3⟩:=x
 have sz:3<ts.size:=(Array.getElem?_eq_some_iff.mp h3).1
 refine wpAny_setFlight_none he rfl h1 hT hdT sz (hq _ ?_ ?_)
 ·exact⟨vs,_,_,(Heap.get?_update_other _ _ hTe).trans he,h1,hTe,
   Heap.get?_update_self _ hT (Obj.isFreed_of_fields (Obj.data_mapFields hdT _)),Obj.data_mapFields hdT _,by simp[sz]⟩
 ·refine⟨fun b o q _ m=>?_,fun b o q m=>⟨o.slots,?_⟩⟩
  ·rw[Heap.get?_update_other _ _ (fun z=>m (by simp[z]))]
   exact q
  ·rw[Heap.get?_update_other _ _ (fun z=>m (by simp[z]))]
   exact q
theorem But.nil {l:List Env}{xs:List Addr}{h h':Heap}(a:But [] xs h h'):But l xs h h':=
 ⟨fun b o q _ m=>a.1 b o q (by simp) m,a.2⟩
theorem V1 {Q:Unit->Shared->Prop}
  (fr:A.frames=some (env::outer)) (hl:s.heap.FunFrames base (env::outer)) (hf:env.frame=some L) (x:Ex0 s.heap e C d)
  (hq:∀h' T,s.heap.objs.size<=T->Ex h' e C d T .none->But (env::outer) [e] s.heap h'->Q () {s with heap:=h'}) :
  wpAny M A (leaving env (.ref e)) Q E s:=by
 unfold leaving
 refine Zl (UY fr hl hf x fun h1 T n x1 k1=>?_)
 refine YH x1 fun h2 x2 k2=>?_
 refine hq h2 T n x2 ⟨fun b o q nf m=>?_,fun b o q m=>?_⟩
 ·have hb:b≠T:=Nat.ne_of_lt (Nat.lt_of_lt_of_le (Zp q) n)
  exact k2.1 b o (k1.1 b o q nf m) (by simp) (by simp[hb])
 ·have hb:b≠T:=Nat.ne_of_lt (Nat.lt_of_lt_of_le (Zp q) n)
  obtain⟨sl,q1⟩:=k1.2 b o q m
  exact⟨sl,k2.1 b _ q1 (by simp) (by simp[hb])⟩
theorem U6 {Q:Unit->Shared->Prop}
  (fr:A.frames=some (env::outer)) (hl:s.heap.FunFrames base (env::outer)) (hf:env.frame=some L) (x:Ex s.heap e C d T .none)
  (hq:∀h' T',s.heap.objs.size<=T'->Ex h' e C d T' .none->But (env::outer) [e,T] s.heap h'->Q () {s with heap:=h'}) :
  wpAny M A (leaving env (.ref e)) Q E s:=by
 unfold leaving
 refine Zl (XR fr hl hf x fun h1 T' n x1 k1=>?_)
 refine YH x1 fun h2 x2 k2=>?_
 refine hq h2 T' n x2 ⟨fun b o q nf m=>?_,fun b o q m=>?_⟩
 ·have hb:b≠T':=Nat.ne_of_lt (Nat.lt_of_lt_of_le (Zp q) n)
  exact k2.1 b o (k1.1 b o q nf m) (by simp) (by simp[hb])
 ·have hb:b≠T':=Nat.ne_of_lt (Nat.lt_of_lt_of_le (Zp q) n)
  obtain⟨sl,q1⟩:=k1.2 b o q m
  exact⟨sl,k2.1 b _ q1 (by simp) (by simp[hb])⟩
end
end PyX
namespace L2
open PySem PySem.Spec PyProof.Rows
def CXE (P:Program)(w:World):Jq:=fun outer H s E e s'=>
 ∃a C d T H',e=.ref a/\s'.os=s.os/\AllBare s'.gens/\Un (Uz outer) [] H H' s.heap s'.heap/\Ww P w H' s'.heap/\
  PyX.Ex s'.heap a C d T .none/\s.heap.objs.size<=a/\s.heap.objs.size<=T/\H' a=none/\H' T=none/\E (.ref C) d H'
section
variable {X:Cx}{pins:List (Addr×Obj)}{σ:St}{H:Hp}{s:Shared}
def YI (X:Cx)(pins:List (Addr×Obj))(H:Hp)(b:Addr):Prop:=
 X.s₀.heap.objs.size<=b/\H b=none/\b≠X.env.locals/\(∀x c,X.env.cells.lookup x=some c->c≠b)/\∀p∈X.pn++pins,p.1≠b
theorem Inv.loose (I:Inv X pins σ H s){b:Addr}(h:s.heap.objs.size<=b)(n:H b=none):YI X pins H b:=by
 refine⟨Nat.le_trans I.sz h,n,?_,fun x c e z=>?_,fun p hp z=>?_⟩
 ·exact Nat.ne_of_gt (Nat.lt_of_lt_of_le I.lt h)
 ·obtain⟨v,o,ho,hd⟩:=I.cell x c e
  exact absurd (Nat.lt_of_lt_of_le (Zp ho) h) (by rw[z];exact Nat.lt_irrefl _)
 ·exact absurd (Nat.lt_of_lt_of_le (Zp (I.pin p hp).1) h) (by rw[z];exact Nat.lt_irrefl _)
theorem Inv.but {xs:List Addr}{h':Heap}{t':Nat}(I:Inv X pins σ H s)(k:PyX.But X.stack xs s.heap h')(hx:∀b∈xs,YI X pins H b) :
  Inv X pins σ H {s with heap:=h',toks:=t'}:=by
 refine I.call (ch:=xs) (g':=s.gens) (d':=s.drawn) ⟨fun b o e _ nf nx=>k.1 b o e nf nx,fun b o e _ _ nx=>k.2 b o e nx,fun _ _ _ n _=>n,fun b o e nx=>?_,fun _ _ q=>q,fun _ _ _ q=>q,
  fun _ ps q=>⟨#[],by rw[q];simp⟩⟩ (fun a o e=>?_) I.bare fun b hb=>?_
 ·obtain⟨sl,q⟩:=k.2 b o e nx
  exact⟨_,q⟩
 ·have keep:∀b u,(∃o,H b=some o)->s.heap.get? b=some u->h'.get? b=some u:=fun b u ⟨o',n⟩ q=>by
   refine k.1 b u q (fun hf=>?_) fun hb=>?_
   ·rw[I.stkFree b hf] at n
    cases n
   ·rw[(hx b hb).2.1] at n
    cases n
  refine (I.hok a o e).stay (fun b u hb q=>keep b u ?_ q) (fun c r=>r) fun c ys r=>r
  rcases hb with rfl|hb
  ·exact⟨o,e⟩
  ·exact⟨_,hb⟩
 ·obtain⟨h1,h2,h3,h4,h5⟩:=hx b hb
  exact⟨.inr h1,h3,h4,h5⟩
theorem Inv.afterX {E:XK}{e:Value}{s':Shared}(I:Inv X pins σ H s)(h:CXE X.prog X.w X.stack H s E e s') :
  ∃a C d T H',e=.ref a/\Inv X pins σ H' s'/\PyX.Ex s'.heap a C d T .none/\YI X pins H' a/\YI X pins H' T/\E (.ref C) d H':=by
 obtain⟨a,C,d,T,H',rfl,ho,hg,u,hok,x,ha,hT,na,nT,q⟩:=h
 have J:Inv X pins σ H' s':=I.call' ho u hok hg fun b hb=>absurd hb (by simp)
 have lo:∀b,s.heap.objs.size<=b->H' b=none->YI X pins H' b:=fun b hb n=>by
  obtain⟨h1,_,h3,h4,h5⟩:=I.loose hb (I.hok.fresh hb)
  exact⟨h1,n,h3,h4,h5⟩
 exact⟨a,C,d,T,H',rfl,J,x,lo a ha na,lo T hT nT,q⟩
end
def Zan (X:Cx)(E:XK):Prop:=∀(pins:List (Addr×Obj)) (σ:St) (H:Hp) (s:Shared) (a C:Addr) (d:Option Addr),
 Inv X pins σ H s->PyX.Ex0 s.heap a C d->YI X pins H a->E (.ref C) d H->X.xe (.ref a) s
section
variable {P:Program}{w:World}{K:PySem.W.Frag}{mg:Str->Option Value}{base:Heap}{N:List Str}{qual:Str}{scope:Scope}{f:Addr}{cd:Value}
variable {A:Around}{outer:List Env}{s:Shared}{H:Hp}{E:XK}
theorem Zeo {X:Cx}{pins:List (Addr×Obj)}{σ:St}{H':Hp}{s':Shared}(I:Inv X pins σ H' s')(hx:X.ex=[]):Un X.fs [] X.H₀ H' X.s₀.heap s'.heap:=by
 have:=I.base
 rw[hx] at this
 exact this
theorem JP:Zan (Xy (CXE P w) P w K mg base N qual scope f cd A outer s H E) E:=by
 intro pins σ H1 s1 a C d I x lo q
 show wpAny _ _ _ _ _ _
 refine PyX.V1 (base:=base) I.ok.frames I.stack rfl x fun h' T nT x' k=>?_
 have lT:YI (Xy (CXE P w) P w K mg base N qual scope f cd A outer s H E) pins H1 T:=I.loose nT (I.hok.fresh nT)
 have J:=I.but (t':=s1.toks) k fun b hb=>by
  obtain rfl:b=a:=by simpa using hb
  exact lo
 exact⟨a,C,d,T,H1,rfl,J.os,J.bare,Zeo J rfl,J.hok,x',lo.1,lT.1,lo.2.1,lT.2.1,q⟩
theorem UW:YC (CXE P w) (Xy (CXE P w) P w K mg base N qual scope f cd A outer s H E) E:=by
 intro pins σ H1 s1 e s2 I h
 obtain⟨a,C,d,T,H',rfl,J,x,la,lT,q⟩:=I.afterX h
 show wpAny _ _ _ _ _ _
 refine PyX.U6 (base:=base) J.ok.frames J.stack rfl x fun h' T' nT x' k=>?_
 have lT':YI (Xy (CXE P w) P w K mg base N qual scope f cd A outer s H E) pins H' T':=J.loose nT (J.hok.fresh nT)
 have L:=J.but (t':=s2.toks) k fun b hb=>by
  rcases List.mem_cons.mp hb with rfl|hb
  ·exact la
  ·obtain rfl:b=T:=by simpa using hb
   exact lT
 exact⟨a,C,d,T',H',rfl,L.os,L.bare,Zeo L rfl,L.hok,x',la.1,lT'.1,la.2.1,lT'.2.1,q⟩
end
def XZ (a C:Addr)(d:Option Addr):HO:=.ext fun h=>∃vs,h.get? a=some {cls:=.ref C,dict:=d,data:=.fields vs}
def Cx.suite (X:Cx)(a:Addr)(pins:List (Addr×Obj)):Cx:=
 {X with A:=X.A.mark (some (.ref a)),calm:=false,xe:=fun _ _=>False,pn:=X.pn++pins}
def Cx.tryc (X:Cx)(D:Wx)(pins:List (Addr×Obj))(hs:List ExceptHandler):Cx:=
 { X with
  pn:=X.pn++pins
  xe:=fun e s1=>wpAny (model X.prog X.w) X.A (noteFrame e X.env) (fun _ s2=>wpAny (model X.prog X.w) X.A (setFlight e none)
   (fun _ s3=>wpAny (model X.prog X.w) X.A (handleBy e X.env hs) (SP X pins D) X.xe s3) X.xe s2) X.xe s1}
section
variable {X:Cx}{pins:List (Addr×Obj)}{σ:St}{H:Hp}{s:Shared}{D:Wx}{hs:List ExceptHandler}{a:Addr}
theorem Inv.toTry (I:Inv X pins σ H s):Inv (X.tryc D pins hs) [] σ H s:=
 ⟨⟨I.ok.mod,I.ok.kind,I.ok.glob,I.ok.blt,I.ok.above,I.ok.inj,I.ok.has,I.ok.cab,I.ok.hd,I.ok.frames,I.ok.stk,I.ok.exf,I.ok.bs,I.ok.bsz,I.ok.noex,I.ok.exfs,I.ok.funs,I.ok.frf⟩,
  I.os,I.bare,I.base,I.loc,I.cell,I.free,I.freeC,fun p hp=>I.pin p (by
   rw[List.append_nil] at hp
   exact hp),I.hok,I.len⟩
theorem Inv.ofTry {ps:List (Addr×Obj)}(I:Inv (X.tryc D pins hs) ps σ H s):Inv X pins σ H s:=
 ⟨⟨I.ok.mod,I.ok.kind,I.ok.glob,I.ok.blt,I.ok.above,I.ok.inj,I.ok.has,I.ok.cab,I.ok.hd,I.ok.frames,I.ok.stk,I.ok.exf,I.ok.bs,I.ok.bsz,I.ok.noex,I.ok.exfs,I.ok.funs,I.ok.frf⟩,
  I.os,I.bare,I.base,I.loc,I.cell,I.free,I.freeC,fun p hp=>I.pin p (List.mem_append_left _ hp),I.hok,I.len⟩
theorem Inv.toSuite (I:Inv X pins σ H s):Inv (X.suite a pins) [] σ H s:=
 ⟨⟨I.ok.mod,I.ok.kind,I.ok.glob,I.ok.blt,I.ok.above,I.ok.inj,I.ok.has,I.ok.cab,fun z=>(by cases z),I.ok.frames,I.ok.stk,I.ok.exf,I.ok.bs,I.ok.bsz,I.ok.noex,I.ok.exfs,I.ok.funs,I.ok.frf⟩,
  I.os,I.bare,I.base,I.loc,I.cell,I.free,I.freeC,fun p hp=>I.pin p (by
   rw[List.append_nil] at hp
   exact hp),I.hok,I.len⟩
theorem Inv.ofSuite (hc:X.calm=true->X.A.handled=none){ps:List (Addr×Obj)}(I:Inv (X.suite a pins) ps σ H s):Inv X pins σ H s:=
 ⟨⟨I.ok.mod,I.ok.kind,I.ok.glob,I.ok.blt,I.ok.above,I.ok.inj,I.ok.has,I.ok.cab,hc,I.ok.frames,I.ok.stk,I.ok.exf,I.ok.bs,I.ok.bsz,I.ok.noex,I.ok.exfs,I.ok.funs,I.ok.frf⟩,
  I.os,I.bare,I.base,I.loc,I.cell,I.free,I.freeC,fun p hp=>I.pin p (List.mem_append_left _ hp),I.hok,I.len⟩
theorem Zfa {body:List Stmt}{h0:ExceptHandler}{pos:Pos}{tb:Wx->TS}
  (hb:∀D pins,X6 (X.tryc D pins (h0::hs)) body (tb D)):PS X (.Try body (h0::hs) [] [] pos) (fun D σ H=>tb D D σ H):=by
 intro pins s σ H D I h
 refine wpAny_Try_except (ZT (hb D pins [] s σ H D I.toTry h) fun f s1 h1=>?_)
 cases f with
 |next=>
  obtain⟨σ',H',J,q⟩:=h1
  exact wpAny_execs_nil ⟨σ',H',J.ofTry,q⟩
 |brk=>
  obtain⟨σ',H',J,q⟩:=h1
  exact⟨σ',H',J.ofTry,q⟩
 |cont=>
  obtain⟨σ',H',J,q⟩:=h1
  exact⟨σ',H',J.ofTry,q⟩
 |ret u=>
  obtain⟨v,σ',H',J,r,q⟩:=h1
  exact⟨v,σ',H',J.ofTry,r,q⟩
theorem Inv.track {C:Addr}{d:Option Addr}{vs:Array Value}(I:Inv X pins σ H s)(he:s.heap.get? a=some {cls:=.ref C,dict:=d,data:=.fields vs})(lo:YI X pins H a) :
  Inv X pins σ (upd H a (XZ a C d)) s:=by
 have ext:ZG X.prog X.w (upd H a (XZ a C d)) s.heap a (XZ a C d):=
  ⟨⟨vs,he⟩,⟨_,he⟩,fun h1 h2 ⟨vs',e⟩ k=>⟨vs',k _ e⟩⟩
 obtain⟨h,g,dr,t,os⟩:=s
 refine I.call (ch:=[a]) (h':=h) (g':=g) (d':=dr) (t':=t) ⟨fun b o e _ _ _=>e,fun b o e _ _ _=>⟨o.slots,e⟩,fun b o e n nx=>?_,fun b o e _=>⟨o,e⟩,fun b ys q=>?_,fun b o u q=>?_,fun b ps q=>⟨#[],?_⟩⟩
  (fun b o e=>?_) I.bare fun b hb=>?_
 ·rw[Zw (fun z=>nx (by simp[z]))]
  exact n
 ·rw[Zw (Zz q lo.2.1)]
  exact q
 ·rw[Zw (Zz q lo.2.1)]
  exact q
 ·rw[Zw (Zz q lo.2.1),q]
  simp
 ·by_cases hb:b=a
  ·subst hb
   rw[Zs] at e
   cases e
   exact ext
  ·rw[Zw hb] at e
   exact (I.hok b o e).stay (fun _ _ _ q=>q) (fun c r=>by rw[Zw (Zz r lo.2.1)];exact r) fun c ys r=>by rw[Zw (Zz r lo.2.1)];exact r
 ·obtain rfl:b=a:=by simpa using hb
  exact⟨.inr lo.1,lo.2.2.1,lo.2.2.2.1,lo.2.2.2.2⟩
end
section
variable {X:Cx}{pins:List (Addr×Obj)}{σ:St}{H:Hp}{s:Shared}{D:Wx}{a:Addr}
theorem JJ {M:Model}{A:Around}{E:Value->Shared->Prop}{i:Nat}{n:Str}{pos:Pos}{Q:Unit->Shared->Prop}(I:Inv X pins σ H s)(hN:X.N.Nodup)(hi:X.N[i]?=some n)
  (hk:X.env.kindOf n=some .local) (h:∀s',Inv X pins (σ.set i none) H s'->Q () s'):wpAny M A (do bindName X.env n .none;unbindBehindTheSuite X.env n pos) Q E s:=by
 obtain⟨m,hn,hl⟩:=id I.loc
 have hcls:(X.env.scope.kind == .class || (X.env.scope.kind == .module && X.env.locals != X.env.globals))=false:=by
  rw[I.ok.kind]
  rfl
 have hiσ:i < σ.length:=by
  rw[I.len]
  exact (List.getElem?_eq_some_iff.mp hi).1
 have cne:=I.cne
 refine wpAny_nameGoes_keeps hk hn hcls fun h' v hn' hs=>?_
 obtain⟨oL,_,_,hoL,_⟩:=id hn
 have up:∀{b:Addr}{o:Obj},X.s₀.heap.get? b=some o->b≠X.env.locals:=fun {b o} e=>Nat.ne_of_lt (Nat.lt_of_lt_of_le (Zp e) I.ok.above)
 refine h _ ⟨I.ok,I.os,I.bare,⟨fun b o e n hb hx=>?_,fun b o e n hb hx=>?_,I.base.free,fun b o e hx=>?_,I.base.tups,I.base.frzs,I.base.tbls⟩,⟨_,hn',fun j y v' e1 e2 e3=>?_⟩,fun y c e=>?_,I.free,I.freeC,fun p hp=>?_,fun b ob e=>?_,?_⟩
 ·exact (hs.2 b (up e)).trans (I.base.keep b o e n hb hx)
 ·obtain⟨sl,e1⟩:=I.base.slot b o e n hb hx
  exact⟨sl,(hs.2 b (up e)).trans e1⟩
 ·obtain⟨o',e1⟩:=I.base.there b o e hx
  exact⟨o',(hs.2 b (up e)).trans e1⟩
 ·by_cases hj:j=i
  ·subst hj
   rw[List.getElem?_set_self hiσ] at e2
   cases e2
  ·rw[List.getElem?_set_ne (Ne.symm hj)] at e2
   obtain⟨u',r',q⟩:=hl j y v' e1 e2 e3
   refine⟨u',r',?_⟩
   rcases q with ⟨k,e⟩|⟨k,c,e,z⟩
   ·refine .inl ⟨k,?_⟩
    have:y≠n:=fun e=>hj (J9 hN e1 (e▸hi))
    simp[this,e]
   ·exact .inr ⟨k,c,e,z.sameBut hs (cne y c e)⟩
 ·obtain⟨w',z⟩:=I.cell y c e
  exact⟨w',z.sameBut hs (cne y c e)⟩
 ·obtain⟨e,n,ne,nf,d⟩:=I.pin p hp
  exact⟨(hs.2 p.1 ne).trans e,n,ne,nf,d⟩
 ·refine (I.hok b ob e).stay (fun c w' hc q=>(hs.2 c ?_).trans q) (fun _ q=>q) fun _ _ q=>q
  rintro rfl
  rcases hc with rfl|hc
  ·rw[I.free] at e
   cases e
  ·rw[I.free] at hc
   cases hc
 ·simpa using I.len
def ZfF (D:Wx)(i:Nat):Wx:={nx:=fun σ H=>D.nx (σ.set i none) H,rt:=D.rt,bk:=fun σ H=>D.bk (σ.set i none) H,ct:=fun σ H=>D.ct (σ.set i none) H}
def noSt (X:Cx):St:=List.replicate X.N.length none
theorem Inv.noSt (I:Inv X pins σ H s):Inv X pins (noSt X) H s:=
 I.weak (by simp[L2.noSt,I.len]) fun i v e=>by
  unfold L2.noSt at e
  rw[List.getElem?_replicate] at e
  split at e <;> cases e
def UF (X:Cx)(Dc:Addr)(i:Nat)(ts:TS)(D:Wx):XK:=fun cls d H=>∃C N bm nid ND bD,cls=.ref C/\PyX.Jo X.base C N bm nid/\PyX.Jo X.base Dc ND bD nid/\
 bD.contains (.type "BaseException")=true/\(Value.ref C::bm).contains (.ref Dc)=true/\
 ∀a,H a=none->ts (ZfF D i) ((noSt X).set i (some (.ref a))) (upd H a (XZ a C d))
theorem WP {C T L:Addr}{d:Option Addr}{Dc:Addr}{i:Nat}{n x:Str}{np hp:Pos}{b0:Stmt}{suite:List Stmt}{ts:TS}
  (I:Inv X pins σ H s) (e:PyX.Ex s.heap a C d T (rawInt L)) (la:YI X pins H a) (lT:YI X pins H T)
  (hN:X.N.Nodup) (hi:X.N[i]?=some n) (hk:X.env.kindOf n=some .local) (hg:Gl X x) (hm:X.mg x=some (.ref Dc)) (hdb:(x == ("__debug__":Str))=false)
  (hs:X6 (X.suite a pins) (b0::suite) ts) (q:UF X Dc i ts D (.ref C) d H) :
  wpAny (model X.prog X.w) X.A (setFlight (.ref a) none)
   (fun _ s3=>wpAny (model X.prog X.w) X.A (handleBy (.ref a) X.env [.ExceptHandler (some (.Name x np)) (some n) (b0::suite) hp]) (SP X pins D) X.xe s3) X.xe s:=by
 obtain⟨C',N,bm,nid,ND,bD,hC,ic,id',hb,hit,q⟩:=q
 cases hC
 refine PyX.YH e fun h1 e1 k1=>?_
 have I1:Inv X pins σ H {s with heap:=h1}:=I.but (t':=s.toks) k1.nil fun b hb=>by
  obtain rfl:b=T:=by simpa using hb
  exact lT
 refine wpAny_handleBy_cons (codeAny_handlers_test (WA (X:=X.suite a pins) I1.toSuite hg hm ?_ hdb)) (by intro z;cases z)
 obtain⟨vs,oT,tl,ea,_⟩:=id e1
 refine PyX.VX (ic.keeps I1.bk) (id'.keeps I1.bk) ea rfl hb hit ?_
 simp only[if_true]
 refine codeAny_handlers_suite_as (PyX.YH e1 fun h2 e2 k2=>?_)
 have I2:Inv X pins σ H {s with heap:=h2}:=I1.but (t':=s.toks) k2.nil fun b hb=>by
  obtain rfl:b=T:=by simpa using hb
  exact lT
 obtain⟨vs2,oT2,tl2,ea2,_⟩:=id e2
 have I3:=(I2.noSt.track ea2 la).toSuite (a:=a)
 refine Wf (X:=X.suite a pins) (v:=.ref a) I3 hN hi (.inl hk) rfl (fun s4 I4=>?_) (.inr hk)
 refine wpAny_mono (hs [] s4 _ _ (ZfF D i) I4 (q a la.2.1)) (fun f s5 h5=>?_) fun _ _ z=>False.elim z
 have back:∀{σ':St}{H':Hp},Inv (X.suite a pins) [] σ' H' s5->Inv X pins σ' H' s5:=fun J=>J.ofSuite I.ok.hd
 cases f with
 |next=>
  obtain⟨σ',H',J,z⟩:=h5
  exact JJ (back J) hN hi hk fun s6 J6=>⟨_,H',J6,z⟩
 |brk=>
  obtain⟨σ',H',J,z⟩:=h5
  exact JJ (back J) hN hi hk fun s6 J6=>⟨_,H',J6,z⟩
 |cont=>
  obtain⟨σ',H',J,z⟩:=h5
  exact JJ (back J) hN hi hk fun s6 J6=>⟨_,H',J6,z⟩
 |ret u=>
  obtain⟨v,σ',H',J,r,z⟩:=h5
  exact JJ (back J) hN hi hk fun s6 J6=>⟨v,_,H',J6,r,z⟩
section
variable {Dc:Addr}{i:Nat}{n x:Str}{np hp:Pos}{b0:Stmt}{suite:List Stmt}{ts:TS}
theorem UV (hN:X.N.Nodup)(hi:X.N[i]?=some n)(hk:X.env.kindOf n=some .local)(hg:Gl X x)(hm:X.mg x=some (.ref Dc))(hdb:(x == ("__debug__":Str))=false)
  (hst:X.stack=X.env::X.outer) (hf:X.env.frame=some X.env.locals) (hs:∀a,X6 (X.suite a pins) (b0::suite) ts) :
  YC (CXE X.prog X.w) (X.tryc D pins [.ExceptHandler (some (.Name x np)) (some n) (b0::suite) hp]) (UF X Dc i ts D):=by
 intro ps σ H s e s' I h
 obtain⟨a,C,d,T,H',rfl,J,z,la,lT,q⟩:=I.afterX h
 show wpAny _ _ _ _ _ _
 have J':=J.ofTry
 have fr:=J'.ok.frames
 have st:=J'.stack
 have lo:∀b,YI (X.tryc D pins [.ExceptHandler (some (.Name x np)) (some n) (b0::suite) hp]) ps H' b->YI X pins H' b:=
  fun b ⟨h1,h2,h3,h4,h5⟩=>⟨h1,h2,h3,h4,fun p hp=>h5 p (List.mem_append_left _ hp)⟩
 rw[hst] at fr st
 refine PyX.XR (base:=X.base) fr st hf z fun h' T' nT z' k=>?_
 rw[<-hst] at k
 have J2:Inv X pins σ H' {s' with heap:=h'}:=J'.but (t':=s'.toks) k fun b hb=>by
  rcases List.mem_cons.mp hb with rfl|hb
  ·exact lo _ la
  ·obtain rfl:b=T:=by simpa using hb
   exact lo _ lT
 exact WP J2 z' (lo _ la) (J'.loose nT (J'.hok.fresh nT)) hN hi hk hg hm hdb (hs a) q
end
end
end L2
namespace PyX
open PySem
section
variable {M:Model}{A:Around}{E:Value->Shared->Prop}{env:Env}{s:Shared}
theorem Zct {v:Sem Value}{Q:Flow->Shared->Prop}(hh:A.handled=none)
    (h:wpAny M A v (fun u s1=>∃e C N bm nid d vs,u=.ref e/\Jo s1.heap C N bm nid/\bm.contains (.type "BaseException")=true/\
      s1.heap.get? e=some {cls:=.ref C,dict:=d,data:=.fields vs}/\vs[1]?=some .none/\E (.ref e) s1) E s) :
    wpAny M A (raiseStmt env (some v) none) Q E s:=by
  unfold raiseStmt
  refine Zl (wpAny_mono h (fun u s1 h1=>?_) fun _ _ z=>z)
  obtain⟨e,C,N,bm,nid,d,vs,rfl,x,hb,he,hv,hE⟩:=h1
  obtain⟨nm,q,bs,hd,sn,sb,ab,cl,dd,k0,k1,k2,k3,k5,hC⟩:=x
  have hcB:(Value.ref C::bm).contains (.type "BaseException")=true:=by
    rw[List.contains_cons,hb,Bool.or_true]
  obtain⟨hp,g,dr,tk,os⟩:=s1
  repeat (first
    |with_reducible refine wpAny_loadPart_at he ?_
    |with_reducible refine wpAny_loadPart_at hC ?_
    | (with_reducible refine wpAny_isSubtype_exc hC ?_
       rw[hcB])
    |wp_step)
  rw[hv]
  refine Zm ?_
  rw[if_neg (by decide)]
  exact Zm (wpAny_raiseNew_none hh hE)
end
end PyX
namespace L2
open PySem PySem.Spec PyProof.Rows
section
variable {X:Cx}{C N T U:Addr}{nid iid:String}{mN mT:Str->Option Value}{x:Str}{p pos cpos:Pos}{e:Expr}{es:List Expr}{t:TA}{E:XK}
theorem Zbe (hc:X.calm=true)(c:PyX.WF X.base C N T U nid mN mT)(hi:mN "__init__"=none)(F:ExcBaseFacts "ValueError" nid iid PyX.VE)
  (hg:Gl X x) (hm:X.mg x=some (.ref C)) (kp:PySem.W.keepIn X.K (.ref C)=true) (ha:PA X (e::es) t) (hx:Zan X E)
  (hdb:(x == ("__debug__":Str))=false:=by decide) (he:starEach (e::es) X.env=(false,eval e X.env)::starEach es X.env:=by rfl) (hpl:(backTo cpos (starEach es X.env)).any (·.1)=false:=by rfl) :
  PS X (.Raise (some (.Call (.Name x p) (e::es) [] cpos)) none pos) (fun D σ H=>t σ H fun vs H1=>vs.length<=sizeLine/\E (.ref C) none H1):=by
 intro pins s σ H D I h
 rw[arm_exec_Raise]
 refine Zl (wpAny_standAt (PyX.Zct (I.ok.hd hc) ?_))
 refine Zl (wpAny_mono (wpAny_Call_Name_kw (WA I hg hm ?_ hdb)) (fun v s3 h3=>Zl (wpAny_standAt (Zm h3))) fun _ _ z=>z)
 refine PySem.W.callWith_K (h₀:=X.base) I.ok.mod.kin kp (ZT (ha cpos pins s σ H _ I h) fun us s1 ⟨vs,H1,I1,r,hl,q⟩=>⟨I1.kIn,?_⟩) he hpl
 have c1:=c.keeps I1.bk
 have hl':us.length<=sizeLine:=by
  rw[<-r.length]
  exact hl
 obtain⟨h1,g1,d1,t1,o1⟩:=s1
 refine PyX.Uq F c1.tail c1.c.ex c1.nsC hi (fun h' a mk hz=>?_) hl'
 have J:Inv X pins σ H1 ⟨h',g1,d1,t1,o1⟩:=I1.kept (t':=t1) mk.keeps
 obtain⟨ta,ho,_,_⟩:=mk.there
 exact⟨a,C,N,_,nid,none,_,rfl,(c1.keeps mk.keeps).c.ex,rfl,ho,rfl,hx pins σ H1 _ a C none J ⟨_,ho,rfl⟩ (by
  obtain⟨l1,l2,l3,l4,l5⟩:=I1.loose hz (I1.hok.fresh hz)
  exact⟨l1,l2,l3,l4,l5⟩) q⟩
end
def VF (a C:Addr)(d:Option Addr):HO:=.ext fun h=>∃vs,h.get? a=some {cls:=.ref C,dict:=d,data:=.fields vs}/\vs[1]?=some .none
def exD (dx:Addr)(fs:List (Str×V)):HO:=.ext fun h=>∃mA,h.Ns1 dx mA/\(∀f,WR (fs.lookup f) (mA f))/\PySem.Within mA (fs.map (·.1))
section
variable {X:Cx}{pins:List (Addr×Obj)}{σ:St}{H:Hp}{s:Shared}{a:Addr}
theorem Inv.trackO {o:HO}{ob:Obj}(I:Inv X pins σ H s)(ok:ZG X.prog X.w (upd H a o) s.heap a o)(lo:YI X pins H a):Inv X pins σ (upd H a o) s:=by
 obtain⟨h,g,dr,t,os⟩:=s
 refine I.call (ch:=[a]) (h':=h) (g':=g) (d':=dr) (t':=t) ⟨fun b o e _ _ _=>e,fun b o e _ _ _=>⟨o.slots,e⟩,fun b o e n nx=>?_,fun b o e _=>⟨o,e⟩,fun b ys q=>?_,fun b o u q=>?_,fun b ps q=>⟨#[],?_⟩⟩
  (fun b o' e=>?_) I.bare fun b hb=>?_
 ·rw[Zw (fun z=>nx (by simp[z]))]
  exact n
 ·rw[Zw (Zz q lo.2.1)]
  exact q
 ·rw[Zw (Zz q lo.2.1)]
  exact q
 ·rw[Zw (Zz q lo.2.1),q]
  simp
 ·by_cases hb:b=a
  ·subst hb
   rw[Zs] at e
   cases e
   exact ok
  ·rw[Zw hb] at e
   exact (I.hok b o' e).stay (fun _ _ _ q=>q) (fun c r=>by rw[Zw (Zz r lo.2.1)];exact r) fun c ys r=>by rw[Zw (Zz r lo.2.1)];exact r
 ·obtain rfl:b=a:=by simpa using hb
  exact⟨.inr lo.1,lo.2.2.1,lo.2.2.2.1,lo.2.2.2.2⟩
theorem Zc6 {H':Hp}{h:Heap}{C:Addr}{d:Option Addr}{vs:Array Value}(e:h.get? a=some {cls:=.ref C,dict:=d,data:=.fields vs})(v:vs[1]?=some .none):ZG X.prog X.w H' h a (VF a C d):=
 ⟨⟨vs,e,v⟩,⟨_,e⟩,fun h1 h2 ⟨vs',e',v'⟩ k=>⟨vs',k _ e',v'⟩⟩
theorem Zfs {h1 h2:Heap}{dx:Addr}{m:Str->Option Value}(n:h1.Ns1 dx m)(k:∀o,h1.get? dx=some o->h2.get? dx=some o):h2.Ns1 dx m:=by
 obtain⟨o,es,ep,e,r⟩:=n
 exact⟨o,es,ep,k _ e,r⟩
theorem ZfD {H':Hp}{h:Heap}{dx:Addr}{fs:List (Str×V)}{mA:Str->Option Value}(n:h.Ns1 dx mA)(r:∀f,WR (fs.lookup f) (mA f))(wi:PySem.Within mA (fs.map (·.1))):ZG X.prog X.w H' h dx (exD dx fs):=
 ⟨⟨mA,n,r,wi⟩,(by
  obtain⟨o,es,ep,e,_⟩:=n
  exact⟨o,e⟩),fun h1 h2 ⟨m,n',r',w'⟩ k=>⟨m,Zfs n' k,r',w'⟩⟩
variable {C N T U:Addr}{nid:String}{mN mT:Str->Option Value}{f:Str}{y:V}{u:Value}{A:Around}{E:Value->Shared->Prop}{Q:Unit->Shared->Prop}
structure NoN (mN mT:Str->Option Value)(f:Str):Prop where
 a:mN f=none
 b:mT f=none
 c:typeLookup (.type "ValueError") f=pure none
 d:mN "__setattr__"=none
 e:mT "__setattr__"=none
theorem UM (I:Inv X pins σ H s)(c:PyX.WF X.base C N T U nid mN mT)(n:NoN mN mT f)(hH:H a=some (VF a C none))(ry:RelV y u)
  (hq:∀dx s',H dx=none->dx≠a->Inv X pins σ (upd (upd H a (VF a C (some dx))) dx (exD dx [(f,y)])) s'->Q () s'):wpAny (model X.prog X.w) A (setAttr (.ref a) f u) Q E s:=by
 obtain⟨⟨vs,ho,hv⟩,_,_⟩:=I.hok a _ hH
 have J0:=I
 obtain⟨h,g,dr,t,os⟩:=s
 have fr:H h.objs.size=none:=I.hok.fresh (Zq _)
 have la:a<h.objs.size:=Zp ho
 refine PyX.Za8 (mA:=fun _=>none) (ns:=[]) (c.keeps I.bk) n.a n.b n.c n.d n.e ⟨_,ho,rfl,fun c z=>(by cases z),.inl ⟨rfl,fun _=>rfl⟩⟩ PySem.Within.nil (by rw[sizeLine_eq];decide) fun h' t' In SL=>?_
 obtain⟨o1,e1,c1,d1,s1,_⟩:=SL.2.1 _ ho
 obtain⟨o2,e2,dd⟩:=SL.2.2 _ ho rfl
 obtain rfl:o1=o2:=Option.some.inj (e1.symm.trans e2)
 have he:h'.get? a=some {cls:=.ref C,dict:=some h.objs.size,data:=.fields vs}:=by
  rw[e1]
  obtain⟨oc,od,odt,osl⟩:=o1
  have q1:oc=.ref C:=c1
  have q2:odt=.fields vs:=d1
  have q3:osl=#[]:=s1
  have q4:od=some h.objs.size:=dd
  subst q1 q2 q3 q4
  rfl
 have I1:Inv X pins σ (upd H a (VF a C (some h.objs.size))) ⟨h',g,dr,t',os⟩:=
  I.write (x:=a) (e:=a) (t':=t') (by rw[hH];exact True.intro) (.inl rfl) (fun b ob hb q=>SL.1 b ob hb (fun o0 dx z z'=>by
   have:o0=_:=Option.some.inj (z.symm.trans ho)
   subst this
   cases z') q) ⟨_,he⟩ (Zc6 he hv)
 obtain⟨oI,eI,_,_,hd⟩:=In
 have:oI={cls:=.ref C,dict:=some h.objs.size,data:=.fields vs}:=Option.some.inj (eI.symm.trans he)
 subst this
 rcases hd with ⟨z,_⟩|⟨dx,z,hne,ns⟩
 ·cases z
 ·cases z
  refine hq h.objs.size _ fr hne (I1.trackO (ob:={cls:=.none,data:=.fields #[]}) (ZfD ns (fun g=>?_) ?_) ?_)
  ·by_cases q:g=f
   ·subst q
    simp[List.lookup,WR]
    exact ry
   ·have:(g == f)=false:=by simpa using q
    simp[List.lookup,this,q,WR]
  ·exact PySem.Within.cons f u PySem.Within.nil
  ·have:=J0.loose (Zq _) fr
   exact⟨this.1,by rw[Zw hne];exact fr,this.2.2⟩
end
section
variable {X:Cx}{pins:List (Addr×Obj)}{σ:St}{H:Hp}{s:Shared}{a:Addr}
variable {C N T U dx:Addr}{nid:String}{mN mT:Str->Option Value}{f:Str}{y:V}{u:Value}{A:Around}{E:Value->Shared->Prop}{Q:Unit->Shared->Prop}{fs:List (Str×V)}
def sX1 (C:Addr)(ta tv:TE)(f:Str):TS:=fun D σ H=>tv σ H fun y H1=>ta σ H1 fun x H2=>∃a,x=.ref a/\H2 a=some (VF a C none)/\
 ∀dx,H2 dx=none->dx≠a->D.nx σ (upd (upd H2 a (VF a C (some dx))) dx (exD dx [(f,y)]))
variable {o value:Expr}{ta tv:TE}{pos pos':Pos}
theorem Zgi (c:PyX.WF X.base C N T U nid mN mT)(n:NoN mN mT f)(ha:PE X o ta)(hv:PE X value tv)(hs:swapsWith value (some (.Attribute o f pos')) pos.line X.env=pure false) :
  PS X (.Assign [.Attribute o f pos'] value pos) (sX1 C ta tv f):=by
 intro pins s σ H D I h
 refine plainObj_wpAny_Assign_Attribute (ZT (hv pins s σ H _ I h) fun u s1 ⟨y,H1,I1,ry,q⟩=>ZT (ha pins s1 σ H1 _ I1 q) fun ov s2 ⟨x,H2,I2,rx,a,ex,ea,q2⟩=>?_) hs
 subst ex
 obtain rfl:ov=Value.ref a:=rx
 exact UM I2 c n ea ry fun dx s3 h1 h2 I3=>⟨σ,_,I3,q2 dx h1 h2⟩
end
def del (H:Hp)(a:Addr):Hp:=fun b=>if b=a then none else H b
theorem Uh {H:Hp}{a:Addr}:del H a a=none:=by
 unfold del
 rw[if_pos rfl]
theorem Wl {H:Hp}{a b:Addr}(h:b≠a):del H a b=H b:=by
 unfold del
 rw[if_neg h]
section
variable {X:Cx}{pins:List (Addr×Obj)}{σ:St}{H:Hp}{s:Shared}{a:Addr}{φ:Heap->Prop}
theorem Inv.untrack (I:Inv X pins σ H s)(hH:H a=some (.ext φ))(h1:X.s₀.heap.objs.size<=a)(h3:a≠X.env.locals)(h4:∀x c,X.env.cells.lookup x=some c->c≠a)(h5:∀p∈X.pn++pins,p.1≠a):Inv X pins σ (del H a) s:=by
 obtain⟨h,g,dr,t,os⟩:=s
 have ne:∀{b:Addr}{o:HO},H b=some o->(∀ ψ,o≠.ext ψ)->b≠a:=fun {b o} e d z=>by
  rw[z,hH] at e
  exact d φ (Option.some.inj e).symm
 refine I.call (ch:=[]) (h':=h) (g':=g) (d':=dr) (t':=t) ⟨fun b o e _ _ _=>e,fun b o e _ _ _=>⟨o.slots,e⟩,fun b o e n _=>?_,fun b o e _=>⟨o,e⟩,fun b ys q=>?_,fun b o u q=>?_,fun b ps q=>⟨#[],?_⟩⟩
  (fun b o' e=>?_) I.bare fun b hb=>absurd hb (by simp)
 ·unfold del
  split
  ·rfl
  ·exact n
 ·rw[Wl (ne q fun _ z=>by cases z)]
  exact q
 ·rw[Wl (ne q fun _ z=>by cases z)]
  exact q
 ·rw[Wl (ne q fun _ z=>by cases z),q]
  simp
 ·by_cases hb:b=a
  ·subst hb
   rw[Uh] at e
   cases e
  ·rw[Wl hb] at e
   exact (I.hok b o' e).stay (fun _ _ _ q=>q) (fun c r=>by rw[Wl (ne r fun _ z=>by cases z)];exact r) fun c ys r=>by rw[Wl (ne r fun _ z=>by cases z)];exact r
end
section
variable {X:Cx}{C N T U fI:Addr}{nid iid:String}{mN mT:Str->Option Value}{x:Str}{p pos cpos:Pos}{e:Expr}{es:List Expr}{t:TA}{E:XK}{k:Nat}{fd:FuncData}{ps:List Str}{sp:Sp}{oI:Obj}
theorem Zbd (hc:X.calm=true)(c:PyX.WF X.base C N T U nid mN mT)(hi:mN "__init__"=some (.ref fI))(hf:X.base.get? fI=some oI)(hfc:oI.cls=.type "function")(F:ExcBaseFacts "ValueError" nid iid PyX.VE)
  (G:ZY X.prog X.w X.K X.mg X.base Yv k fI fd ps sp) (hr:Yb (k+1) X.A) (hb:Binds X.K fd ps [])
  (hg:Gl X x) (hm:X.mg x=some (.ref C)) (kp:PySem.W.keepIn X.K (.ref C)=true) (ha:PA X (e::es) t) (hx:Zan X E)
  (hdb:(x == ("__debug__":Str))=false:=by decide) (he:starEach (e::es) X.env=(false,eval e X.env)::starEach es X.env:=by rfl) (hpl:(backTo cpos (starEach es X.env)).any (·.1)=false:=by rfl) :
  PS X (.Raise (some (.Call (.Name x p) (e::es) [] cpos)) none pos) (fun D σ H=>t σ H fun vs H1=>vs.length<=sizeLine/\∀a,H1 a=none->
   sp (.ref a::vs) (upd H1 a (VF a C none)) (fun v H2=>v=.non/\∃d,H2 a=some (VF a C d)/\E (.ref C) d (del H2 a)) fun _ _ _=>False):=by
 intro pins s σ H D I h
 rw[arm_exec_Raise]
 refine Zl (wpAny_standAt (PyX.Zct (I.ok.hd hc) ?_))
 refine Zl (wpAny_mono (wpAny_Call_Name_kw (WA I hg hm ?_ hdb)) (fun v s3 h3=>Zl (wpAny_standAt (Zm h3))) fun _ _ z=>z)
 refine PySem.W.callWith_K (h₀:=X.base) I.ok.mod.kin kp (ZT (ha cpos pins s σ H _ I h) fun us s1 ⟨vs,H1,I1,r,hl,q⟩=>⟨I1.kIn,?_⟩) he hpl
 have c1:=c.keeps I1.bk
 have hl':us.length<=sizeLine:=by
  rw[<-r.length]
  exact hl
 obtain⟨h1,g1,d1,t1,o1⟩:=s1
 refine PyX.Zaj F c1.tail c1.c.ex c1.nsC hi (I1.bk _ _ hf) hfc (fun h' a mk hz=>?_) hl'
 have J:Inv X pins σ H1 ⟨h',g1,d1,t1,o1⟩:=I1.kept (t':=t1) mk.keeps
 obtain⟨ta,ho,_,_⟩:=mk.there
 have lo:=I1.loose hz (I1.hok.fresh hz)
 have J2:Inv X pins σ (upd H1 a (VF a C none)) ⟨h',g1,d1,t1,o1⟩:=J.trackO (ob:={cls:=.none,data:=.fields #[]}) (Zc6 ho rfl) lo
 have hq:=q a lo.2.1
 have r2:ZC (V.ref a::vs) (Value.ref a::us):=.cons rfl r
 have hlen:(Value.ref a::us++[]).length=ps.length:=by
  have e1:=r2.length
  rw[G.len _ _ _ _ hq] at e1
  rw[List.append_nil]
  exact e1.symm
 have bb:=hb ⟨h',g1,d1,t1,o1⟩ (Value.ref a::us) J2.kIn hlen
 rw[List.append_nil] at bb
 refine wpAny_call (codeAny_mono (G.run _ X.stack _ _ ⟨Value.ref a::us,[]⟩ (Value.ref a::us) _ _ _ (hr.make C us []) (J2.env0.make C us []) bb r2 hq) fun res s' hq'=>?_)
 cases res with
 |error z=>exact False.elim hq'
 |ok fl=>
  cases fl with
  |ret u=>
   obtain⟨v,H2,I3,rv,ev,d,h2,q3⟩:=J2.after hq'
   subst ev
   obtain⟨⟨ws,he3,hv3⟩,_,_⟩:=I3.hok a _ h2
   have I4:=I3.untrack h2 lo.1 lo.2.2.1 lo.2.2.2.1 lo.2.2.2.2
   exact⟨rv,a,C,N,_,nid,d,ws,rfl,(c.keeps I3.bk).c.ex,rfl,he3,hv3,hx pins σ _ s' a C d I4 ⟨ws,he3,hv3⟩ ⟨lo.1,Uh,lo.2.2⟩ q3⟩
  |next=>exact False.elim hq'
  |brk=>exact False.elim hq'
  |cont=>exact False.elim hq'
end
section
variable {X:Cx}{f:Str}{e:Expr}{ta:TE}{pos:Pos}
structure NoR (mN mT:Str->Option Value)(f:Str):Prop where
 a:mN f=none
 b:mT f=none
 c:typeLookup (.type "ValueError") f=pure none
 d:mN "__getattribute__"=none
 e:mT "__getattribute__"=none
 g:mN "__getattr__"=none
 h:mT "__getattr__"=none
def tXf (X:Cx)(ta:TE)(f:Str):TE:=fun σ H Q=>ta σ H fun x H1=>∃a C dx fs y N T U nid mN mT,x=.ref a/\H1 a=some (XZ a C (some dx))/\H1 dx=some (exD dx fs)/\dx≠a/\
 PyX.WF X.base C N T U nid mN mT/\NoR mN mT f/\fs.lookup f=some y/\Q y H1
theorem Zgj (he:PE X e ta)(hb:attributeBase e f X.env (eval e X.env)=eval e X.env):PE X (.Attribute e f pos) (tXf X ta f):=by
 intro pins s σ H Q I h
 refine Zei hb (ZT (he pins s σ H _ I h) fun u s1 ⟨x,H1,I1,rx,a,C,dx,fs,y,N,T,U,nid,mN,mT,ex,ea,ed,ne,c,n,l,q⟩=>?_)
 subst ex
 obtain rfl:u=Value.ref a:=rx
 obtain⟨⟨vs,ho⟩,_,_⟩:=I1.hok a _ ea
 obtain⟨⟨mA,ns,r,wi⟩,_,_⟩:=I1.hok dx _ ed
 have rf:=r f
 rw[l] at rf
 cases hv:mA f with
 |none=>
  rw[hv] at rf
  exact False.elim rf
 |some w0=>
  rw[hv] at rf
  have rw0:RelV y w0:=rf
  obtain⟨h1,g1,d1,t1,o1⟩:=s1
  refine PyX.ZcS (c.keeps I1.bk) n.a n.b n.c n.d n.e n.g n.h ⟨_,ho,rfl,fun c z=>(by cases z),.inr ⟨dx,rfl,ne,ns⟩⟩ hv (PySem.W.handedOut_of (ZbD rw0)) ?_
  exact⟨y,H1,I1.tok _,rw0,q⟩
end
end L2
namespace PyX
open PySem
theorem Zdw:typeLookup (.type "ValueError") "__class__"=pure (some (.builtin "object.__class__")):=by
 rw[typeLookup_type,builtinLookup_eq_fast]
 kernel_rfl
section
variable {prog:Program}{w:World}{h:Heap}{C N T U x:Addr}{nid:String}{mN mT:Str->Option Value}{o:Obj}
variable {A:Around}{E:Value->Shared->Prop}{gs:Array GenState}{dr:Drawn}{tk:Nat}{os:OsState}
theorem Zdg {R:Result->Shared->Prop}(c:WF h C N T U nid mN mT)(hx:h.get? x=some o)(hc:o.cls=.ref C)(hq:R (.ok (.ret (.ref C))) ⟨h,gs,dr,tk,os⟩) :
    codeAny (model prog w) A (.call (.builtin "getset_descriptor.__get__") ⟨[.builtin "object.__class__",.ref x,.ref C],[]⟩) R ⟨h,gs,dr,tk,os⟩:=by
  obtain⟨nm,q,bs,sn,sb,ab,cl,dd,k0,k1,k2,k3,k5,hC⟩:=c.c
  have h5:(⟨h,gs,dr,tk,os⟩:Shared).TypeIs (.builtin "object.__class__") "getset_descriptor":=F.typeOf_object_class
  have hO:(Value.ref C::Value.ref T::VE).contains (.type (".".intercalate ("object.__class__".cutAt '.').dropLast))=true:=by
    rw[F.owner_object_class,List.contains_cons,List.contains_cons,SF.hasOwner,Bool.or_true,Bool.or_true]
  refine codeAny_call_builtin F.slot_gs_get.plain F.entry_gs_get (F.slot_gs_get.check _ _ _ _ _ _ _ _ h5 (F.args_gs_get _ _ _) ?_)
  repeat (any_goals (first
    |assumption
    | (with_reducible refine wpAny_loadPart_at hx ?_
       rw[hc])
    | (with_reducible refine wpAny_isSubtype_exc hC ?_
       rw[hO])
    |wp_step))
  refine⟨Code.quiet_builtin _ (by decide +kernel),codeAny_builtin F.entry_object_class ?_⟩
  repeat (any_goals (first
    |assumption
    | (with_reducible refine wpAny_loadPart_at hx ?_
       rw[hc])
    |wp_step))
theorem Zah {kt:Tok}{Q:Fin->Shared->Prop}(c:WF h C N T U nid mN mT)(h1:mN "__class__"=none)(h2:mT "__class__"=none)(hx:h.get? x=some o)(hc:o.cls=.ref C)
    (hq:Q (.done (.ret (.ref C))) ⟨h,gs,dr,tk,os⟩) :
    wpAny (model prog w) A (Builtin.«object.__getattribute__» ⟨[.ref x,.str "__class__" kt],[]⟩) Q E ⟨h,gs,dr,tk,os⟩:=by
  have h5:(⟨h,gs,dr,tk,os⟩:Shared).TypeIs (.builtin "object.__class__") "getset_descriptor":=F.typeOf_object_class
  have f5:=F.typeOf_object_class
  have f6:=F.slot_gs_get.lookup
  have f7:=F.slot_gs_set.lookup
  repeat (any_goals (first
    |assumption
    | (with_reducible refine wpAny_loadPart_at hx ?_
       rw[hc])
    |with_reducible refine c.lookB Zdw h1 h2 ?_
    |wp_step))
  refine Zdg c hx hc ?_
  repeat (any_goals (first
    |assumption
    |wp_step))
theorem ZbL {Q:Option Value->Shared->Prop}(c:WF h C N T U nid mN mT)(h1:mN "__class__"=none)(h2:mT "__class__"=none)
    (h3:mN "__getattribute__"=none) (h4:mT "__getattribute__"=none) (h5:mN "__getattr__"=none) (h6:mT "__getattr__"=none)
    (hx:h.get? x=some o) (hc:o.cls=.ref C) (hq:Q (some (.ref C)) ⟨h,gs,dr,tk+1,os⟩) :
    wpAny (model prog w) A (getAttr? (.ref x) "__class__") Q E ⟨h,gs,dr,tk,os⟩:=by
  have f3:=F.attr_ValueError.ga.bind (.ref x)
  have e2:(Value.builtin "BaseException.__getattribute__" == Value.builtin "object.__getattribute__")=false:=by
    decide +kernel
  have e1:(onTheHeap (Value.ref C) && Value.builtin "BaseException.__getattribute__" == Value.builtin "object.__getattribute__")=false:=by
    rw[e2]
    rfl
  unfold getAttr? getAttrBy? getAttrBy
  repeat (any_goals (first
    |assumption
    | (with_reducible refine wpAny_loadPart_at hx ?_
       rw[hc])
    |with_reducible refine c.lookB F.attr_ValueError.ga.lookup h3 h4 ?_
    |with_reducible refine c.lookB F.attrBase_ValueError.noGetattr h5 h6 ?_
    |wp_step))
  refine codeAny_call_builtin F.attr_ValueError.ga.plain F.entry_bexc_ga (Za0 c hx hc (Zah c h1 h2 hx hc ?_))
  repeat (any_goals (first
    |assumption
    |wp_step))
end
end PyX
namespace L2
open PySem PySem.Spec PyProof.Rows
structure NoC (mN mT:Str->Option Value):Prop where
 a:mN "__class__"=none
 b:mT "__class__"=none
 d:mN "__getattribute__"=none
 e:mT "__getattribute__"=none
 g:mN "__getattr__"=none
 h:mT "__getattr__"=none
theorem ZaL {K:PySem.W.Frag}{x C N T U:Addr}{nid:String}{mN mT:Str->Option Value}{cd:ClassData}(hk:PySem.W.clsIn K C=some cd)(n:NoC mN mT) :
  PySem.W.KitX K (.ref x) (.ref C) (fun h=>PyX.WF h C N T U nid mN mT/\∃o,h.get? x=some o/\o.cls=.ref C) where
 ty:=fun M h _ ⟨_,o,e,c⟩=>by
  intro A Q E s k q
  unfold typeOf
  refine Zl (wpAny_loadPart (k _ _ e) (Zm ?_))
  rw[c]
  exact q
 it:=fun M h X _=>by
  unfold PySem.W.clsIn at hk
  split at hk
  ·rename_i c' d' cd' sl' ho
   intro A' Q' E' s' k q
   unfold isType loadHead
   exact Zl (wpAny_loadPart (k _ _ (X _ _ ho)) (Zm q))
  ·cases hk
 ne:=fun h tp dd its m sl X htp=>by
  refine Bool.eq_false_iff.mpr fun q=>?_
  have e:C=tp:=Value.ref.inj (beq_iff_eq.mp q)
  subst e
  unfold PySem.W.clsIn at hk
  split at hk
  ·rename_i c' d' cd' sl' ho
   have z:=(X _ _ ho).symm.trans htp
   cases z
  ·cases hk
 ca:=fun {prog w A E Q s} X ⟨c,o,e,cc⟩ k=>by
  obtain⟨h,g,d,t,os⟩:=s
  exact PyX.ZbL c n.a n.b n.d n.e n.g n.h e cc k
section
variable {X:Cx}{C N T U:Addr}{nid:String}{mN mT:Str->Option Value}{cd:ClassData}
theorem Ur:ZR X (.builtin "isinstance") (fun xs H Q=>∃a C d N T U nid mN mT cd c b,xs=[.ref a,c]/\H a=some (XZ a C d)/\PySem.W.clsIn X.K C=some cd/\NoC mN mT/\PyX.WF X.base C N T U nid mN mT/\
  (∀cv,RelV c cv->PySem.W.kitOne X.K (.ref C) cv=some b)/\Q (.bl b) H):=by
 intro pins s σ H xs us Q I r h
 obtain⟨a,C,d,N,T,U,nid,mN,mT,cd,c,b,rfl,ha,hk,n,two,e,q⟩:=h
 cases r with
 |cons r1 r=>
  cases r with
  |cons r2 r=>
   cases r
   cases (show _=Value.ref a from r1)
   obtain⟨⟨vs,ho⟩,_,_⟩:=I.hok a _ ha
   exact PySem.W.kia_one (ZaL hk n) I.kIn ⟨two.keeps I.bk,_,ho,rfl⟩ (e _ r2) (fun z=>nomatch z) fun tk=>⟨.bl b,H,I.tok _,rfl,q⟩
theorem ZbR:ZR X (.builtin "isinstance") (fun xs H Q=>∃a C d N T U nid mN mT cd tp cs b,xs=[.ref a,.ref tp]/\H a=some (XZ a C d)/\H tp=some (.tup cs)/\PySem.W.clsIn X.K C=some cd/\NoC mN mT/\PyX.WF X.base C N T U nid mN mT/\
  (∀its,ZC cs its->PySem.W.kitAny X.K (.ref C) its=some b)/\Q (.bl b) H):=by
 intro pins s σ H xs us Q I r h
 obtain⟨a,C,d,N,T,U,nid,mN,mT,cd,tp,cs,b,rfl,ha,ht,hk,n,two,e,q⟩:=h
 cases r with
 |cons r1 r=>
  cases r with
  |cons r2 r=>
   cases r
   cases (show _=Value.ref a from r1)
   cases (show _=Value.ref tp from r2)
   obtain⟨⟨vs,ho⟩,_,_⟩:=I.hok a _ ha
   obtain⟨_,its,rv,o,h1,h2,m,h3⟩:=I.hok tp _ ht
   obtain⟨oc,od,odt,osl⟩:=o
   cases h2
   cases h3
   exact PySem.W.kia_tup (ZaL hk n) I.kIn ⟨two.keeps I.bk,_,ho,rfl⟩ h1 (e _ rv) (fun z=>nomatch z) fun tk=>⟨.bl b,H,I.tok _,rfl,q⟩
end
def Ym (es:Array DictEntry):Bool:=es.toList.all fun e=>match e.key with | .str _ _=>true|_=>false
theorem UG {es:Array DictEntry}(h:Ym es=true):StrKeys es:=by
 intro e he
 unfold Ym at h
 have:=List.all_eq_true.mp h e (Array.mem_toList_iff.mpr he)
 split at this
 ·rename_i n t q;exact⟨n,t,q⟩
 ·cases this
def Wi (es:Array DictEntry)(ns:List Str):Bool:=ns.all fun n=>(nsFind es n).isNone
theorem ZI {es:Array DictEntry}{ns:List Str}(h:Wi es ns=true){n:Str}(hn:n∈ns):nsFind es n=none:=by
 have:=List.all_eq_true.mp h n hn
 exact Option.isNone_iff_eq_none.mp this
structure Z5 (K:PySem.W.Frag)(x:Str)(C N:Addr)(bm:List Value)(es:Array DictEntry):Prop where
 at_:PySem.W.nsIn K mainGlobals x=some (some (.ref C))
 ob:∃nm q bs sn sb ab cl dd k0 k1 k2 k3 k5,K.lookup C=some (excClassObj nm q C N bs bm true sn sb ab cl dd k0 k1 k2 k3 k5 PyX.YE)
 ns:∃c d ep sl,K.lookup N=some ⟨c,d,.dict es ep,sl⟩
 kp:PySem.W.keepIn K (.ref C)=true
 sk:Ym es=true
theorem Z5.mk' {K:PySem.W.Frag}{x:Str}{C N:Addr}{bm:List Value}{es:Array DictEntry}{nm q:Str}{bs:List Value}{sn:List Str}{sb:List Value}{ab:Bool}{cl:Option Bool}{dd:Option Addr}{k0 k1 k2 k3 k5:Option Value}{c:Value}{d:Option Addr}{ep:Nat}{sl:Array (Option Value)}
  (a:PySem.W.nsIn K mainGlobals x=some (some (.ref C))) (l:K.lookup C=some (excClassObj nm q C N bs bm true sn sb ab cl dd k0 k1 k2 k3 k5 PyX.YE)) (n:K.lookup N=some ⟨c,d,.dict es ep,sl⟩) (kp:PySem.W.keepIn K (.ref C)=true) (sk:Ym es=true):Z5 K x C N bm es:=
 ⟨a,⟨nm,q,bs,sn,sb,ab,cl,dd,k0,k1,k2,k3,k5,l⟩,⟨c,d,ep,sl,n⟩,kp,sk⟩
section
variable {K:PySem.W.Frag}{x y:Str}{C N T U D M:Addr}{bm:List Value}{es et ez:Array DictEntry}{h:Heap}{mg:Str->Option Value}
theorem Z5.ed (e:Z5 K x C N bm es)(X:K.In h):PyX.Uw h C N bm PyX.YE:=by
 obtain⟨nm,q,bs,sn,sb,ab,cl,dd,k0,k1,k2,k3,k5,l⟩:=e.ob
 exact⟨nm,q,bs,sn,sb,ab,cl,dd,k0,k1,k2,k3,k5,X _ _ l⟩
theorem Z5.nsx (e:Z5 K x C N bm es)(X:K.In h):h.Ns N (nsFind es):=by
 obtain⟨c,d,ep,sl,l⟩:=e.ns
 exact⟨_,es,ep,X _ _ l,rfl,UG e.sk,fun _=>rfl⟩
theorem Z5.cls (e:Z5 K x C N bm es):∃cd:ClassData,PySem.W.clsIn K C=some cd/\cd.mro=.ref C::bm:=by
 obtain⟨nm,q,bs,sn,sb,ab,cl,dd,k0,k1,k2,k3,k5,l⟩:=e.ob
 have q:PySem.W.clsIn K C=some {name:=nm,bases:=bs,mro:=.ref C::bm,ns:=N,qualname:=q,hasDict:=true,slotNames:=sn,subclasses:=sb,abstract:=ab,collection:=cl,hasDel:=false}:=by
  unfold PySem.W.clsIn
  rw[l]
 exact⟨_,q,rfl⟩
theorem Z5.ty (e:Z5 K x C N bm es):PySem.W.typeIn K (.ref C)=some (.type "type"):=by
 obtain⟨nm,q,bs,sn,sb,ab,cl,dd,k0,k1,k2,k3,k5,l⟩:=e.ob
 show (K.lookup C).map (·.cls)=_
 rw[l]
 rfl
theorem Z5.sub (e:Z5 K x C N bm es)(v:Value):PySem.W.subIn K (.ref C) v=some ((Value.ref C::bm).contains v):=by
 obtain⟨cd,h1,h2⟩:=e.cls
 show PySem.W.mroIn K C v=_
 unfold PySem.W.mroIn
 rw[h1]
 show (if cd.mro.isEmpty=true then none else some (cd.mro.contains v))=_
 rw[h2]
 rfl
theorem Z5.kitR (e:Z5 K x C N bm es){bm':List Value}(f:Z5 K y D M bm' ez):PySem.W.kitOne K (.ref C) (.ref D)=some ((Value.ref C::bm).contains (.ref D)):=by
 unfold PySem.W.kitOne
 by_cases q:(Value.ref C == Value.ref D)=true
 ·rw[if_pos q]
  have:C=D:=Value.ref.inj (beq_iff_eq.mp q)
  subst this
  simp[List.contains_cons]
 ·rw[if_neg q]
  obtain⟨cd,h1,_⟩:=f.cls
  show (if ((PySem.W.clsIn K D).isSome && PySem.W.typeIn K (.ref D) == some (.type "type"))=true then PySem.W.subIn K (.ref C) (.ref D) else none)=_
  rw[if_pos,e.sub]
  rw[h1,f.ty]
  rfl
theorem Zbw:PySem.W.kitMeta "ValueError"=true:=by kernel_rfl
theorem Z5.kitV (e:Z5 K x C N (.ref T::PyX.VE) es):PySem.W.kitOne K (.ref C) (.type "ValueError")=some true:=by
 unfold PySem.W.kitOne
 rw[if_neg (by simp)]
 show (if PySem.W.kitMeta "ValueError"=true then PySem.W.subIn K (.ref C) (.type "ValueError") else none)=_
 rw[if_pos Zbw,e.sub]
 rfl
theorem Z5.two (e:Z5 K x C N (.ref T::PyX.VE) es)(t:Z5 K y T U PyX.VE et)(i:nsFind et "__init__"=none)(X:K.In h):PyX.WF h C N T U PyX.YE (nsFind es) (nsFind et):=
 ⟨e.ed X,t.ed X,e.nsx X,t.nsx X,i⟩
end
def ZH:List Str:=["__setattr__", "__class__", "__getattribute__", "__getattr__"]
def Z3:List Str:=["word", "thing", "number", "row", "name"]
def ZgB:List Str->Bool:=fun l=>l.all fun n=>match fastLookup "ValueError" n with|some none=>true|_=>false
theorem ZaQ {f:Str}(hf:f∈Z3):typeLookup (.type "ValueError") f=pure none:=by
 have h:ZgB Z3=true:=by kernel_rfl
 have:=List.all_eq_true.mp h f hf
 rw[typeLookup_type,builtinLookup_eq_fast]
 split at this
 ·rename_i q;rw[q]
 ·cases this
structure Ec where
 C:Addr
 N:Addr
 es:Array DictEntry
structure Yq (K:PySem.W.Frag)(x:Str)(T U:Addr)(et:Array DictEntry)(e:Ec):Prop where
 c:Z5 K x e.C e.N (.ref T::PyX.VE) e.es
 no:Wi e.es (ZH++Z3)=true
structure Vz (K:PySem.W.Frag)(T U:Addr)(et:Array DictEntry):Prop where
 t:Z5 K "TableError" T U PyX.VE et
 no:Wi et ("__init__" :: (ZH++Z3))=true
section
variable {K:PySem.W.Frag}{x:Str}{T U:Addr}{et:Array DictEntry}{e:Ec}{f:Str}{h:Heap}
theorem Yq.two (E:Yq K x T U et e)(B:Vz K T U et)(X:K.In h):PyX.WF h e.C e.N T U PyX.YE (nsFind e.es) (nsFind et):=E.c.two B.t (ZI B.no (by simp)) X
theorem Yq.noN (E:Yq K x T U et e)(B:Vz K T U et)(hf:f∈Z3):NoN (nsFind e.es) (nsFind et) f:=
 ⟨ZI E.no (List.mem_append_right _ hf),ZI B.no (List.mem_cons_of_mem _ (List.mem_append_right _ hf)),ZaQ hf,ZI E.no (by simp[ZH]),ZI B.no (by simp[ZH])⟩
theorem Yq.noR (E:Yq K x T U et e)(B:Vz K T U et)(hf:f∈Z3):NoR (nsFind e.es) (nsFind et) f:=
 ⟨ZI E.no (List.mem_append_right _ hf),ZI B.no (List.mem_cons_of_mem _ (List.mem_append_right _ hf)),ZaQ hf,ZI E.no (by simp[ZH]),ZI B.no (by simp[ZH]),ZI E.no (by simp[ZH]),ZI B.no (by simp[ZH])⟩
theorem Yq.noC (E:Yq K x T U et e)(B:Vz K T U et):NoC (nsFind e.es) (nsFind et):=
 ⟨ZI E.no (by simp[ZH]),ZI B.no (by simp[ZH]),ZI E.no (by simp[ZH]),ZI B.no (by simp[ZH]),ZI E.no (by simp[ZH]),ZI B.no (by simp[ZH])⟩
end
def X9 (C:Addr)(f:Str):Sp:=fun vs H Q _=>∃(a:Addr) (y:V),vs=[.ref a,y]/\H a=some (VF a C none)/\∀dx,H dx=none->dx≠a->Q .non (upd (upd H a (VF a C (some dx))) dx (exD dx [(f,y)]))
section
variable {P:Program}{w:World}{K:PySem.W.Frag}{mg:Str->Option Value}{base:Heap}{C N T U:Addr}{mN mT:Str->Option Value}{qual:Str}{st:Stmt}{fI:Addr}{fd:FuncData}{f g u v:Str}
theorem ZdT {p1 p2 p3 p4:Pos}(F:W8 K "__init__" qual st fI fd)(c:PyX.WF base C N T U PyX.YE mN mT)(n1:NoN mN mT f)(hS:W9 ["self",u] ["self",u] (ZB st))
  (hb:ZL st=[.Assign [.Attribute (.Name "self" p1) f p2] (.Name u p3) p4]) (v0:V5 (ZB st) "self"=true) (v1:V5 (ZB st) u=true) (d1:(u == ("__debug__":Str))=false) (d2:(u == ("__classdict__":Str))=false) :
  ZY P w K mg base Yv 1 fI fd ["self",u] (X9 C f):=by
 refine F.ok hS (fun vs H Q E h=>?_) (fun cdv A outer s H vs Q E hr h=>?_)
 ·obtain⟨a,y,rfl,_⟩:=h;rfl
 ·obtain⟨a,y,rfl,ha,k⟩:=h
  rw[hb]
  refine⟨_,Zy (Zgi c n1 (vn 0 rfl v0) (vn 1 rfl v1 d1 d2) rfl),?_⟩
  exact⟨_,rfl,_,rfl,a,rfl,ha,fun dx h1 h2=>k dx h1 h2⟩
end
def Zdp (P:Program)(w:World)(K:PySem.W.Frag)(mg:Str->Option Value)(base:Heap)(e:Ec)(ps:List Str)(sp:Sp):Prop:=
 ∃fI oI fd,nsFind e.es "__init__"=some (.ref fI)/\base.get? fI=some oI/\oI.cls=.type "function"/\ZY P w K mg base Yv 1 fI fd ps sp/\Binds K fd ps []
def Ux (K:PySem.W.Frag)(e:Ec)(qual:Str)(st:Stmt):Prop:=
 ∃(f:Addr) (od an:Option Addr) (osl:Array (Option Value)) (kV doc pm cdv ct:Value),nsFind e.es "__init__"=some (.ref f)/\
  K.lookup f=some ⟨.type "function",od,.func (PySem.W.fnOf "__init__" qual (Z0 st) (ZL st) (ZB st) .none kV doc pm an cdv ct),osl⟩/\PySem.W.codeIn K cdv qual=true/\PySem.W.keepIn K (.ref f)=true
theorem Ux.mk {K:PySem.W.Frag}{e:Ec}{qual:Str}{st:Stmt}{f:Addr}{od an:Option Addr}{osl:Array (Option Value)}{kV doc pm cdv ct:Value}(a:nsFind e.es "__init__"=some (.ref f))
  (l:K.lookup f=some ⟨.type "function",od,.func (PySem.W.fnOf "__init__" qual (Z0 st) (ZL st) (ZB st) .none kV doc pm an cdv ct),osl⟩) (c:PySem.W.codeIn K cdv qual=true) (k:PySem.W.keepIn K (.ref f)=true):Ux K e qual st:=
 ⟨f,od,an,osl,kV,doc,pm,cdv,ct,a,l,c,k⟩
theorem Ux.ok {P:Program}{w:World}{K:PySem.W.Frag}{mg:Str->Option Value}{base:Heap}{e:Ec}{qual:Str}{st:Stmt}{ps:List Str}{sp:Sp}(I:Ux K e qual st)(X:K.In base)
  (hok:∀f fd,W8 K "__init__" qual st f fd->ZY P w K mg base Yv 1 f fd ps sp)
  (hb:∀(kV doc pm:Value) (an:Option Addr) (cdv ct:Value) (us:List Value),us.length=ps.length->bindArgs (PySem.W.fnOf "__init__" qual (Z0 st) (ZL st) (ZB st) .none kV doc pm an cdv ct) ⟨us,[]⟩=pure (ps.zip us)) :
  Zdp P w K mg base e ps sp:=by
 obtain⟨f,od,an,osl,kV,doc,pm,cdv,ct,a,l,c,k⟩:=I
 exact⟨f,_,_,a,X _ _ l,rfl,hok f _ (Xh l c k),(Xh l c k).binds hb⟩
end L2
namespace C9
open PySem L2 PySem.Spec PyProof.Rows
def top (i:Nat):Stmt:=PySem.Challenge.pw_classtab_k09_groups_made_by_perms.main.body.getD i (.Pass ⟨0,0,0,0⟩)
abbrev Zey:Stmt:=top 29
abbrev Zez:Stmt:=top 30
structure Z1 (H:Hp)(p q:Addr)(ns:List Int)(i j k:Int):Prop where
 hp:H p=some (.lst [.ref q,.int i,.int j,.int k])
 hq:H q=some (.lst (ns.map V.int))
 hn:ns.length<=63
 hi:0<=i
 hj:0<=j
 hk:0<=k
def YD (H:Hp)(p:Addr):Prop:=∃q ns i j k,Z1 H p q ns i j k
theorem Z1.ne {H:Hp}{p q:Addr}{ns:List Int}{i j k:Int}(F:Z1 H p q ns i j k):q≠p:=fun e=>by
 have h1:=F.hp
 have h2:=F.hq
 rw[e,h1] at h2
 cases ns with
 |nil=>simp at h2
 |cons n r=>simp at h2
theorem Z1.upd {H:Hp}{p q:Addr}{ns:List Int}{i j k i' j' k':Int}(F:Z1 H p q ns i j k)(h1:0<=i')(h2:0<=j')(h3:0<=k'):Z1 (upd H p (.lst [.ref q,.int i',.int j',.int k'])) p q ns i' j' k':=
 ⟨Zs,by rw[Zw F.ne];exact F.hq,F.hn,h1,h2,h3⟩
theorem Z1.mono {H H':Hp}{p q:Addr}{ns:List Int}{i j k:Int}(s:Zv H H')(F:Z1 H p q ns i j k):Z1 H' p q ns i j k:=⟨s _ _ F.hp,s _ _ F.hq,F.hn,F.hi,F.hj,F.hk⟩
theorem V9:∀{ns ms:List Int},ns.map V.int=ms.map V.int->ns=ms
 | [],[],_=>rfl
 | [],_::_,h=>by cases h
 |_::_,[],h=>by cases h
 |n::r,m::t,h=>by
  simp only[List.map_cons,List.cons.injEq,V.int.injEq] at h
  rw[h.1,V9 h.2]
theorem Z1.uniq {H:Hp}{p q q':Addr}{ns ns':List Int}{i j k i' j' k':Int}(F:Z1 H p q ns i j k)(G:Z1 H p q' ns' i' j' k'):q'=q/\ns'=ns:=by
 have h1:=F.hp.symm.trans G.hp
 simp only[Option.some.injEq,HO.lst.injEq,List.cons.injEq,V.ref.injEq] at h1
 have e:q'=q:=h1.1.symm
 subst e
 have h2:=F.hq.symm.trans G.hq
 simp only[Option.some.injEq,HO.lst.injEq] at h2
 exact⟨rfl,(V9 h2).symm⟩
structure Dr (p:Addr)(H H':Hp):Prop where
 keep:∀b o,H b=some o->b≠p->H' b=some o
 at_:∀q ns i j k,Z1 H p q ns i j k->∃i' j' k',Z1 H' p q ns i' j' k'
theorem Dr.feed {p:Addr}{H H':Hp}(d:Dr p H H')(F:YD H p):YD H' p:=by
 obtain⟨q,ns,i,j,k,F⟩:=F
 obtain⟨i',j',k',F'⟩:=d.at_ q ns i j k F
 exact⟨q,ns,i',j',k',F'⟩
structure Bl (mg:Str->Option Value):Prop where
 list:mg "list"=none
 len:mg "len"=none
 abs:mg "abs"=none
 range:mg "range"=none
 tuple:mg "tuple"=none
 isi:mg "isinstance"=none
 all:mg "all"=none
 set:mg "set"=none
 repr:mg "repr"=none
 int:mg "int"=none
 bool:mg "bool"=none
def Zcd (K:PySem.W.Frag):Sp:=fun vs H Q _=>∃(a:Addr) (ns:List Int),vs=[.ref a]/\Wa K H a (ns.map V.int)/\∀p H',Zv H H'->H p=none->YD H' p->Q (.ref p) H'
def Va:Sp:=fun vs H Q _=>∃(p:Addr) (m:Int),vs=[.ref p,.int m]/\YD H p/\0<m/\m.natAbs.log2<9000/\∀r H',0<=r->r<m->Dr p H H'->Q (.int r) H'
section
variable {P:Program}{w:World}{K:PySem.W.Frag}{mg:Str->Option Value}{base:Heap}
theorem Zdd (ns:List Int)(lo hi:Option Int):∃ms:List Int,Y1 (ns.map V.int) lo hi=ms.map V.int/\(∀k:Nat,hi=some (k:Int)->ms.length<=k):=by
 refine⟨(ns.drop (HT.XL ns.length 0 lo)).take (HT.XL ns.length ns.length hi-HT.XL ns.length 0 lo),?_,fun k e=>?_⟩
 ·unfold Y1;rw[Za,List.map_take,List.map_drop]
 ·subst e
  rw[List.length_take,HT.Vg];omega
theorem ZdU {f:Addr}{fd:FuncData}(F:W8 K "_law_feed" "_law_feed" Zey f fd)(T:Bl mg):ZY P w K mg base Yv 1 f fd ["_law_script"] (Zcd K):=by
 refine F.ok (FS (N:=["_law_script"])) (fun vs H Q E h=>?_) (fun cdv A outer s H vs Q E hr h=>?_)
 ·obtain⟨a,ns,rfl,_⟩:=h;rfl
 ·obtain⟨a,ns,rfl,hS,k⟩:=h
  refine⟨_,Zy (ZP (YM (pc (ct Vv T.list (pc (W0 JF (vn 0) JI (JH Zu)) Zt)) (pc Zu (pc Zu (pc Zu Zt)))))),?_⟩
  refine⟨_,rfl,_,rfl,a,_,rfl,hS,fun p1 h1=>⟨p1,_,rfl,.inl (.of Zs),fun q hq=>⟨by show 4<=sizeLine;decide,fun p hp=>?_⟩⟩⟩
  obtain⟨ms,e,hl⟩:=Zdd ns none (some 63)
  rw[e] at hp ⊢
  have s1:Zv H (upd H p1 (.lst (ms.map V.int))):=Zv.upd h1
  have s2:=s1.trans (Zv.upd (o:=.lst (ms.map V.int)) (e▸hq))
  have s3:=s2.trans (Zv.upd (o:=.lst [.ref q,.int 0,.int 0,.int 0]) hp)
  refine k p _ s3 (s2.free hp) ⟨q,ms,0,0,0,Zs,?_,hl 63 rfl,by decide,by decide,by decide⟩
  have nq:q≠p:=fun z=>by rw[<-z,Zs] at hp;cases hp
  rw[Zw nq,Zs]
theorem ZdV {f:Addr}{fd:FuncData}(F:W8 K "_law_draw" "_law_draw" Zez f fd)(T:Bl mg):ZY P w K mg base Yv 1 f fd ["_law_feed_here", "_law_many"] Va:=by
 refine F.ok (FS (N:=["_law_feed_here", "_law_many", "_law_found", "_law_cell", "_law_stirred"])) (fun vs H Q E h=>?_) (fun cdv A outer s H vs Q E hr h=>?_)
 ·obtain⟨p,m,rfl,_⟩:=h;rfl
 ·obtain⟨p,m,rfl,⟨q,ns,i,j,k0,F⟩,hm,hml,k⟩:=h
  refine⟨_,Zx (J4 (ZX YA (ZO ZK (vn 0) Zu (fun _ _=>rfl)) Zu) (Je (vn 0) Zu YT))
   (Zx (J3 PassesOwn.never (UT (ZF XQ (ZO ZK (vn 0) Zu (fun _ _=>rfl)) Zu (ZJ _)) (Vh (ZF XO (ZO ZK (vn 0) Zu (fun _ _=>rfl)) (cb ZQ T.len (pc (ZO ZK (vn 0) Zu (fun _ _=>rfl)) Zt)) (ZJ _)))).pt
    (Zx (Yn (ZF Zgk (cb Us T.abs (pc (ZO ZK (ZO ZK (vn 0) Zu (fun _ _=>rfl)) (ZO ZK (vn 0) Zu (fun _ _=>rfl)) (fun _ _=>rfl)) Zt)) (ZX Zfh Zu Zu) (ZJ _))
      (Zy (J4 (cb Us T.abs (pc (ZO ZK (ZO ZK (vn 0) Zu (fun _ _=>rfl)) (ZO ZK (vn 0) Zu (fun _ _=>rfl)) (fun _ _=>rfl)) Zt)) (Je (vn 0) Zu YT))) ZU)
     (Zy (J4 (ZX YA (ZO ZK (vn 0) Zu (fun _ _=>rfl)) Zu) (Je (vn 0) Zu YT)))))
   (Zx (Yn (ZF VS (ZO ZK (vn 0) Zu (fun _ _=>rfl)) Zu (ZJ _))
     (Zx (ZZ 2 rfl (ZX WK (ZO ZK (vn 0) Zu (fun _ _=>rfl)) (vn 1)))
      (Zx (J4 (ZX ZcL (ZO ZK (vn 0) Zu (fun _ _=>rfl)) (vn 1)) (Je (vn 0) Zu YT)) (Zy (ZP (vn 2))))) ZU)
   (Zx (ZZ 3 rfl Zu)
   (Zx (Yn (ZF VS (cb ZQ T.len (pc (ZO ZK (vn 0) Zu (fun _ _=>rfl)) Zt)) Zu (ZJ _))
     (Zy (ZZ 3 rfl (ZO ZK (ZO ZK (vn 0) Zu (fun _ _=>rfl)) (ZX WK (ZO ZK (vn 0) Zu (fun _ _=>rfl)) (cb ZQ T.len (pc (ZO ZK (vn 0) Zu (fun _ _=>rfl)) Zt))) (fun _ _=>rfl)))) ZU)
   (Zx (ZZ 4 rfl (ZX WK (ZX YA (ZX YA (ZX Vk (ZX WK (vn 3) Zu) Zu) (ZX Vk Zu (ZO ZK (vn 0) Zu (fun _ _=>rfl)))) Zu) Zu))
   (Zx (ZZ 4 rfl (ZX WK (ZX Vk (vn 4) (ZX YA (vn 4) Zu)) Zu))
   (Zy (ZP (ZX WK (ZX WK (ZX Vk (vn 4) Zu) Zu) (vn 1)))))))))),?_⟩
  refine⟨_,rfl,p,_,_,_,rfl,rfl,.of F.hp,rfl,_,_,rfl,rfl,_,rfl,p,_,_,_,rfl,rfl,F.hp,rfl,?_⟩
  have F1:Z1 (upd H p (.lst [.ref q,.int (i+1),.int j,.int k0])) p q ns (i+1) j k0:=F.upd (by have:=F.hi;omega) F.hj F.hk
  refine JO (fun n σ' H'=>∃i' j' k',σ'=[some (.ref p),some (.int m),none,none,none]/\Z1 H' p q ns i' j' k'/\(∀b,b≠p->H' b=H b)/\n=(63-k').toNat)
   (fun σ' H'=>∃i' j' k',σ'=[some (.ref p),some (.int m),none,none,none]/\Z1 H' p q ns i' j' k'/\(∀b,b≠p->H' b=H b)) ?hend ⟨_,_,_,_,rfl,F1,fun b hb=>Zw hb,rfl⟩ ?turn
  case turn=>
   rintro hend n σ' H' ⟨i',j',k',rfl,F',hb',rfl⟩
   refine⟨_,rfl,p,_,_,_,rfl,rfl,.of F'.hp,rfl,rfl,_,rfl,?_⟩
   refine Yh (fun hj=>?_) (fun hj=>?_)
   ·obtain⟨kn,rfl⟩:=Int.eq_ofNat_of_zero_le F'.hk
    refine⟨_,rfl,p,_,_,_,rfl,rfl,.of F'.hp,rfl,_,rfl,p,_,_,_,rfl,rfl,.of F'.hp,rfl,q,_,rfl,.inl (.of F'.hq),_,_,rfl,rfl,_,rfl,?_⟩
    refine Yh (fun hl=>?_) (fun hl=>hend _ _ ⟨i',j',_,rfl,F',hb'⟩)
    refine⟨_,fun _ _ z=>z,?_⟩
    have hl':kn<ns.length:=by
     have:=of_decide_eq_true hl
     rw[Za] at this;omega
    obtain⟨z,hz⟩:∃z,ns[kn]?=some z:=⟨_,Zf hl'⟩
    have hz':atI (ns.map V.int) (kn:Int)=some (.int z):=Z8 (by rw[Zc,hz];rfl)
    refine⟨_,rfl,p,_,_,_,rfl,rfl,.of F'.hp,rfl,_,rfl,p,_,_,_,rfl,rfl,.of F'.hp,rfl,q,_,_,_,rfl,rfl,.of F'.hq,hz',_,rfl,_,_,rfl,rfl,⟨by decide,by decide,by decide⟩,_,_,rfl,rfl,_,rfl,?_⟩
    have hn63:=F'.hn
    refine Yh (fun hg=>?_) (fun hg=>?_)
    ·refine⟨_,rfl,p,_,_,_,rfl,rfl,.of F'.hp,rfl,_,rfl,p,_,_,_,rfl,rfl,.of F'.hp,rfl,q,_,_,_,rfl,rfl,.of F'.hq,hz',_,rfl,_,rfl,p,_,_,_,rfl,rfl,F'.hp,rfl,?_⟩
     have F2:Z1 (upd H' p (.lst [.ref q,.int i',.int (if z<0 then -z else z),.int kn])) p q ns i' (if z<0 then -z else z) kn:=F'.upd F'.hi (by split <;> omega) F'.hk
     refine⟨_,rfl,p,_,_,_,rfl,rfl,.of F2.hp,rfl,_,_,rfl,rfl,_,rfl,p,_,_,_,rfl,rfl,F2.hp,rfl,?_⟩
     exact⟨(63-((kn:Int)+1)).toNat,by omega,i',_,(kn:Int)+1,rfl,F2.upd F'.hi (by split <;> omega) (by omega),fun b hb=>by rw[Zw hb,Zw hb];exact hb' b hb,rfl⟩
    ·refine⟨_,rfl,p,_,_,_,rfl,rfl,.of F'.hp,rfl,_,_,rfl,rfl,_,rfl,p,_,_,_,rfl,rfl,F'.hp,rfl,?_⟩
     exact⟨(63-((kn:Int)+1)).toNat,by omega,i',j',(kn:Int)+1,rfl,F'.upd F'.hi F'.hj (by omega),fun b hb=>by rw[Zw hb];exact hb' b hb,rfl⟩
   ·exact hend _ _ ⟨i',j',k',rfl,F',hb'⟩
  case hend=>
   rintro σ' H' ⟨i',j',k',rfl,F',hb'⟩
   have dr:∀{H2:Hp}{i2 j2 k2:Int},Z1 H2 p q ns i2 j2 k2->(∀b,b≠p->H2 b=H b)->Dr p H H2:=fun {H2 i2 j2 k2} F2 hb2=>⟨fun b o e hb=>by rw[hb2 b hb];exact e,fun q' ns' _ _ _ G=>by obtain⟨rfl,rfl⟩:=F.uniq G;exact⟨i2,j2,k2,F2⟩⟩
   refine⟨_,rfl,p,_,_,_,rfl,rfl,.of F'.hp,rfl,_,_,rfl,rfl,_,rfl,?_⟩
   refine Yh (fun hg=>?_) (fun hg=>?_)
   ·refine⟨_,rfl,p,_,_,_,rfl,rfl,.of F'.hp,rfl,_,rfl,_,_,rfl,rfl,hm,?_⟩
    refine⟨_,rfl,p,_,_,_,rfl,rfl,.of F'.hp,rfl,_,rfl,_,_,rfl,rfl,⟨hm,hml⟩,_,rfl,p,_,_,_,rfl,rfl,F'.hp,rfl,_,rfl,?_⟩
    have F2:=F'.upd (i':=i') (j':=j' / m) (k':=k') F'.hi (Int.ediv_nonneg F'.hj (by omega)) F'.hk
    exact k _ _ (Int.emod_nonneg _ (by omega)) (Int.emod_lt_of_pos _ hm) (dr F2 fun b hb=>by rw[Zw hb];exact hb' b hb)
   ·
    have tail:∀c:Int,Za5 (Za6 (X7 (rI (fun _ j=>0<j) fun i j=>.int (i % j)) (X7 (rI0 fun i j=>.int (i+j)) (X7 (rI0 fun i j=>.int (i+j)) (X7 (rI Zaq fun i j=>.int (i*j)) (X7 (rI (fun _ j=>0<j) fun i j=>.int (i % j)) (JQ 3) (tC (.int 2147483647))) (tC (.int 48271))) (X7 (rI Zaq fun i j=>.int (i*j)) (tC (.int 7919)) (X7 (Ze9 K) (JQ 0) (tC (.int 1))))) (tC (.int 12345))) (tC (.int 2147483629))) (Yf 4))
      (Za5 (Za6 (X7 (rI (fun _ j=>0<j) fun i j=>.int (i % j)) (X7 (rI Zaq fun i j=>.int (i*j)) (JQ 4) (X7 (rI0 fun i j=>.int (i+j)) (JQ 4) (tC (.int 40692)))) (tC (.int 2147483587))) (Yf 4))
       (ZeX (X7 (rI (fun _ j=>0<j) fun i j=>.int (i % j)) (X7 (rI (fun _ j=>0<j) fun i j=>.int (i % j)) (X7 (rI Zaq fun i j=>.int (i*j)) (JQ 4) (tC (.int 16807))) (tC (.int 2147483563))) (JQ 1)))) {nx:=fun _ H'=>Q .non H',rt:=Q} [some (.ref p),some (.int m),none,some (.int c),none] H':=by
     intro c
     refine⟨_,rfl,_,_,rfl,rfl,(by show (0:Int)<_;decide),_,_,rfl,rfl,.inl ⟨by omega,by omega⟩,_,rfl,p,_,_,_,rfl,rfl,.of F'.hp,rfl,_,_,rfl,rfl,.inl ⟨by decide,by decide⟩,_,_,rfl,rfl,_,_,rfl,rfl,_,_,rfl,rfl,(by show (0:Int)<_;decide),?_⟩
     refine⟨_,rfl,_,rfl,_,_,rfl,rfl,_,_,rfl,rfl,.inl ⟨by omega,by omega⟩,_,_,rfl,rfl,(by show (0:Int)<_;decide),?_⟩
     refine⟨_,rfl,_,_,rfl,rfl,.inl ⟨by omega,by omega⟩,_,_,rfl,rfl,(by show (0:Int)<_;decide),_,rfl,_,_,rfl,rfl,hm,?_⟩
     exact k _ _ (Int.emod_nonneg _ (by omega)) (Int.emod_lt_of_pos _ hm) (dr F' hb')
    refine⟨_,rfl,p,_,_,_,rfl,rfl,.of F'.hp,rfl,q,_,rfl,.inl (.of F'.hq),_,_,rfl,rfl,_,rfl,?_⟩
    refine Yh (fun hl=>?_) (fun hl=>?_)
    ·have hl':0<ns.length:=by
      have:=of_decide_eq_true hl
      rw[Za] at this;omega
     have hr0:0<=i' % (ns.length:Int)/\i' % (ns.length:Int)<ns.length:=⟨Int.emod_nonneg _ (by omega),Int.emod_lt_of_pos _ (by omega)⟩
     obtain⟨rn,hrn⟩:=Int.eq_ofNat_of_zero_le hr0.1
     obtain⟨z,hz⟩:∃z,ns[rn]?=some z:=⟨_,Zf (by omega)⟩
     have hz':atI (ns.map V.int) (i' % ((ns.map V.int).length:Int))=some (.int z):=by rw[Za,hrn];exact Z8 (by rw[Zc,hz];rfl)
     refine⟨_,rfl,p,_,_,_,rfl,rfl,.of F'.hp,rfl,_,rfl,p,_,_,_,rfl,rfl,.of F'.hp,rfl,_,rfl,p,_,_,_,rfl,rfl,.of F'.hp,rfl,q,_,rfl,.inl (.of F'.hq),_,_,rfl,rfl,(by show (0:Int)<((ns.map V.int).length:Int);rw[Za];omega),q,_,_,_,rfl,rfl,.of F'.hq,hz',?_⟩
     exact tail z
    ·exact tail 0
end
abbrev Zcl:Stmt:=top 16
abbrev ZaA:Stmt:=top 17
abbrev ZaB:Stmt:=top 23
abbrev Zcm:Stmt:=top 24
abbrev Zex:Stmt:=top 31
abbrev Zga:Stmt:=top 37
theorem YD.mono {H H':Hp}{p:Addr}(s:Zv H H')(F:YD H p):YD H' p:=by
 obtain⟨q,ns,i,j,k,F⟩:=F
 exact⟨q,ns,i,j,k,F.mono s⟩
theorem Dr.trans {p:Addr}{H H1 H2:Hp}(a:Dr p H H1)(b:Dr p H1 H2):Dr p H H2:=
 ⟨fun c o e n=>b.keep c o (a.keep c o e n) n,fun q ns i j k F=>let ⟨_,_,_,G⟩:=a.at_ q ns i j k F;b.at_ _ _ _ _ _ G⟩
theorem Dr.of {p:Addr}{H H1:Hp}(a:Zv H H1):Dr p H H1:=⟨fun c o e _=>a c o e,fun _ _ i j k F=>⟨i,j,k,F.mono a⟩⟩
theorem Dr.same {p:Addr}{H H1 H2:Hp}(a:Dr p H H1)(b:Zv H1 H2):Dr p H H2:=a.trans (.of b)
theorem Dr.pre {p:Addr}{H H1 H2:Hp}(a:Zv H H1)(b:Dr p H1 H2):Dr p H H2:=(Dr.of a).trans b
theorem Dr.updN {p l:Addr}{H H1:Hp}{o:HO}(a:Dr p H H1)(h:H l=none):Dr p H (upd H1 l o):=
 ⟨fun c u e n=>by rw[Zw (Zz e h)];exact a.keep c u e n,fun q ns i j k F=>by
  obtain⟨i',j',k',G⟩:=a.at_ q ns i j k F
  exact⟨i',j',k',by rw[Zw (Zz F.hp h)];exact G.hp,by rw[Zw (Zz F.hq h)];exact G.hq,G.hn,G.hi,G.hj,G.hk⟩⟩
theorem YD.neT {p a:Addr}{H:Hp}{xs:List V}(F:YD H p)(h:H a=some (.tup xs)):a≠p:=fun e=>by
 obtain⟨q,ns,i,j,k,F⟩:=F
 rw[e,F.hp] at h;cases h
theorem Dr.tup {p a:Addr}{H H':Hp}{xs:List V}(d:Dr p H H')(F:YD H p)(h:H a=some (.tup xs)):H' a=some (.tup xs):=d.keep a _ h (F.neT h)
def UA (n:String):Bool:=JC n "int" && !JC n "bool"
def Uc (c:Int):V->Bool
 | .int i=>decide (0<=i) && decide (i<c)
 |_=>false
def Vr:V->Bool
 | .int _=>true
 |_=>false
theorem kd_whole {K:PySem.W.Frag}{H:Hp}{x:V}{n:String}(h:Kd K H x n):UA n=Vr x:=by
 obtain⟨h,hm⟩:=h
 generalize ht:Value.type n=t at h
 cases h <;> (try cases ht) <;> first|rfl|decide
theorem ZcV {K:PySem.W.Frag}{H:Hp}{x:V}{n:String}(h:Kd K H x n):JC n "tuple"=decide (n = "tuple"):=by
 unfold JC
 by_cases e:n = "tuple"
 ·subst e;decide
 ·simp[e]
def El (K:PySem.W.Frag)(H:Hp)(y:V):Prop:=∃n d,Kd K H y n/\Wu K H y d/\d.canLay0=true/\d.depth<=10
theorem El.mono {K:PySem.W.Frag}{H H':Hp}{y:V}(s:Zv H H')(h:El K H y):El K H' y:=by
 obtain⟨n,d,a,b,c⟩:=h
 exact⟨n,d,a.mono s,b.mono s,c⟩
inductive Th (K:PySem.W.Frag) (H:Hp):V->Option (List V)->Prop where
 |tup {a:Addr}{xs:List V} (h:H a=some (.tup xs)) (hl:xs.length<=100) (he:∀y∈xs,El K H y):Th K H (.ref a) (some xs)
 |other {x:V}{n:String} (h:Kd K H x n) (hn:n ≠ "tuple"):Th K H x none
theorem Th.kd {K:PySem.W.Frag}{H:Hp}{x:V}{o:Option (List V)}(h:Th K H x o):∃n,Kd K H x n/\(JC n "tuple"=o.isSome):=by
 cases h with
 |tup h hl he=>exact⟨"tuple",⟨.tup h,by decide⟩,rfl⟩
 |other h hn=>exact⟨_,h,by rw[ZcV h];simp[hn]⟩
def Zdx (o:Option (List V))(c:Int):Bool:=match o with
 |none=>false
 |some xs=>xs.all (Uc c)
def XY (xs:List V):List Int:=xs.filterMap fun y=>match y with | .int i=>some i|_=>none
theorem WC:∀{xs:List V},xs.all Vr=true->(XY xs).map V.int=xs
 | [],_=>rfl
 |x::r,h=>by
  simp only[List.all_cons,Bool.and_eq_true] at h
  have ih:=WC h.2
  cases x with
  |int i=>show V.int i::(XY r).map V.int=_;rw[ih]
  |_=>cases h.1
theorem Za1 {xs:List V}{c:Int}(h:xs.all (Uc c)=true):xs.all Vr=true:=by
 rw[List.all_eq_true] at h ⊢
 intro y hy
 have:=h y hy
 cases y <;> first|rfl|cases this
def WZ (o:Option (List V)):Bool:=match o with
 |none=>false
 |some xs=>decide (1<=xs.length) && (decide (xs.length<=24) && (xs.all (Uc xs.length) && decide ((Y9 (XY xs) xs.length).length=xs.length)))
def Zft (o:Option (List V)):Bool:=match o with
 |none=>false
 |some xs=>decide (1<=xs.length) && (decide (xs.length<=24) && (xs.all Vr && ((List.range xs.length).all fun k=>inV (.int (k:Nat)) xs)))
def Zau (K:PySem.W.Frag):Sp:=fun vs H Q _=>∃x n,vs=[x]/\Kd K H x n/\Q (.bl (Vr x)) H
def VH (K:PySem.W.Frag):Sp:=fun vs H Q _=>∃x o c,vs=[x,.int c]/\Th K H x o/\∀H',Zv H H'->Q (.bl (Zdx o c)) H'
def VI (K:PySem.W.Frag):Sp:=fun vs H Q _=>∃x o,vs=[x]/\Th K H x o/\∀H',Zv H H'->Q (.bl (WZ o)) H'
def Zcb:Sp:=fun vs H Q _=>∃(p:Addr) (n:Nat),vs=[.ref p,.int n]/\YD H p/\n<=24/\
 ∀a H' (ns:List Int),Dr p H H'->H' a=some (.tup (ns.map V.int))->ns.length=n->(∀y∈ns,0<=y/\y<n)->Q (.ref a) H'
section
variable {P:Program}{w:World}{K:PySem.W.Frag}{mg:Str->Option Value}{base:Heap}
theorem ZcM {f:Addr}{fd:FuncData}(F:W8 K "is_whole" "is_whole" Zcl f fd)(T:Bl mg):ZY P w K mg base Yv 1 f fd ["thing"] (Zau K):=by
 refine F.ok (FS (N:=["thing"])) (fun vs H Q E h=>?_) (fun cdv A outer s H vs Q E hr h=>?_)
 ·obtain⟨x,n,rfl,_⟩:=h;rfl
 ·obtain⟨x,n,rfl,hk,q⟩:=h
  refine⟨_,Zy (ZP (Jf (cb (Ws (T:="int") (by decide)) T.isi (pc (vn 0) (pc (tyv "int" T.int) Zt))) (WJ (ZcC (cb (Ws (T:="bool") (by decide)) T.isi (pc (vn 0) (pc (tyv "bool" T.bool) Zt))))))),?_⟩
  refine⟨_,rfl,x,n,rfl,hk,_,rfl,?_⟩
  have e:=kd_whole hk
  unfold UA at e
  refine Yh (fun h1=>?_) (fun h1=>?_)
  ·refine⟨_,rfl,x,n,rfl,hk,_,rfl,?_⟩
   rw[h1,Bool.true_and] at e
   rw[e];exact q
  ·have h1:JC n "int"=false:=by simpa using h1
   rw[h1,Bool.false_and] at e
   show Q (.bl false) H
   rw[e];exact q
theorem Zbk {f:Addr}{fd:FuncData}(F:W8 K "are_things" "are_things" ZaA f fd)(T:Bl mg)(GW:Fn P w K mg base Yv 1 "is_whole" ["thing"] (Zau K)):ZY P w K mg base Yv 2 f fd ["thing", "count"] (VH K):=by
 refine F.ok (FS (N:=["thing", "count"])) (fun vs H Q E h=>?_) (fun cdv A outer s H vs Q E hr h=>?_)
 ·obtain⟨x,o,c,rfl,_⟩:=h;rfl
 ·obtain⟨x,o,c,rfl,hx,q⟩:=h
  refine⟨_,Zy (ZP (Jf (cb (Ws (T:="tuple") (by decide)) T.isi (pc (vn 0) (pc (tyv "tuple" T.tuple) Zt)))
   (WJ (cb (Zdk rfl) T.all (pc (cmp ["x"] [1] ["x", "count"] rfl (Zcy (vn 0)) (fun _ _ _ _ _=>gn 0) (fun _ _ _ _ _=>Y6)
    (fun _ _ _ _ _=>Jf (WS GW hr ZS (pc (vn 0) Zt)) (WJ (VR ZcK XO Zu (vn 0) (vn 1))))) Zt))))),?_⟩
  obtain⟨n,hk,ht⟩:=hx.kd
  refine⟨_,rfl,x,n,rfl,hk,_,rfl,?_⟩
  rw[ht]
  cases hx with
  |other h hn=>exact q H (Zv.refl H)
  | @tup a xs ha hl he=>
   show if true=true then _ else _
   refine Zgt ?_
   refine⟨_,rfl,a,rfl,⟨xs,.of ha⟩,?_⟩
   refine W4 (WV (WG.of ha)) [some (.int c)] rfl (fun y=>.bl (Uc c y)) (by omega) ?_ ?_
   ·intro i y H' hy s R h1
    have hm:y∈xs:=List.mem_of_getElem? hy
    obtain⟨n',d,hk',_⟩:=(he y hm).mono s
    refine⟨_,rfl,y,n',rfl,hk',_,rfl,?_⟩
    cases y with
    |int z=>
     refine Zgt ?_
     refine⟨_,rfl,_,_,rfl,rfl,_,rfl,?_⟩
     refine Yh (fun h0=>?_) (fun h0=>?_)
     ·refine⟨_,rfl,_,_,rfl,rfl,?_⟩
      have h2:=h1 H' (Zv.refl _)
      have e:Uc c (.int z)=decide (z<c):=by show (decide (0<=z) && decide (z<c))=_;rw[h0];rfl
      rw[e] at h2;exact h2
     ·have h2:=h1 H' (Zv.refl _)
      have h0:decide (0<=z)=false:=by simpa using h0
      have e:Uc c (.int z)=false:=by show (decide (0<=z) && decide (z<c))=_;rw[h0];rfl
      rw[e] at h2;exact h2
    |_=>exact h1 H' (Zv.refl _)
   ·intro D H' hD s hl'
    refine⟨D,xs.map (Uc c),rfl,.of ?_,?_⟩
    ·rw[hl',List.map_map];rfl
    ·have:(xs.map (Uc c)).all id=xs.all (Uc c):=by rw[List.all_map];rfl
     rw[this]
     exact q H' s
end
section
variable {P:Program}{w:World}{K:PySem.W.Frag}{mg:Str->Option Value}{base:Heap}
theorem Jh {xs:List V}(h:xs.all Vr=true):(XY xs).length=xs.length:=by
 have:=congrArg List.length (WC h)
 rw[Za] at this;exact this
theorem Zbl {f:Addr}{fd:FuncData}{tk:Tok}(F:W8 K "is_perm" "is_perm" ZaB f fd)(T:Bl mg)(hM:mg "MOST_PLACES"=some (.int 24 tk))(GT:Fn P w K mg base Yv 2 "are_things" ["thing", "count"] (VH K)) :
  ZY P w K mg base Yv 3 f fd ["thing"] (VI K):=by
 refine F.ok (FS (N:=["thing"])) (fun vs H Q E h=>?_) (fun cdv A outer s H vs Q E hr h=>?_)
 ·obtain⟨x,o,rfl,_⟩:=h;rfl
 ·obtain⟨x,o,rfl,hx,q⟩:=h
  refine⟨_,Zx (Yn (JY (JZ (Wg (cb (Ws (T:="tuple") (by decide)) T.isi (pc (vn 0) (pc (tyv "tuple" T.tuple) Zt)))))
    (JY (ZF XO (cb ZQ T.len (pc (vn 0) Zt)) Zu (ZJ _)) (JX (ZF VS (cb ZQ T.len (pc (vn 0) Zt)) (Zgv hM) (ZJ _))))).pt (Zy (ZP XM)) ZU)
   (Zy (ZP (Jf (WS GT hr ZS (pc (vn 0) (pc (cb ZQ T.len (pc (vn 0) Zt)) Zt)))
    (WJ (Vj XQ (cb ZbQ T.len (pc (ct (ZbN rfl) T.set (pc (vn 0) Zt)) Zt)) (cb ZQ T.len (pc (vn 0) Zt)) (ZJ _)))))),?_⟩
  obtain⟨n,hk,ht⟩:=hx.kd
  refine⟨_,rfl,x,n,rfl,hk,_,rfl,?_⟩
  rw[ht]
  cases hx with
  |other h hn=>exact Yt rfl (Yt rfl (q H (Zv.refl H)))
  | @tup a xs ha hl he=>
   refine Wj (by simp) ?_
   have fin:∀b H',Zv H H'->WZ (some xs)=b->Q (.bl b) H':=fun b H' s e=>e▸q H' s
   refine⟨_,rfl,a,xs,rfl,.inr (.of ha),_,_,rfl,rfl,_,rfl,?_⟩
   refine Yh (fun h1=>?_) (fun h1=>?_)
   ·refine Yt rfl (fin false H (Zv.refl H) ?_)
    have h1:=of_decide_eq_true h1
    have h1:¬ 1<=xs.length:=by omega
    simp[WZ,h1]
   have h1:1<=xs.length:=by
    have:¬((xs.length:Int)<1):=fun z=>h1 (decide_eq_true z)
    omega
   refine⟨_,rfl,a,xs,rfl,.inr (.of ha),_,_,rfl,rfl,_,rfl,?_⟩
   refine Yh (fun h2=>?_) (fun h2=>?_)
   ·refine fin false H (Zv.refl H) ?_
    have h2:=of_decide_eq_true h2
    have h2:¬xs.length<=24:=by omega
    simp[WZ,h2]
   have h2:xs.length<=24:=by
    have:¬((24:Int)<xs.length):=fun z=>h2 (decide_eq_true z)
    omega
   refine⟨_,rfl,_,rfl,a,xs,rfl,.inr (.of ha),_,_,_,rfl,.tup ha hl he,fun H1 s1=>⟨_,rfl,?_⟩⟩
   refine Yh (fun h3=>?_) (fun h3=>?_)
   ·have h3':xs.all (Uc xs.length)=true:=h3
    have hi:=Za1 h3'
    refine⟨_,rfl,a,XY xs,rfl,.of (by rw[WC hi];exact s1 _ _ ha),by rw[Jh hi];omega,fun p hp=>⟨p,_,_,rfl,Zs,_,rfl,a,xs,rfl,.inr (.of (Zv.upd hp _ _ (s1 _ _ ha))),rfl,?_⟩⟩
    refine fin _ _ (s1.trans (Zv.upd hp)) ?_
    rw[Jh hi]
    simp only[WZ,h1,h2,h3',decide_true,Bool.true_and,V.int.injEq]
    rw[decide_eq_decide]
    omega
   ·refine fin false H1 s1 ?_
    have h3:xs.all (Uc xs.length)=false:=by
     cases q:xs.all (Uc xs.length) with
     |true=>exact absurd q h3
     |false=>rfl
    simp[WZ,h3]
theorem Zco {lo:Int}{n:Nat}{y:Int}(h:y∈Yg lo n):lo<=y/\y<lo+n:=by
 unfold Yg at h
 obtain⟨i,hi,rfl⟩:=List.mem_map.mp h
 have:=List.mem_range.mp hi
 omega
theorem Wz {m:Int}(h:0<m)(h2:m<2 ^ 64):m.natAbs.log2<9000:=by
 have:=(Nat.log2_lt (n:=m.natAbs) (k:=64) (by omega)).mpr (by omega)
 omega
theorem ZdQ {f:Addr}{fd:FuncData}(F:W8 K "_law_perm" "_law_perm" Zex f fd)(T:Bl mg)(GD:Fn P w K mg base Yv 1 "_law_draw" ["_law_feed_here", "_law_many"] Va):ZY P w K mg base Yv 2 f fd ["_law_feed_here", "_law_many"] Zcb:=by
 refine F.ok (FS (N:=["_law_feed_here", "_law_many", "_law_left", "_law_found", "_law_k"])) (fun vs H Q E h=>?_) (fun cdv A outer s H vs Q E hr h=>?_)
 ·obtain⟨p,n,rfl,_⟩:=h;rfl
 ·obtain⟨p,n,rfl,Fd,hn,q⟩:=h
  refine⟨_,Zx (ZZ 2 rfl (ct (YS rfl) T.list (pc (ct Yp T.range (pc (vn 1) Zt)) Zt)))
   (Zx (ZZ 3 rfl (YM Zt))
   (Zx (Yr PassesOwn.never rfl (Zcp T.range (pc (vn 1) Zt)) (gn 4)
    (Zy (Y5 (Jw PySem.F.plainAttrs_list PySem.F.slot_list_append PySem.F.type_list_append Yi (vn 3)
     (pc (Jw PySem.F.plainAttrs_list PySem.F.slot_list_pop PySem.F.type_list_pop ZcR (vn 2) (pc (WS GD hr ZS (pc (vn 0) (pc (cb ZQ T.len (pc (vn 2) Zt)) Zt))) Zt)) Zt)))))
   (Zy (ZP (ct YR T.tuple (pc (vn 3) Zt)))))),?_⟩
  refine⟨_,rfl,n,rfl,fun r0 hr0=>⟨r0,0,n,rfl,Zs,⟨by omega,by omega,by omega,by omega⟩,(by rw[<-(by decide:(16777216:Nat)=sizeLine)];omega),fun l hl0=>?_⟩⟩
  refine⟨by decide,fun fo hfo=>?_⟩
  have s1:Zv H (upd H r0 (.rng 0 n)):=Zv.upd hr0
  have hl1:H l=none:=s1.free hl0
  have s2:=s1.trans (Zv.upd (o:=.lst ((Yg 0 ((n:Int)-0).toNat).map V.int)) hl0)
  have hfo1:H fo=none:=s2.free hfo
  have s3:=s2.trans (Zv.upd (o:=.lst []) hfo)
  have nlf:l≠fo:=fun z=>by rw[<-z,Zs] at hfo;cases hfo
  have np:∀{b:Addr},H b=none->b≠p:=fun {b} hb=>by
   obtain⟨q0,ns,i,j,k,Fa⟩:=Fd
   exact (Zz Fa.hp hb).symm
  refine⟨_,rfl,(n:Int),rfl,by omega,by omega,?_⟩
  refine Y0 (fun i σ' H'=>∃(v:Option V) (ls fs:List Int),σ'=[some (.ref p),some (.int n),some (.ref l),some (.ref fo),v]/\Dr p H H'/\H' l=some (.lst (ls.map V.int))/\H' fo=some (.lst (fs.map V.int))/\ls.length+i=n/\fs.length=i/\(∀y∈ls,0<=y/\y<n)/\(∀y∈fs,0<=y/\y<n)) ?_ ?_ ?_
  ·refine⟨none,Yg 0 ((n:Int)-0).toNat,[],rfl,Dr.of s3,by rw[Zw nlf,Zs],Zs,by rw[YU];omega,rfl,fun y hy=>?_,fun y hy=>by cases hy⟩
   have:=Zco hy
   omega
  ·rintro i σ' H' hi ⟨v,ls,fs,rfl,dr,hl',hf',e1,e2,b1,b2⟩
   have hpos:0<ls.length:=by omega
   refine⟨_,rfl,.inl ⟨rfl,_,.of hf'⟩,_,rfl,.inl ⟨rfl,_,.of hl'⟩,_,rfl,_,rfl,l,_,rfl,.inl (.of hl'),p,_,rfl,dr.feed Fd,?_,?_,fun r H2 r0' r1' dr2=>?_⟩
   ·rw[Za];omega
   ·rw[Za];exact Wz (by omega) (by omega)
   rw[Za] at r1'
   have hl2:=dr2.keep l _ hl' (np hl1)
   have hf2:=dr2.keep fo _ hf' (np hfo1)
   obtain⟨j,e3,e4,e5,_,_⟩:=Vx (Zgs (ns:=ls) r0' r1')
   refine⟨l,_,r,j,_,rfl,rfl,hl2,by omega,by omega,e3,e4,fo,_,_,rfl,rfl,by rw[Zw nlf.symm];exact hf2,?_,?_⟩
   ·rw[Za];have:(16777216:Nat)=sizeLine:=by decide
    omega
   ·have hmem:ls.getD r.toNat 0∈ls:=by
     rw[Zb,Zf (by omega)];exact List.getElem_mem _
    refine⟨_,ls.eraseIdx j,fs++[ls.getD r.toNat 0],rfl,((dr.trans dr2).updN hl1).updN hfo1,?_,?_,?_,by rw[Zd];simp[e2],fun y hy=>b1 y (List.mem_of_mem_eraseIdx hy),fun y hy=>?_⟩
    ·rw[Zw nlf,Zs,ZbE]
    ·rw[Zs,List.map_append];rfl
    ·rw[Za] at e5
     rw[List.length_eraseIdx,if_pos e5];omega
    ·rcases List.mem_append.mp hy with z|z
     ·exact b2 y z
     ·rw[List.mem_singleton.mp z];exact b1 _ hmem
  ·rintro σ' H' ⟨v,ls,fs,rfl,dr,hl',hf',e1,e2,b1,b2⟩
   refine⟨_,rfl,fo,_,rfl,.inl ⟨.of hf',fun a ha=>?_⟩⟩
   exact q a _ fs (dr.same (Zv.upd ha)) Zs (by omega) b2
end
end C9
namespace L2
open PySem PySem.Spec PyProof.Rows
theorem W2 {α:Type}{n:Str}:∀{a b:List (Str×α)},a.lookup n=none->(a++b).lookup n=b.lookup n
 | [],_,_=>rfl
 |(x,y)::r,b,h=>by
  rw[List.lookup_cons] at h
  show List.lookup n ((x,y)::(r++b))=_
  rw[List.lookup_cons]
  cases q:n == x with
  |true=>rw[q] at h;cases h
  |false=>rw[q] at h;exact W2 h
theorem YY {α:Type}{n:Str}{c:α}:∀{a b:List (Str×α)},a.lookup n=some c->(a++b).lookup n=some c
 | [],_,h=>by cases h
 |(x,y)::r,b,h=>by
  rw[List.lookup_cons] at h
  show List.lookup n ((x,y)::(r++b))=_
  rw[List.lookup_cons]
  cases q:n == x with
  |true=>rw[q] at h;exact h
  |false=>rw[q] at h;exact YY h
def Ji (env:Env)(cl:List (Str×Addr)):Env:={env with cells:=env.cells++cl}
theorem UH {env:Env}{cl:List (Str×Addr)}{n:Str}{v:Value}(h:env.kindOf n=some .local\/(env.kindOf n=some .cell/\(env.cells.lookup n).isSome=true)):storeName (Ji env cl) n v=storeName env n v:=by
 have hk:(Ji env cl).kindOf n=env.kindOf n:=rfl
 have hb:(Ji env cl).blockKind=env.blockKind:=rfl
 unfold storeName
 rw[hk,hb]
 rcases h with h|⟨h,hc⟩
 ·rw[h];rfl
 ·rw[h]
  have e:cellOf (Ji env cl) n=cellOf env n:=by
   obtain⟨c,hc⟩:=Option.isSome_iff_exists.mp hc
   unfold cellOf
   rw[show (Ji env cl).cells=env.cells++cl from rfl,YY hc,hc]
  rw[e]
  rfl
section
variable {M:Model}{A:Around}{E:Value->Shared->Prop}{s₀:Shared}{env:Env}{cl:List (Str×Addr)}
theorem Wt (f:Str×Value->PUnit->Sem (ForInStep PUnit))(hf:∀n v u,f (n,v) u=(do storeName (Ji env cl) n v;pure (.yield ⟨⟩)))(hk:env.scope.kind=.function) :
  ∀(binds:List (Str×Value)) (m cm:Str->Option Value) (s:Shared) (Q:PUnit->Shared->Prop),InCallC s₀ env.locals m env.cells cm s->
   (∀x∈binds,env.kindOf x.1=some .local\/(env.kindOf x.1=some .cell/\(env.cells.lookup x.1).isSome=true))->
   (∀s',InCallC s₀ env.locals (bindL env.kindOf binds m) env.cells (bindC env.kindOf binds cm) s'->Q ⟨⟩ s')->wpAny M A (forIn binds ⟨⟩ f) Q E s
 | [],m,cm,s,Q,x,_,h=>by rw[List.forIn_nil];exact Zm (h s x)
 |(n,v)::r,m,cm,s,Q,x,hkind,h=>by
  rw[List.forIn_cons,hf,UH (hkind (n,v) List.mem_cons_self)]
  have hr:∀y∈r,env.kindOf y.1=some .local\/(env.kindOf y.1=some .cell/\(env.cells.lookup y.1).isSome=true):=fun y hy=>hkind y (List.mem_cons_of_mem _ hy)
  rcases hkind (n,v) List.mem_cons_self with hl|⟨hl,hc⟩
  ·refine Zl (Zl (stLC x hk hl fun s' x'=>Zm (Wt f hf hk r _ _ s' Q x' hr fun s'' x''=>h s'' ?_)))
   unfold bindL bindC;rw[if_pos hl,if_pos hl];exact x''
  ·obtain⟨c,hc⟩:=Option.isSome_iff_exists.mp hc
   have hnl:¬env.kindOf n=some .local:=by rw[hl];decide
   refine Zl (Zl (stCC x hk hl hc fun s' x'=>Zm (Wt f hf hk r _ _ s' Q x' hr fun s'' x''=>h s'' ?_)))
   unfold bindL bindC;rw[if_neg hnl,if_neg hnl];exact x''
end
section
variable {M:Model}{A:Around}{E:Value->Shared->Prop}{s:Shared}
theorem ZdZ {scope:Scope}{globals:Addr}{cl:List (Str×Addr)}{binds:List (Str×Value)}{qual:Str}{func:Option Addr}{code:Value}{builtins:Addr}{Q:Env->Shared->Prop}
  (hk:scope.kind=.function)
  (hkind:∀x∈binds,scope.names.lookup x.1=some .local\/(scope.names.lookup x.1=some .cell/\((cellsFrom (s.heap.objs.size+1) scope.names []).lookup x.1).isSome=true))
  (hQ:∀env,env=newEnv scope s.heap.objs.size globals (cellsFrom (s.heap.objs.size+1) scope.names []) qual func code none builtins->
   ∀s',InCallC s env.locals (bindL env.kindOf binds fun _=>none) env.cells (bindC env.kindOf binds fun _=>none) s'->Q (Ji env cl) s') :
  wpAny M A (newFunctionEnv scope globals cl binds qual func code none builtins) Q E s:=by
 simp only[newFunctionEnv,Option.isSome_none,Bool.false_eq_true,if_false]
 refine Zl (wpAny_alloc ?_)
 refine Zl (wpAny_layCells _ (fun name kind cells=>by cases hkc:kind == NameKind.cell <;> simp[hkc]) _ _ _ _ ?_)
 have ok:=cellsFrom_ok scope.names (s.heap.push {cls:=.type "frame",data:=.dict #[]}) (s.heap.objs.size+1) [] ⟨fun _ _ hm=>(nomatch hm),List.Pairwise.nil⟩ (by rw[Heap.size_push];exact Zq _)
 rw[Heap.size_push] at ok
 rw[show ({s with heap:=s.heap.push {cls:=.type "frame",data:=.dict #[]}}:Shared).heap.objs.size=s.heap.objs.size+1 from Heap.size_push ..]
 rw[Y2]
 refine Zl (Wt (cl:=cl) (s₀:=s) (env:=newEnv scope s.heap.objs.size globals (cellsFrom (s.heap.objs.size+1) scope.names []) qual func code none builtins)
  _ (fun _ _ _=>rfl) hk binds (fun _=>none) (fun _=>none) _ _
  ⟨⟨⟨_,_,rfl⟩,(Heap.Ns.new s.heap (.type "frame")).keeps (pushCells_keeps _ _),fun b o e=>pushCells_keeps _ _ b o (Zn _ e),Zq _⟩,
   fun n c hc=>(ok.empty n c (mem_of_lookup hc)).1,ok.apart,fun n c hm=>(ok.empty n c hm).2⟩
  hkind fun s' x=>Zm (hQ _ rfl s' x))
end
structure Xq (N ps caps:List Str)(sc:Scope):Prop where
 kind:sc.kind=.function
 co:sc.isCoroutine=false
 gen:sc.isGenerator=false
 nd:N.Nodup
 ndn:(sc.names.map (·.1)).Nodup
 eqN:N=ps++caps
 par:∀x∈ps,sc.names.lookup x=some .local\/sc.names.lookup x=some .cell
 cap:∀x∈caps,sc.names.lookup x=some .free
 fr:∀y∈sc.names,y.2=.free->y.1∈caps
structure VD (base:Heap)(cl:List (Str×Addr))(caps:List Str)(cvs:List V):Prop where
 len:caps.length=cvs.length
 at_:∀(i:Nat) x v,caps[i]?=some x->cvs[i]?=some v->∃c u,cl.lookup x=some c/\base.IsCell c (some u)/\RelV v u
 only:∀x c,cl.lookup x=some c->x∈caps
 inj:∀x y c,cl.lookup x=some c->cl.lookup y=some c->x=y
def X1 (CX:Jq)(P:Program)(w:World)(K:PySem.W.Frag)(mg:Str->Option Value)(base:Heap)(N caps:List Str)(cl:List (Str×Addr))(qual:Str)(scope:Scope)(f:Addr)(cd:Value)(A:Around)(outer:List Env)(s:Shared)(H:Hp)(E:XK):Cx where
 prog:=P
 w:=w
 K:=K
 mg:=mg
 base:=base
 A:=A.deeper (Ji (envOfC qual scope s.heap.objs.size f cd) cl)
 N:=N
 s₀:=s
 H₀:=H
 env:=Ji (envOfC qual scope s.heap.objs.size f cd) cl
 outer:=outer
 stack:=Ji (envOfC qual scope s.heap.objs.size f cd) cl::outer
 ex:=[]
 calm:=true
 fn:=fun x=>!caps.contains x
 pn:=[]
 xe:=fun e s'=>wpAny (model P w) (A.deeper (Ji (envOfC qual scope s.heap.objs.size f cd) cl)) (leaving (Ji (envOfC qual scope s.heap.objs.size f cd) cl) e) (fun _ s''=>CX outer H s E e s'') (fun e' s''=>CX outer H s E e' s'') s'
theorem WO {scope:Scope}{n:Nat}{x:Str}(nd:(scope.names.map (·.1)).Nodup)(h:scope.names.lookup x=some .free):(cellsFrom n scope.names []).lookup x=none:=by
 cases e:(cellsFrom n scope.names []).lookup x with
 |none=>rfl
 |some c=>
  rcases WD scope.names n [] (PySem.mem_of_lookup e) with z|z
  ·have:=Wy nd z
   rw[h] at this
   cases this
  ·cases z
theorem Zd8 {CX:Jq}{P:Program}{w:World}{K:PySem.W.Frag}{mg:Str->Option Value}{base:Heap}{N ps caps:List Str}{cl:List (Str×Addr)}{cvs:List V}{qual:Str}{scope:Scope}{f:Addr}{cd:Value}{A:Around}{outer:List Env}{s s1:Shared}{H:Hp}{E:XK}{us:List Value}{vs:List V}
  (S:Xq N ps caps scope) (C:VD base cl caps cvs) (hd:A.handled=none) (e0:VB P w K mg base A outer s H) (hl:vs.length=ps.length) (r:ZC vs us)
  (x:InCallC s s.heap.objs.size (bindL (envOfC qual scope s.heap.objs.size f cd).kindOf (ps.zip us) fun _=>none) (cellsFrom (s.heap.objs.size+1) scope.names []) (bindC (envOfC qual scope s.heap.objs.size f cd).kindOf (ps.zip us) fun _=>none) s1) :
  Inv (X1 CX P w K mg base N caps cl qual scope f cd A outer s H E) [] ((vs++cvs).map some) H s1:=by
 obtain⟨h1,tk,rfl,hk⟩:=x.done
 have noA:∀b:Addr,b∉(X1 CX P w K mg base N caps cl qual scope f cd A outer s H E).ex:=fun b z=>absurd (show b∈([]:List Addr) from z) (by simp)
 have ndps:ps.Nodup:=by have:=S.nd;rw[S.eqN] at this;exact (List.nodup_append.mp this).1
 have split:∀y c,(cellsFrom (s.heap.objs.size+1) scope.names []++cl).lookup y=some c->((cellsFrom (s.heap.objs.size+1) scope.names []).lookup y=some c/\y∉caps)\/((cellsFrom (s.heap.objs.size+1) scope.names []).lookup y=none/\cl.lookup y=some c):=fun y c h=>by
  cases e:(cellsFrom (s.heap.objs.size+1) scope.names []).lookup y with
  |none=>rw[W2 e] at h;exact .inr ⟨rfl,h⟩
  |some d=>
   rw[YY e] at h
   cases h
   refine .inl ⟨rfl,fun hy=>?_⟩
   rw[WO S.ndn (S.cap y hy)] at e
   cases e
 have atB:∀y c,cl.lookup y=some c->∃u,base.IsCell c (some u):=fun y c h=>by
  have hy:=C.only y c h
  obtain⟨i,hi⟩:=List.getElem?_of_mem hy
  have hlt:i<cvs.length:=by rw[<-C.len];exact (List.getElem?_eq_some_iff.mp hi).1
  obtain⟨d,u,h1,h2,_⟩:=C.at_ i y cvs[i] hi (Zf hlt)
  rw[h] at h1
  cases h1
  exact⟨u,h2⟩
 have below:∀y c,cl.lookup y=some c->c<s.heap.objs.size:=fun y c h=>by
  obtain⟨u,o,ho,_⟩:=atB y c h
  exact Zp (e0.bs _ _ ho).1
 have up:∀c u,base.IsCell c (some u)->h1.IsCell c (some u):=fun c u h=>by
  obtain⟨o,ho,hd⟩:=h
  exact⟨o,hk _ _ (e0.bs _ _ ho).1,hd⟩
 refine⟨⟨e0.mod,S.kind,rfl,rfl,Zq _,fun y z c h1 h2=>?_,fun y hy=>?_,fun y c hf h=>?_,fun _=>hd,Around.frames_deeper e0.frames,.inr ⟨rfl,rfl⟩,fun b z=>absurd z (noA b),e0.bs,e0.bsz,fun b _ _=>noA b,fun b z=>absurd z (noA b),e0.funs,e0.frf⟩,
  rfl,e0.bare,Un.kept hk,⟨_,x.toInCall.ns,fun i y v h1 h2 h3=>?_⟩,fun y c h=>?_,e0.hok.fresh (Zq _),fun y c h=>?_,fun p hp=>absurd (show p∈([]:List (Addr×Obj)) from hp) (by simp),e0.hok.kept hk,?_⟩
 ·rcases split y c h1 with ⟨a1,_⟩|⟨_,a1⟩ <;> rcases split z c h2 with ⟨a2,_⟩|⟨_,a2⟩
  ·exact name_of_addr x.apart (PySem.mem_of_lookup a1) (PySem.mem_of_lookup a2)
  ·exact absurd (Nat.lt_trans (below z c a2) (x.above y c (PySem.mem_of_lookup a1))) (Nat.lt_irrefl _)
  ·exact absurd (Nat.lt_trans (below y c a1) (x.above z c (PySem.mem_of_lookup a2))) (Nat.lt_irrefl _)
  ·exact C.inj y z c a1 a2
 ·have hy:scope.names.lookup y=some .cell\/scope.names.lookup y=some .free:=hy
  rcases hy with hy|hy
  ·obtain⟨c,hc⟩:=W5 (n:=s.heap.objs.size+1) hy
   exact⟨c,YY hc⟩
  ·have hm:=S.fr _ (PySem.mem_of_lookup hy) rfl
   obtain⟨i,hi⟩:=List.getElem?_of_mem hm
   have hlt:i<cvs.length:=by rw[<-C.len];exact (List.getElem?_eq_some_iff.mp hi).1
   obtain⟨d,u,h1,_⟩:=C.at_ i y cvs[i] hi (Zf hlt)
   exact⟨d,by rw[show (X1 CX P w K mg base N caps cl qual scope f cd A outer s H E).env.cells=cellsFrom (s.heap.objs.size+1) scope.names []++cl from rfl,W2 (WO S.ndn hy)];exact h1⟩
 ·rcases split y c h with ⟨a1,_⟩|⟨_,a1⟩
  ·exact Nat.le_of_lt (x.above y c (PySem.mem_of_lookup a1))
  ·have hf:(!caps.contains y)=true:=hf
   have:=List.contains_iff_mem.mpr (C.only y c a1)
   rw[this] at hf
   cases hf
 ·have h1:(ps++caps)[i]?=some y:=by rw[<-S.eqN];exact h1
  rw[Zc] at h2
  by_cases hi:i<vs.length
  ·rw[List.getElem?_append_left hi] at h2
   rw[List.getElem?_append_left (by omega)] at h1
   cases ha:vs[i]? with
   |none=>rw[ha] at h2;cases h2
   |some a=>
    rw[ha] at h2
    cases h2
    obtain⟨u,hu,rv⟩:=r.get ha
    refine⟨u,rv,?_⟩
    rcases S.par y (List.mem_of_getElem? h1) with k|k
    ·exact .inl ⟨k,Jk ndps h1 hu k⟩
    ·obtain⟨c,e⟩:=W5 (n:=s.heap.objs.size+1) k
     refine .inr ⟨.inl k,c,YY e,?_⟩
     have q:=x.cell y c e
     rw[Jl ndps h1 hu (by show scope.names.lookup y≠_;rw[k];decide)] at q
     exact q
  ·rw[List.getElem?_append_right (by omega)] at h2
   rw[List.getElem?_append_right (by omega)] at h1
   rw[hl] at h2
   cases ha:cvs[i-ps.length]? with
   |none=>rw[ha] at h2;cases h2
   |some a=>
    rw[ha] at h2
    cases h2
    obtain⟨c,u,b1,b2,b3⟩:=C.at_ (i-ps.length) y _ h1 ha
    have hf:=S.cap y (List.mem_of_getElem? h1)
    exact⟨u,b3,.inr ⟨.inr hf,c,by rw[show (X1 CX P w K mg base N caps cl qual scope f cd A outer s H E).env.cells=cellsFrom (s.heap.objs.size+1) scope.names []++cl from rfl,W2 (WO S.ndn hf)];exact b1,up c u b2⟩⟩
 ·rcases split y c h with ⟨a1,_⟩|⟨_,a1⟩
  ·exact⟨_,x.cell y c a1⟩
  ·obtain⟨u,hu⟩:=atB y c a1
   exact⟨_,up c u hu⟩
 ·rcases split y c h with ⟨a1,_⟩|⟨_,a1⟩
  ·exact e0.hok.fresh (Nat.le_of_lt (x.above y c (PySem.mem_of_lookup a1)))
  ·obtain⟨u,o,ho,_⟩:=atB y c a1
   exact (e0.bs _ _ ho).2
 ·show _=N.length
  rw[Za,Zd,S.eqN,Zd,hl,C.len]
theorem ZfC {CX:Jq}{P:Program}{w:World}{K:PySem.W.Frag}{mg:Str->Option Value}{base:Heap}{k:Nat}{f:Addr}{name qual:Str}{params:Arguments}{body:Expr}{scope:Scope}{cl:List (Str×Addr)}{cvs:List V}{pm cdv ct:Value}{N ps caps:List Str}{sp:Sp}
  (S:Xq N ps caps scope) (C:VD base cl caps cvs) (len:∀vs H Q E,sp vs H Q E->vs.length=ps.length)
  (hat:∀vs (s:Shared) H Q E,Ww P w H s.heap->sp vs H Q E->(∃oc od osl,s.heap.get? f=some ⟨oc,od,.func (PySem.W.kla_fn name qual params body scope cl pm cdv ct),osl⟩)/\s.heap.CodeRec cdv qual)
  (hbody:∀(A:Around) (outer:List Env) (s:Shared) (H:Hp) (vs:List V) (Q:VK) (E:XK),Yb k (A.deeper (Ji (envOfC qual scope s.heap.objs.size f cdv) cl))->sp vs H Q E->
   ∃t,PE (X1 CX P w K mg base N caps cl qual scope f cdv A outer s H E) body t/\t ((vs++cvs).map some) H Q) :
  ZY P w K mg base CX (k+1) f (PySem.W.kla_fn name qual params body scope cl pm cdv ct) ps sp:=by
 refine⟨len,fun A outer s H args us vs Q E hr e0 hb r hsp=>?_⟩
 have hl:=len _ _ _ _ hsp
 have lim:s.heap.NoLimit:=e0.mod.nolimit.keeps fun b o e=>(e0.bs b o e).1
 obtain⟨⟨oc,od,osl,hf⟩,hcd⟩:=hat vs s H Q E e0.hok hsp
 have hkind:∀y∈ps.zip us,scope.names.lookup y.1=some .local\/(scope.names.lookup y.1=some .cell/\((cellsFrom (s.heap.objs.size+1) scope.names []).lookup y.1).isSome=true):=fun ⟨n,v⟩ hy=>by
  rcases S.par n (List.of_mem_zip hy).1 with q|q
  ·exact .inl q
  ·exact .inr ⟨q,PySem.W.cellsFrom_some _ _ _ (.inl q)⟩
 refine PySem.W.kla_callFunE hr.depth hf rfl S.co S.gen rfl hcd (hb _ _ _ _ ?_)
 refine ZdZ S.kind hkind fun env he s1 x=>?_
 subst he
 refine⟨lim.keeps x.toInCall.keep,PySem.W.kla_codeExpr ?_⟩
 obtain⟨t,ht,hq⟩:=hbody A outer s H vs Q E (hr.deeper _) hsp
 have I:Inv (X1 CX P w K mg base N caps cl qual scope f cdv A outer s H E) [] ((vs++cvs).map some) H s1:=Zd8 S C hr.hd e0 hl r x
 refine wpAny_mono (ht [] s1 _ H _ I hq) (fun u s' hs=>?_) fun e s' hs=>hs
 obtain⟨v,H',J,rv,q⟩:=hs
 exact⟨v,H',J.os,J.bare,J.base,J.hok,rv,q⟩
def WM (f:Addr)(o:Obj):HO:=.ext fun h=>h.get? f=some o
def Wn (c:Addr)(qual:Str):HO:=.ext fun h=>h.CodeRec (.ref c) qual
theorem Zaa {P:Program}{w:World}{H:Hp}{h:Heap}{f:Addr}{o:Obj}(k:Ww P w H h)(e:H f=some (WM f o)):h.get? f=some o:=(k f _ e).1
theorem Zef {P:Program}{w:World}{H:Hp}{h:Heap}{c:Addr}{qual:Str}(k:Ww P w H h)(e:H c=some (Wn c qual)):h.CodeRec (.ref c) qual:=(k c _ e).1
section
variable {X:Cx}
def Ze3 (P:Program)(w:World)(K:PySem.W.Frag)(mg:Str->Option Value)(base:Heap)(CX:Jq)(k i:Nat)(E:XK)(t:TA):TE:=fun σ H Q=>∃f oc od fd sl,σ[i]?=some (some (.ref f))/\H f=some (WM f ⟨oc,od,.func fd,sl⟩)/\
 t σ H fun vs H1=>H1 f=some (WM f ⟨oc,od,.func fd,sl⟩)/\∃ps sp,ZY P w K mg base CX k f fd ps sp/\Binds K fd ps []/\sp vs H1 Q E
theorem ZcG {CX:Jq}{k j i:Nat}{x:Str}{E:XK}{e:Expr}{es:List Expr}{t:TA}{p pos:Pos}(hr:Yb j X.A)(hx:YC CX X E)(hv:PE X (.Name x p) (JQ i))(ha:PA X (e::es) t)(hk:k<=j:=by decide)
  (he:starEach (e::es) X.env=(false,eval e X.env)::starEach es X.env:=by rfl) (hpl:(backTo pos (starEach es X.env)).any (·.1)=false:=by rfl) :
  PE X (.Call (.Name x p) (e::es) [] pos) (Ze3 X.prog X.w X.K X.mg X.base CX k i E t):=by
 intro pins s σ H Q I h
 obtain⟨f,oc,od,fd,sl,h1,h2,h3⟩:=h
 refine wpAny_Call_Name_kw (ZT (hv pins s σ H (fun v H1=>v=.ref f/\H1=H) I ⟨_,h1,rfl,rfl⟩) fun u s1 ⟨v,H1,I1,rv,e1,e2⟩=>?_)
 subst e1
 subst e2
 cases rv
 refine PySem.W.callWith_F ⟨oc,od,fd,sl,Zaa I1.hok h2⟩ (ZT (ha pos pins s1 σ H1 _ I1 h3) fun us s2 ⟨vs,H2,I2,r,g1,ps,sp,F,B,q⟩=>⟨⟨oc,od,fd,sl,Zaa I2.hok g1⟩,?_⟩) he hpl
 refine UO (dvs:=[]) (ds:=[]) F (hr.mono hk) B .nil hx I2 r ?_
 rw[List.append_nil]
 exact q
structure ZeQ (X:Cx)(σ:St)(base':Heap):Prop where
 base:∀b o,X.base.get? b=some o->base'.get? b=some o
 cells:∀(i:Nat) x v c,X.N[i]?=some x->σ[i]?=some (some v)->Vis X.env.scope x->X.env.cells.lookup x=some c->(X.env.kindOf x=some .cell\/X.env.kindOf x=some .free)->X.fn x=true->∃u,base'.IsCell c (some u)/\RelV v u
theorem Mod.wider {K:PySem.W.Frag}{mg:Str->Option Value}{base base':Heap}(M:Mod K mg base)(k:∀b o,base.get? b=some o->base'.get? b=some o):Mod K mg base':=by
 obtain⟨mb,h1,h2⟩:=M.blt
 exact⟨M.kin.keeps k,M.glob.keeps k,⟨mb,h1.keeps k,h2⟩,M.nolimit.keeps k⟩
open Classical in
theorem ZbY {pins:List (Addr×Obj)}{σ:St}{H:Hp}{s:Shared}(I:Inv X pins σ H s):∃base',ZeQ X σ base'/\VB X.prog X.w X.K X.mg base' X.A X.stack s H:=by
 let keepB:Addr->Prop:=fun b=>(X.base.get? b).isSome=true\/∃x,X.fn x=true/\X.env.cells.lookup x=some b
 let as:List Addr:=(List.range s.heap.objs.size).filter fun b=>decide (¬keepB b)
 have inAs:∀b,b<s.heap.objs.size->¬keepB b->b∈as:=fun b hb hk=>List.mem_filter.mpr ⟨List.mem_range.mpr hb,decide_eq_true hk⟩
 have notAs:∀b,keepB b->b∉as:=fun b hk hb=>(of_decide_eq_true (List.mem_filter.mp hb).2) hk
 have kp:∀b o,X.base.get? b=some o->(PySem.W.hideAll s.heap as).get? b=some o:=fun b o e=>PySem.W.hideAll_get _ (I.bk b o e) (notAs b (.inl (by rw[e];rfl)))
 refine⟨PySem.W.hideAll s.heap as,⟨kp,fun i x v c h1 h2 h3 h4 h5 h6=>?_⟩,⟨I.ok.frames,I.ok.mod.wider kp,fun b o e=>⟨PySem.W.of_hideAll _ e,?_⟩,Nat.le_of_eq (PySem.W.hideAll_size _ _),PySem.W.funFrames_hide I.stack fun env he a ha=>?_,I.stkFree,I.hok,I.bare⟩⟩
 ·obtain⟨m,hn,hl⟩:=I.loc
  obtain⟨u,rv,lk⟩:=hl i x v h1 h2 h3
  rcases lk with ⟨k,_⟩|⟨_,c',hc,o,ho,hd⟩
  ·rcases h5 with z|z <;> rw[k] at z <;> cases z
  ·rw[h4] at hc
   cases hc
   exact⟨u,⟨o,PySem.W.hideAll_get _ ho (notAs _ (.inr ⟨x,h6,h4⟩)),hd⟩,rv⟩
 ·by_cases hk:keepB b
  ·rcases hk with hk|⟨x,_,hx⟩
   ·obtain⟨o',ho'⟩:=Option.isSome_iff_exists.mp hk
    exact (I.bs b o' ho').2
   ·exact I.freeC x b hx
  ·have:=PySem.W.hideAll_none as (h:=s.heap) (inAs b (Zp (PySem.W.of_hideAll _ e)) hk)
   rw[this] at e
   cases e
 ·have hb:a∈Uz X.stack:=List.mem_filterMap.mpr ⟨env,he,ha⟩
  obtain⟨hn,o,ho,_⟩:=I.stack.mem hb
  refine inAs a (Zp ho) fun hk=>?_
  rcases hk with hk|⟨x,hf,hx⟩
  ·rw[hn] at hk;cases hk
  ·rcases List.mem_cons.mp (I.stkSub a hb) with e|hfs
   ·exact I.cne x a hx e
   ·obtain⟨_,o',ho',_⟩:=I.ok.funs.mem hfs
    exact absurd (Nat.lt_of_lt_of_le (Zp ho') (I.ok.cab x a hf hx)) (Nat.lt_irrefl _)
def Ze2 (X:Cx)(sp:Heap->Sp)(E:XK)(t:TA):TE:=fun σ H Q=>t σ H fun vs H1=>∀base',ZeQ X σ base'->sp base' vs H1 Q E
theorem ZcF {CX:Jq}{k j:Nat}{x:Str}{ps:List Str}{sp:Heap->Sp}{E:XK}{e:Expr}{es:List Expr}{t:TA}{p pos:Pos}(G:∀base',Fn X.prog X.w X.K X.mg base' CX k x ps (sp base'))(hr:Yb j X.A)(hx:YC CX X E)(ha:PA X (e::es) t)(hk:k<=j:=by decide)
  (hg:Z9 X.env.scope x=true:=by kernel_rfl) (hd:(x == ("__debug__":Str))=false:=by kernel_rfl)
  (he:starEach (e::es) X.env=(false,eval e X.env)::starEach es X.env:=by rfl) (hpl:(backTo pos (starEach es X.env)).any (·.1)=false:=by rfl) :
  PE X (.Call (.Name x p) (e::es) [] pos) (Ze2 X sp E t):=by
 intro pins s σ H Q I h
 obtain⟨f,fd,_,hm,kp,_⟩:=G X.base
 refine wpAny_Call_Name_kw (WA I (YZ hg) hm ?_ hd)
 refine PySem.W.callWith_K (h₀:=X.base) I.ok.mod.kin kp (ZT (ha pos pins s σ H _ I h) fun us s1 ⟨vs,H1,I1,r,q⟩=>⟨I1.kIn,?_⟩) he hpl
 obtain⟨base',W,e0⟩:=ZbY I1
 obtain⟨f',fd',F',hm',kp',b'⟩:=G base'
 rw[hm] at hm'
 cases hm'
 have q':=q base' W
 have hl:us.length=ps.length:=by rw[<-r.length];exact F'.len _ _ _ _ q'
 refine wpAny_call (codeAny_mono (F'.run X.A X.stack s1 H1 ⟨us,[]⟩ us vs Q E (hr.mono hk) e0 (by have:=b' s1 us I1.kIn (by rw[List.append_nil];exact hl);rw[List.append_nil] at this;exact this) r q') fun r s' hq=>?_)
 cases r with
 |error e=>exact hx pins σ H1 s1 e s' I1 hq
 |ok fl=>
  cases fl with
  |ret u=>exact I1.after hq
  |next=>exact False.elim hq
  |brk=>exact False.elim hq
  |cont=>exact False.elim hq
end
def Ja (H:Hp)(P:Addr)(pos:Pos)(qual:Str):Prop:=∃ps,H P=some (.tbl ps)/\TriplesOk ps.toList/\(codeAmong pos ps.toList=none\/∃c,codeAmong pos ps.toList=some (.ref c)/\H c=some (Wn c qual))
def Bt (P:Addr)(H H':Hp):Prop:=∀b o,H b=some o->b≠P->H' b=some o
theorem Bt.of {P:Addr}{H H':Hp}(s:Zv H H'):Bt P H H':=fun b o e _=>s b o e
theorem Bt.trans {P:Addr}{H H1 H2:Hp}(a:Bt P H H1)(b:Bt P H1 H2):Bt P H H2:=fun c o e n=>b c o (a c o e n) n
theorem Ja.mono {H H':Hp}{P:Addr}{pos:Pos}{qual:Str}(s:Zv H H')(t:Ja H P pos qual):Ja H' P pos qual:=by
 obtain⟨ps,h1,h2,h3⟩:=t
 refine⟨ps,s _ _ h1,h2,?_⟩
 rcases h3 with h|⟨c,h,h'⟩
 ·exact .inl h
 ·exact .inr ⟨c,h,s _ _ h'⟩
def Jr (h:Heap)(mg:Str->Option Value):Prop:=∃bm o,mg "__builtins__"=some (.ref bm)/\bm≠builtinsNs/\h.get? bm=some o/\o.cls=.type "module"/\o.dict=some builtinsNs/\o.data=.plain
theorem Jr.at {h:Heap}{mg:Str->Option Value}{P:Addr}{ps:Array Value}(B:Jr h mg)(G:h.Ns mainGlobals mg)(hP:h.get? P=some (PySem.W.tabObj ps)):h.BuiltinsAt mg P/\mainGlobals≠P:=by
 obtain⟨bm,o,b1,b2,b3,b4,b5,b6⟩:=B
 obtain⟨g,es,ep,g1,g2,_⟩:=G
 refine⟨⟨bm,o,b1,b2,fun z=>?_,fun z=>?_,b3,b4,b5,b6⟩,fun z=>?_⟩
 ·rw[z,g1] at b3;cases b3;rw[g2] at b6;cases b6
 ·rw[z,hP] at b3;cases b3;cases b6
 ·rw[z,hP] at g1;cases g1;cases g2
theorem Wp {env:Env}:∀(names:List (Str×NameKind)) (acc:List (Str×Addr)),(∀y∈names,y.2=.free->∃c,env.cells.lookup y.1=some c)->(∀y c,acc.lookup y=some c->env.cells.lookup y=some c)->
  ∃cl,(forIn names acc (fun x r=>if (x.2 == NameKind.free)=true then (do let c <-cellOf env x.1;pure (ForInStep.yield ((x.1,c)::r))) else pure (ForInStep.yield r)):Sem (List (Str×Addr)))=pure cl/\
   (∀y c,cl.lookup y=some c->env.cells.lookup y=some c)/\(∀y,(∃c,acc.lookup y=some c)->∃c,cl.lookup y=some c)/\(∀y∈names,y.2=.free->∃c,cl.lookup y.1=some c)/\∀y c,cl.lookup y=some c->(∃d,acc.lookup y=some d)\/(y,NameKind.free)∈names
 | [],acc,_,ha=>⟨acc,rfl,ha,fun _ h=>h,fun _ h=>absurd h (by simp),fun y c h=>.inl ⟨c,h⟩⟩
 | (n,k)::r,acc,hn,ha=>by
  rw[List.forIn_cons]
  by_cases hk:k=.free
  ·subst hk
   obtain⟨c,hc⟩:=hn (n,.free) List.mem_cons_self rfl
   have ha':∀y d,((n,c)::acc).lookup y=some d->env.cells.lookup y=some d:=fun y d e=>by
    rw[List.lookup_cons] at e
    cases q:y == n with
    |true=>rw[q] at e;cases e;rw[beq_iff_eq.mp q];exact hc
    |false=>rw[q] at e;exact ha y d e
   obtain⟨cl,e,h1,h2,h3,h4⟩:=Wp r ((n,c)::acc) (fun y hy=>hn y (List.mem_cons_of_mem _ hy)) ha'
   have hh:∀y,(∃d,acc.lookup y=some d)->∃d,((n,c)::acc).lookup y=some d:=fun y ⟨d,hd⟩=>by
    rw[List.lookup_cons]
    cases q:y == n with
    |true=>exact⟨c,rfl⟩
    |false=>exact⟨d,hd⟩
   have hs:∃d,((n,c)::acc).lookup n=some d:=⟨c,by rw[List.lookup_cons,beq_self_eq_true]⟩
   refine⟨cl,?_,h1,fun y hy=>h2 y (hh y hy),fun y hy hf=>?_,fun y d hd=>?_⟩
   ·have hcell:cellOf env n=pure c:=by simp only[cellOf,hc]
    simp only[beq_self_eq_true,if_true,hcell]
    simp only[pure_bind]
    exact e
   ·rcases List.mem_cons.mp hy with rfl|hy
    ·exact h2 _ hs
    ·exact h3 y hy hf
   ·rcases h4 y d hd with ⟨d',h⟩|h
    ·rw[List.lookup_cons] at h
     cases q:y == n with
     |true=>rw[beq_iff_eq.mp q];exact .inr List.mem_cons_self
     |false=>rw[q] at h;exact .inl ⟨d',h⟩
    ·exact .inr (List.mem_cons_of_mem _ h)
  ·obtain⟨cl,e,h1,h2,h3,h4⟩:=Wp r acc (fun y hy=>hn y (List.mem_cons_of_mem _ hy)) ha
   refine⟨cl,?_,h1,h2,fun y hy hf=>?_,fun y d hd=>?_⟩
   ·have hb:(k == NameKind.free)=false:=by simpa using hk
    simp only[hb,Bool.false_eq_true,if_false,pure_bind]
    exact e
   ·rcases List.mem_cons.mp hy with rfl|hy
    ·exact absurd hf hk
    ·exact h3 y hy hf
   ·rcases h4 y d hd with h|h
    ·exact .inl h
    ·exact .inr (List.mem_cons_of_mem _ h)
structure ZgQ (X:Cx)(scope:Scope)(cl:List (Str×Addr)):Prop where
 cells:∀y c,cl.lookup y=some c->X.env.cells.lookup y=some c
 all:∀y∈scope.names,y.2=.free->∃c,cl.lookup y.1=some c
 only:∀y c,cl.lookup y=some c->(y,NameKind.free)∈scope.names
theorem Zeg {X:Cx}{scope:Scope}(h:∀y∈scope.names,y.2=.free->∃c,X.env.cells.lookup y.1=some c):∃cl,closureFor scope X.env=pure cl/\ZgQ X scope cl:=by
 obtain⟨cl,e,h1,_,h3,h4⟩:=Wp (env:=X.env) scope.names [] h (fun y c e=>by simp at e)
 refine⟨cl,?_,h1,h3,fun y c hc=>?_⟩
 ·have q:closureFor scope X.env=((forIn scope.names ([]:List (Str×Addr)) (fun x r=>if (x.2 == NameKind.free)=true then (do let c <-cellOf X.env x.1;pure (ForInStep.yield ((x.1,c)::r))) else pure (ForInStep.yield r)):Sem (List (Str×Addr))) >>= fun cs=>pure cs):=rfl
  rw[q,e]
  rfl
 ·rcases h4 y c hc with ⟨d,h⟩|h
  ·cases h
  ·exact h
def V2 (qual:Str)(params:Arguments)(body:Expr)(scope:Scope)(cl:List (Str×Addr))(pm:Value)(c:Addr)(ct:Value):Obj:=⟨.type "function",none,.func (PySem.W.kla_fn "<lambda>" qual params body scope cl pm (.ref c) ct),#[]⟩
section
variable {X:Cx}
def Zha (X:Cx)(P:Addr)(pos:Pos)(qual:Str)(params:Arguments)(body:Expr)(scope:Scope):TE:=fun σ H Q=>Ja H P pos qual/\
 ∀f c ct cl pm H',ZgQ X scope cl->H f=none->Bt P H H'->Ja H' P pos qual->H' f=some (WM f (V2 qual params body scope cl pm c ct))->H' c=some (Wn c qual)->Q (.ref f) H'
theorem ZaG {P:Program}{w:World}{H:Hp}{h:Heap}{f:Addr}{o:Obj}(e:h.get? f=some o):ZG P w H h f (WM f o):=⟨e,⟨o,e⟩,fun _ _ h1 k=>k _ h1⟩
theorem ZcN {P:Program}{w:World}{H:Hp}{h:Heap}{c:Addr}{qual:Str}(e:h.CodeRec (.ref c) qual):ZG P w H h c (Wn c qual):=by
 refine⟨e,?_,fun h1 h2 r k=>?_⟩
 ·obtain⟨c',oc,vs,tq,hc,hoc,_⟩:=e
  cases hc
  exact⟨oc,hoc⟩
 ·obtain⟨c',oc,vs,tq,hc,hoc,r⟩:=r
  cases hc
  exact⟨c,oc,vs,tq,rfl,k _ hoc,r⟩
theorem Zff {c P:Addr}{params:Arguments}{body:Expr}{scope:Scope}{pos:Pos}(hcode:X.env.code=.ref c)(hc:PySem.W.codeHdIn X.K c P=true)(B:Jr X.base X.mg)(hdef:defaultsOf params X.env=([],[]))
  (hfr:∀y∈scope.names,y.2=.free->X.env.kindOf y.1=some .cell\/X.env.kindOf y.1=some .free) :
  PE X (.Lambda params body scope pos) (Zha X P pos (X.env.qual ++ "<lambda>") params body scope):=by
 intro pins s σ H Q I h
 obtain⟨⟨ps,h1,h2,h3⟩,q⟩:=h
 obtain⟨cl,hcl,C⟩:=Zeg (X:=X) (scope:=scope) fun y hy hf=>I.ok.has y.1 (hfr y hy hf)
 have C0:=PySem.W.codeHd_of_K I.kIn hc
 have hP:s.heap.get? P=some (PySem.W.tabObj ps):=I.hok P _ h1
 have hg:s.heap.Ns mainGlobals X.mg:=I.mod.glob.keeps I.bk
 have B1:Jr s.heap X.mg:=by
  obtain⟨bm,o,b1,b2,b3,b4⟩:=B
  exact⟨bm,o,b1,b2,I.bk _ _ b3,b4⟩
 obtain⟨hb,hne⟩:=B1.at hg hP
 refine PySem.W.kla_eval hdef ?_
 rcases h3 with h3|⟨c',h3,hc'⟩
 ·refine PySem.W.kla_makeFunction hcl I.ok.glob hg hcode C0 hP h2 h3 hne hb fun c' ctv h' tk hx hge hlt hrec htb=>?_
  have hPl:P<s.heap.objs.size:=Zp hP
  have cn:H c'=none:=I.hok.fresh hge
  have hsz:s.heap.objs.size<=h'.objs.size:=Nat.le_of_lt (Nat.lt_of_le_of_lt hge hlt)
  have fn:H h'.objs.size=none:=I.hok.fresh hsz
  have cP:c'≠P:=fun z=>by rw[z,h1] at cn;cases cn
  have fP:h'.objs.size≠P:=fun z=>by rw[z,h1] at fn;cases fn
  have fc:h'.objs.size≠c':=Nat.ne_of_gt hlt
  generalize hO:V2 (X.env.qual ++ "<lambda>") params body scope cl ((X.mg "__name__").getD .none) c' ctv=O
  generalize hps:ps ++ #[rawInt pos.line,rawInt pos.col,Value.ref c']=ps' at htb
  have lps:ps'.toList=ps.toList++[rawInt pos.line,rawInt pos.col,Value.ref c']:=by rw[<-hps];simp
  have kp:∀b o,b≠P->s.heap.get? b=some o->(h'.push O).get? b=some o:=fun b o hb e=>Zn _ (hx b o hb e)
  have hfO:(h'.push O).get? h'.objs.size=some O:=Zo _ (by rw[<-hO];rfl)
  have hPt:(h'.push O).get? P=some (PySem.W.tabObj ps'):=Zn _ htb
  have hcr:(h'.push O).CodeRec (.ref c') (X.env.qual ++ "<lambda>"):=by
   obtain⟨c2,oc,vs,tq,e1,e2,r⟩:=hrec
   exact⟨c2,oc,vs,tq,e1,Zn _ e2,r⟩
  have at1:∀b,b≠P->b≠c'->b≠h'.objs.size->upd (upd (upd H P (.tbl ps')) c' (Wn c' (X.env.qual ++ "<lambda>"))) h'.objs.size (WM h'.objs.size O) b=H b:=fun b b1 b2 b3=>by rw[Zw b3,Zw b2,Zw b1]
  have atP:upd (upd (upd H P (.tbl ps')) c' (Wn c' (X.env.qual ++ "<lambda>"))) h'.objs.size (WM h'.objs.size O) P=some (.tbl ps'):=by rw[Zw fP.symm,Zw cP.symm,Zs]
  have atC:upd (upd (upd H P (.tbl ps')) c' (Wn c' (X.env.qual ++ "<lambda>"))) h'.objs.size (WM h'.objs.size O) c'=some (Wn c' (X.env.qual ++ "<lambda>")):=by rw[Zw fc.symm,Zs]
  have atF:upd (upd (upd H P (.tbl ps')) c' (Wn c' (X.env.qual ++ "<lambda>"))) h'.objs.size (WM h'.objs.size O) h'.objs.size=some (WM h'.objs.size O):=Zs
  generalize upd (upd (upd H P (.tbl ps')) c' (Wn c' (X.env.qual ++ "<lambda>"))) h'.objs.size (WM h'.objs.size O)=H' at at1 atP atC atF
  have old:∀b u,H b=some u->b≠P->H' b=some u:=fun b u e hb=>by
   rw[at1 b hb (fun z=>by rw[z,cn] at e;cases e) (fun z=>by rw[z,fn] at e;cases e)]
   exact e
  have ltN:∀b o,s.heap.get? b=some o->b≠c'/\b≠h'.objs.size:=fun b o e=>⟨Nat.ne_of_lt (Nat.lt_of_lt_of_le (Zp e) hge),Nat.ne_of_lt (Nat.lt_of_lt_of_le (Zp e) hsz)⟩
  have nP:∀b,H b=none->b≠P:=fun b n z=>by rw[z,h1] at n;cases n
  have un:Un X.fs [] H H' s.heap (h'.push O):={
   keep:=fun b o e n _ _=>kp b o (nP b n) e
   slot:=fun b o e n _ _=>⟨o.slots,kp b o (nP b n) e⟩
   free:=fun b o e n _=>by rw[at1 b (nP b n) (ltN b o e).1 (ltN b o e).2];exact n
   there:=fun b o e _=>by
    by_cases hb:b=P
    ·rw[hb];exact⟨_,hPt⟩
    ·exact⟨o,kp b o hb e⟩
   tups:=fun b xs e=>old b _ e (fun z=>by rw[z,h1] at e;cases e)
   frzs:=fun b o u e=>old b _ e (fun z=>by rw[z,h1] at e;cases e)
   tbls:=fun b qs e=>by
    by_cases hb:b=P
    ·rw[hb,h1] at e
     cases e
     exact⟨#[rawInt pos.line,rawInt pos.col,Value.ref c'],by rw[hb,atP,hps]⟩
    ·exact⟨#[],by rw[old b _ e hb];simp⟩}
  have hok:Ww X.prog X.w H' (h'.push O):=fun b u e=>by
   by_cases b1:b=P
   ·subst b1
    rw[atP] at e
    cases e
    exact hPt
   by_cases b2:b=c'
   ·subst b2
    rw[atC] at e
    cases e
    exact ZcN hcr
   by_cases b3:b=h'.objs.size
   ·subst b3
    rw[atF] at e
    cases e
    exact ZaG hfO
   rw[at1 b b1 b2 b3] at e
   refine (I.hok b u e).stay (fun c' v hc r=>kp c' v ?_ r) (fun c' r=>old c' _ r fun z=>by rw[z,h1] at r;cases r) fun c' xs r=>old c' _ r fun z=>by rw[z,h1] at r;cases r
   rcases hc with z|z
   ·rw[z];exact b1
   ·intro y;rw[y,h1] at z;cases z
  have I2:Inv X pins σ H' {s with heap:=h'.push O,toks:=tk}:=I.un un hok
  refine⟨.ref h'.objs.size,H',?_,rfl,?_⟩
  ·rw[<-hO] at I2
   exact I2
  ·refine q _ c' ctv cl _ H' C fn (fun b o e n=>old b o e n) ⟨ps',atP,?_,.inr ⟨c',?_,atC⟩⟩ (by rw[atF,<-hO]) atC
   ·rw[lps];exact TriplesOk_snoc _ _ _ _ h2
   ·rw[lps];exact codeAmong_snoc _ h2 h3
 ·refine PySem.W.kla_makeFunctionHit hcl I.ok.glob hg hcode C0 hP h2 h3 hb fun ctv h' tk hk hsz=>?_
  have hn:H h'.objs.size=none:=I.hok.fresh hsz
  have kp:∀b o,s.heap.get? b=some o->(h'.push (V2 (X.env.qual ++ "<lambda>") params body scope cl ((X.mg "__name__").getD .none) c' ctv)).get? b=some o:=fun b o e=>Zn _ (hk b o e)
  have hf:(h'.push (V2 (X.env.qual ++ "<lambda>") params body scope cl ((X.mg "__name__").getD .none) c' ctv)).get? h'.objs.size=some (V2 (X.env.qual ++ "<lambda>") params body scope cl ((X.mg "__name__").getD .none) c' ctv):=Zo _ rfl
  refine⟨.ref h'.objs.size,upd H h'.objs.size (WM h'.objs.size (V2 (X.env.qual ++ "<lambda>") params body scope cl ((X.mg "__name__").getD .none) c' ctv)),?_,rfl,?_⟩
  ·exact I.un (Un.laid kp hsz hn) (I.hok.laid kp hsz (ZaG hf))
  ·have sm:=Zv.upd (H:=H) (o:=WM h'.objs.size (V2 (X.env.qual ++ "<lambda>") params body scope cl ((X.mg "__name__").getD .none) c' ctv)) hn
   exact q _ c' ctv cl _ _ C hn (.of sm) (Ja.mono sm ⟨ps,h1,h2,.inr ⟨c',h3,hc'⟩⟩) Zs (sm _ _ hc')
end
structure Zdo (ts:List Addr)(H:Hp):Prop where
 only:∀b,H b=none\/(∃o xs,H b=some (.frz o (.lst xs)))\/(b∈ts/\H b=some (.tbl #[]))
 tabs:∀b∈ts,H b=some (.tbl #[])
structure TabAt (K:PySem.W.Frag)(h:Heap)(P:Addr):Prop where
 isT:isCodeTable h P
 at_:h.get? P=some (PySem.W.tabObj #[])
 noK:K.lookup P=none
theorem Zbv {P:Program}{w:World}{K:PySem.W.Frag}{mg mb:Str->Option Value}{CX:Jq}{k:Nat}{fa a:Addr}{fd:FuncData}{x:Str}{sp:Sp}{s₁:Shared}{vs:List Value}{ns:List Int}{ts:List Addr}(hts:∀b∈ts,TabAt K s₁.heap b)
  (KX:K.In s₁.heap) (hns:s₁.heap.Ns mainGlobals mg) (hb:s₁.heap.Ns builtinsNs mb) (hbb:∀x:Str,x ≠ "__name__"->mb x=bootBuiltins x) (hlim:s₁.heap.NoLimit) (hg:s₁.gens=#[])
  (ha:s₁.heap.get? a=some {cls:=.type "list",data:=.seq vs.toArray}) (hi:IntsAre vs ns) (hl:ns.length<=sizeLine) (hr:Yb k callerA)
  (F:∀base:Heap,K.In base->base.Ns mainGlobals mg->Jr base mg->ZY P w K mg base CX k fa fd [x] sp) (hbm:Jr s₁.heap mg) (hbind:∀(s:Shared) (u:Value),BindsTo s fd ⟨[u],[]⟩ [(x,u)])
  (hsp:∀H:Hp,Zdo ts H->Wa K H a (ns.map V.int)->sp [.ref a] H (fun v _=>v=.bl true) fun _ _ _=>False)
  (hCX:∀H e s',CX [] H s₁ (fun _ _ _=>False) e s'->False) :
  codeAny (model P w) callerA (.call (.ref fa) ⟨[.ref a],[]⟩) (fun r s'=>r=.ok (.ret (.bool true))/\OldK s₁.heap s'.heap/\s'.os=s₁.os/\AllBare s'.gens) s₁:=by
 have rv:=XG hi
 have lenV:=hi.length
 have ant:a∉ts:=fun z=>by
  have:=(hts a z).at_
  rw[ha] at this
  cases this
 have core:∀H:Hp,Zdo ts H->Wa K H a (ns.map V.int)->Ww P w H s₁.heap->(∀b,H b≠none->b=a\/b∈ts)->(H a≠none->K.lookup a=none)->
   codeAny (model P w) callerA (.call (.ref fa) ⟨[.ref a],[]⟩) (fun r s'=>r=.ok (.ret (.bool true))/\OldK s₁.heap s'.heap/\s'.os=s₁.os/\AllBare s'.gens) s₁:=by
  intro H hO hS hok hA hK
  have base_of:∀{b:Addr}{o:Obj},s₁.heap.get? b=some o->H b=none->(Xx s₁.heap H).get? b=some o:=fun e n=>Zc0 e n
  have noA:∀{b:Addr}{o:Obj}{es:Array DictEntry}{ep:Nat},s₁.heap.get? b=some o->o.data=.dict es ep->H b=none:=fun {b o es ep} e d=>by
   cases q:H b with
   |none=>rfl
   |some u=>
    rcases hA b (by rw[q];simp) with e'|e'
    ·subst e'
     rw[ha] at e;cases e
     have d':Data.seq vs.toArray _=Data.dict es ep:=d
     cases d'
    ·rw[(hts b e').at_] at e;cases e
     cases d
  have nsK:∀{b:Addr}{m:Str->Option Value},s₁.heap.Ns b m->(Xx s₁.heap H).Ns b m:=fun {b m} ⟨o,es,ep,e,d,r⟩=>⟨o,es,ep,base_of e (noA e d),d,r⟩
  have hKb:K.In (Xx s₁.heap H):=fun b o e=>base_of (KX b o e) (by
   cases q:H b with
   |none=>rfl
   |some u=>
    rcases hA b (by rw[q];simp) with e'|e'
    ·subst e'
     rw[hK (by rw[q];simp)] at e;cases e
    ·rw[(hts b e').noK] at e;cases e)
  have hM:Mod K mg (Xx s₁.heap H):=⟨hKb,nsK hns,⟨mb,nsK hb,hbb⟩,let ⟨mc,h1,h2⟩:=hlim;⟨mc,nsK h1,h2⟩⟩
  have e0:VB P w K mg (Xx s₁.heap H) callerA [] s₁ H:=⟨rfl,hM,fun b o e=>ZdX e,Nat.le_of_eq (ZbC _ _),trivial,fun b hb=>absurd (show b∈([]:List Addr) from hb) (by simp),hok,.of_eq hg⟩
  have bmK:Jr (Xx s₁.heap H) mg:=by
   obtain⟨bm,o,b1,b2,b3,b4,b5,b6⟩:=hbm
   refine⟨bm,o,b1,b2,base_of b3 ?_,b4,b5,b6⟩
   cases q:H bm with
   |none=>rfl
   |some u=>
    rcases hA bm (by rw[q];simp) with e'|e'
    ·subst e'
     rw[ha] at b3;cases b3
     cases b6
    ·rw[(hts bm e').at_] at b3;cases b3
     cases b6
  refine codeAny_mono ((F _ hKb (nsK hns) bmK).run callerA [] s₁ H ⟨[.ref a],[]⟩ [.ref a] [.ref a] _ _ hr e0 (hbind s₁ (.ref a)) (.cons rfl .nil) (hsp H hO hS)) fun r s' h=>?_
  cases r with
  |error e=>exact (hCX H e s' h).elim
  |ok fl=>
   cases fl with
   |next=>exact False.elim h
   |brk=>exact False.elim h
   |cont=>exact False.elim h
   |ret u=>
    obtain⟨v,H',os,bare,un,hok',r',q⟩:=h
    have q':v=.bl true:=q
    subst q'
    obtain rfl:u=Value.bool true:=r'
    have key:∀b o,s₁.heap.get? b=some o->s'.heap.get? b=some o\/(isCodeTable s₁.heap b/\o=PySem.W.tabObj #[]/\∃ps,s'.heap.get? b=some (PySem.W.tabObj ps)):=fun b o e=>by
     cases q:H b with
     |none=>exact .inl (un.keep b o e q (by intro z;exact absurd (show b∈([]:List Addr) from z) (by simp)) (by simp))
     |some u=>
      rcases hO.only b with z|⟨ob,xs,z⟩|⟨hm,z⟩
      ·rw[q] at z;cases z
      ·have z2:=un.frzs b ob _ z
       obtain⟨e1,_⟩:=hok b _ z
       obtain⟨e2,_⟩:=hok' b _ z2
       rw[e] at e1;cases e1
       exact .inl e2
      ·obtain⟨more,z2⟩:=un.tbls b _ z
       have e1:=(hts b hm).at_
       rw[e] at e1;cases e1
       exact .inr ⟨(hts b hm).isT,rfl,_,hok' b _ z2⟩
    refine⟨rfl,⟨fun b o e=>?_,fun b o e=>?_⟩,os,bare⟩
    ·rcases key b o e with h|⟨t1,rfl,ps,hp⟩
     ·exact .inl h
     ·exact .inr (.inl ⟨t1,rfl,#[],ps,rfl,by rw[Array.empty_append];exact hp⟩)
    ·rcases key b o e with h|⟨t1,rfl,ps,hp⟩
     ·exact⟨o,h⟩
     ·exact⟨_,hp⟩
 have YX:∀{H:Hp}{b:Addr},b∈ts->ZG P w H s₁.heap b (.tbl #[]):=fun {H b} hm=>(hts b hm).at_
 cases hk:K.lookup a with
 |some o=>
  have e:=KX a o hk
  rw[ha] at e
  cases e
  refine core (fun b=>if b∈ts then some (.tbl #[]) else none) ⟨fun b=>?_,fun b hm=>if_pos hm⟩ (.inr ⟨_,vs.toArray,_,hk,rfl,rfl,rfl,by rw[Zh,lenV];exact hl,by simpa using rv⟩) (fun b u z=>?_) (fun b z=>?_) fun z=>absurd (if_neg ant) z
  ·by_cases hm:b∈ts
   ·exact .inr (.inr ⟨hm,if_pos hm⟩)
   ·exact .inl (if_neg hm)
  ·by_cases hm:b∈ts
   ·have z':=(if_pos hm).symm.trans z
    cases z'
    exact YX hm
   ·have z':=(if_neg hm).symm.trans z
    cases z'
  ·by_cases hm:b∈ts
   ·exact .inr hm
   ·exact absurd (if_neg hm) z
 |none=>
  refine core (fun b=>if b=a then some (.frz {cls:=.type "list",data:=.seq vs.toArray} (.lst (ns.map V.int))) else if b∈ts then some (.tbl #[]) else none) ⟨fun b=>?_,fun b hm=>?_⟩ (.inl (.inr ⟨{cls:=.type "list",data:=.seq vs.toArray},if_pos rfl⟩)) (fun b u z=>?_) (fun b z=>?_) fun _=>hk
  ·by_cases hb:b=a
   ·exact .inr (.inl ⟨_,_,if_pos hb⟩)
   ·by_cases hm:b∈ts
    ·exact .inr (.inr ⟨hm,by rw[if_neg hb,if_pos hm]⟩)
    ·exact .inl (by rw[if_neg hb,if_neg hm])
  ·show (if b=a then _ else if b∈ts then _ else _)=_
   rw[if_neg (fun z:b=a=>ant (z▸hm)),if_pos hm]
  ·by_cases hb:b=a
   ·have z':=(if_pos hb).symm.trans z
    cases z'
    subst hb
    exact⟨ha,by rw[Za];exact hl,vs,_,rv,ha⟩
   ·by_cases hm:b∈ts
    ·have z:(if b=a then _ else if b∈ts then some (HO.tbl #[]) else none)=some u:=z
     rw[if_neg hb,if_pos hm] at z
     cases z
     exact YX hm
    ·have z:(if b=a then _ else if b∈ts then some (HO.tbl #[]) else none)=some u:=z
     rw[if_neg hb,if_neg hm] at z
     cases z
  ·by_cases hb:b=a
   ·exact .inl hb
   ·by_cases hm:b∈ts
    ·exact .inr hm
    ·exact absurd (show (if b=a then _ else if b∈ts then _ else none)=none by rw[if_neg hb,if_neg hm]) z
def Za4 (K:PySem.W.Frag)(x:Str)(c P:Addr):Bool:=(PySem.W.tabIn K x == some (c,P)) && (K.lookup P).isNone
theorem ZbZ {l:PySem.W.OpenLaw}{n k:Nat}{q:Program}{loose:List Str}{XP:(Str->Option Value)->Heap->Prop}{YP:World->Heap->Prop}{d:DefRec}{K:Params->PySem.W.Frag}{CX:World->Jq}{sp:World->Sp}{x:Str}{xs:List (Str×Addr×Addr)}
  (hxs:∀w:World,∀y∈xs,Za4 (K w.params) y.1 y.2.1 y.2.2=true) (hq:∀y∈xs,((recsOf q).find? fun e=>e.name == y.1).isSome=true)
  (hn:l.most=some n) (hn2:n<=sizeLine) (hdf:d.params.defaults=[]) (hr:Yb k callerA)
  (hY:∀(w:World) (h:Heap),YP w h->(K w.params).In h)
  (F:∀(w:World) (mg:Str->Option Value) (fa:Addr) (h:Heap),(K w.params).In h->h.Ns mainGlobals mg->mg d.name=some (.ref fa)->
   ∃fd:FuncData,(∀(s:Shared) (u:Value),BindsTo s fd ⟨[u],[]⟩ [(x,u)])/\
    ∀base:Heap,(K w.params).In base->base.Ns mainGlobals mg->Jr base mg->ZY l.prog w (K w.params) mg base (CX w) k fa fd [x] (sp w))
  (hsp:∀(w:World) (H:Hp) (a:Addr) (ns:List Int),ns.length<=n->Zdo (xs.map (·.2.2)) H->Wa (K w.params) H a (ns.map V.int)->sp w [.ref a] H (fun v _=>v=.bl true) fun _ _ _=>False)
  (hCX:∀(w:World) (H:Hp) (s:Shared) (e:Value) (s':Shared),CX w [] H s (fun _ _ _=>False) e s'->False) :
  PySem.W.WalkO q loose XP YP l.row.toRowW d [] (fun f vs=>PySem.call f vs):=by
 refine Att.Uu hn hdf fun w s₀ s₁ mg mb fa o pm cd doc a vs ns G Y ho hd hcd hmg hobj hints hlen hg=>?_
 have KX:=hY w _ Y
 obtain⟨fd,hb,hF⟩:=F w mg fa _ KX G.T.g hmg
 refine Zbv (ts:=xs.map (·.2.2)) (fun b hm=>?_) KX G.T.g G.T.b G.T.builtins G.T.nolimit hg hobj hints (Nat.le_trans hlen hn2) hr hF G.T.bmain hb (fun H hO hS=>hsp w H a ns hlen hO hS) fun H e s'=>hCX w H s₁ e s'
 obtain⟨y,hy,rfl⟩:=List.mem_map.mp hm
 have h1:=hxs w y hy
 unfold Za4 at h1
 rw[Bool.and_eq_true] at h1
 obtain⟨dd,hdd⟩:=Option.isSome_iff_exists.mp (hq y hy)
 obtain⟨C,hP⟩:=PySem.W.tab_of G.T KX hdd (by simpa using h1.1)
 exact⟨(C.tab hP).isCodeTable,hP,Option.isNone_iff_eq_none.mp h1.2⟩
theorem ZD.lawT {P:Program}{w:World}{K:PySem.W.Frag}{mg:Str->Option Value}{h:Heap}{CX:Jq}{k:Nat}{x:Str}{p:Str}{sp:Sp}{st:Stmt}{fa:Addr}(D:ZD K x st)(X:K.In h)(G:h.Ns mainGlobals mg)(hfa:mg x=some (.ref fa))
  (hok:∀(base:Heap) f fd,base.Ns mainGlobals mg->K.In base->Jr base mg->W8 K x x st f fd->ZY P w K mg base CX k f fd [p] sp)
  (hb:∀(kV doc pm:Value) (an:Option Addr) (cdv ct:Value) (s:Shared) (u:Value),BindsTo s (PySem.W.fnOf x x (Z0 st) (ZL st) (ZB st) .none kV doc pm an cdv ct) ⟨[u],[]⟩ [(p,u)]) :
  ∃fd:FuncData,(∀(s:Shared) (u:Value),BindsTo s fd ⟨[u],[]⟩ [(p,u)])/\∀base:Heap,K.In base->base.Ns mainGlobals mg->Jr base mg->ZY P w K mg base CX k fa fd [p] sp:=by
 obtain⟨f,oc,od,an,osl,kV,doc,pm,cdv,ct,a,l,c,kp⟩:=D
 have e:=hfa.symm.trans (PySem.W.mg_of X G a)
 cases e
 exact⟨_,fun s u=>hb kV doc pm an cdv ct s u,fun base kb nb bb=>hok base _ _ nb kb bb (Xh l c kp)⟩
theorem ZD.fnC {P:Program}{w:World}{K:PySem.W.Frag}{mg:Str->Option Value}{base h:Heap}{CX:Jq}{k:Nat}{x:Str}{ps:List Str}{sp:Sp}{st:Stmt}{c Pt:Addr}(D:ZD K x st)(hT:Za4 K x c Pt=true)(X:K.In h)(G:h.Ns mainGlobals mg)
  (hok:∀f fd,W8 K x x st f fd->fd.code=.ref c->ZY P w K mg base CX k f fd ps sp)
  (hb:∀(kV doc pm:Value) (an:Option Addr) (cdv ct:Value) (us:List Value),us.length=ps.length->bindArgs (PySem.W.fnOf x x (Z0 st) (ZL st) (ZB st) .none kV doc pm an cdv ct) ⟨us,[]⟩=pure (ps.zip us)) :
  Fn P w K mg base CX k x ps sp:=by
 obtain⟨f,oc,od,an,osl,kV,doc,pm,cdv,ct,a,l,cc,kp⟩:=D
 have hc:cdv=.ref c:=by
  unfold Za4 at hT
  rw[Bool.and_eq_true] at hT
  have h1:=hT.1
  unfold PySem.W.tabIn at h1
  rw[a] at h1
  simp only[l] at h1
  have h1:=beq_iff_eq.mp h1
  split at h1
  ·split at h1
   ·split at h1
    ·cases h1;rfl
    ·cases h1
   ·cases h1
  ·cases h1
 exact Fn.mk X G a l cc kp (fun fd F=>hok f fd F (by
  obtain⟨oc',od',kV',doc',pm',an',cdv',ct',osl',e,l',_⟩:=F.ex
  rw[l] at l'
  injection l' with l'
  injection l' with _ _ l' _
  injection l' with l'
  rw[<-l']
  exact hc)) hb
theorem Zfu {sc esc:Scope}(h:(sc.names.all fun y=>y.2 != .free || (match esc.names.lookup y.1 with|some .cell=>true|some .free=>true|_=>false))=true):∀y∈sc.names,y.2=.free->esc.names.lookup y.1=some .cell\/esc.names.lookup y.1=some .free:=by
 intro y hy hf
 have h1:=List.all_eq_true.mp h y hy
 rw[hf] at h1
 have h1:(match esc.names.lookup y.1 with|some .cell=>true|some .free=>true|_=>false)=true:=h1
 split at h1
 ·rename_i q;exact .inl q
 ·rename_i q;exact .inr q
 ·cases h1
theorem Ja.ne {H:Hp}{P:Addr}{pos:Pos}{qual:Str}(t:Ja H P pos qual){b:Addr}{o:HO}(h:H b=Option.some o)(ho:∀ps,o≠.tbl ps):b≠P:=fun z=>by
 obtain⟨ps,h1,_⟩:=t
 rw[z,h1] at h
 cases h
 exact ho ps rfl
theorem VM {H:Hp}{a:Addr}{o:HO}(e:H a=some o):Zv (upd (fun _=>none) a o) H:=by
 intro b o' h
 by_cases hb:b=a
 ·subst hb
  rw[Zs] at h
  cases h
  exact e
 ·rw[Zw hb] at h
  cases h
section
variable {X:Cx}
def Zb5 (P:Program)(w:World)(K:PySem.W.Frag)(mg:Str->Option Value)(base:Heap)(CX:Jq)(k i:Nat)(E:XK)(t:TA):TE:=fun σ H Q=>∃f fd ps sp,σ[i]?=some (some (.ref f))/\PySem.W.keepIn K (.ref f)=true/\ZY P w K mg base CX k f fd ps sp/\Binds K fd ps []/\t σ H fun vs H1=>sp vs H1 Q E
theorem ZcH {CX:Jq}{k j i:Nat}{x:Str}{E:XK}{e:Expr}{es:List Expr}{t:TA}{p pos:Pos}(hr:Yb j X.A)(hx:YC CX X E)(hv:PE X (.Name x p) (JQ i))(ha:PA X (e::es) t)(hk:k<=j:=by decide)
  (he:starEach (e::es) X.env=(false,eval e X.env)::starEach es X.env:=by rfl) (hpl:(backTo pos (starEach es X.env)).any (·.1)=false:=by rfl) :
  PE X (.Call (.Name x p) (e::es) [] pos) (Zb5 X.prog X.w X.K X.mg X.base CX k i E t):=by
 intro pins s σ H Q I h
 obtain⟨f,fd,ps,sp,h1,kp,F,B,h3⟩:=h
 refine wpAny_Call_Name_kw (ZT (hv pins s σ H (fun v H1=>v=.ref f/\H1=H) I ⟨_,h1,rfl,rfl⟩) fun u s1 ⟨v,H1,I1,rv,e1,e2⟩=>?_)
 subst e1
 subst e2
 cases rv
 refine PySem.W.callWith_K (h₀:=X.base) I1.ok.mod.kin kp (ZT (ha pos pins s1 σ H1 _ I1 h3) fun us s2 ⟨vs,H2,I2,r,q⟩=>⟨I2.kIn,?_⟩) he hpl
 refine UO (dvs:=[]) (ds:=[]) F (hr.mono hk) B .nil hx I2 r ?_
 rw[List.append_nil]
 exact q
theorem ck (P:Program)(w:World)(K:PySem.W.Frag)(mg:Str->Option Value)(base:Heap){j:Nat}{x:Str}{e:Expr}{es:List Expr}{t:TA}{p pos:Pos}(i:Nat)(hv:PE X (.Name x p) (JQ i))(ha:PA X (e::es) t)(hr:Yb j X.A)
  (e1:X.prog=P:=by rfl) (e2:X.w=w:=by rfl) (e3:X.K=K:=by rfl) (e4:X.mg=mg:=by rfl) (e5:X.base=base:=by rfl) (hk:1<=j:=by decide) (he:YO e=true:=by rfl) (hpl:Yx es=true:=by rfl) :
  PE X (.Call (.Name x p) (e::es) [] pos) (Zb5 P w K mg base Yv 1 i E0 t):=by
 subst e1 e2 e3 e4 e5
 exact ZcH hr ZS hv ha hk (Yz he) (Yo hpl)
theorem Zhu {x:Str}{f:Addr}{pos:Pos}(hm:X.mg x=some (.ref f))(hg:Z9 X.env.scope x=true:=by kernel_rfl)(hd:(x == ("__debug__":Str))=false:=by kernel_rfl):PE X (.Name x pos) (tC (.ref f)):=Vi (YZ hg) hm rfl hd
end
end L2
namespace PyS
open PySem PySem.SetTable
end PyS
namespace PyS
open PySem
section
variable {prog:Program}{w:World}{A:Around}{E:Value->Shared->Prop}{s:Shared}{I a:Addr}{es:Array (Int×Value)}{ep:Nat}{t:SetTable}{first:Value}{i n:Nat}
end
section
variable {prog:Program}{w:World}{A:Around}{E:Value->Shared->Prop}{s:Shared}{I a:Addr}{es:Array (Int×Value)}{ep:Nat}{t:SetTable}{first:Value}{i n:Nat}
end
end PyS
namespace PyS
open PySem PySem.W PyProof.Rows PySem.Calls PyProof.V PySem.Spec
section
variable {prog:Program}{w:World}{A:Around}{E:Value->Shared->Prop}{s:Shared}{a:Addr}{es:Array (Int×Value)}{ep:Nat}{t:SetTable}
structure Src (prog:Program)(w:World)(T:String)(a d:Addr)(n:Nat)(Good:(Nat->Value->Prop)->Prop)(OK:Heap->Prop):Prop where
 type:∀s:Shared,OK s.heap->s.TypeIs (.ref a) T
 there:∀s:Shared,OK s.heap->d<s.heap.objs.size
 keep:∀h h':Heap,OK h->(∀b o,h.get? b=some o->h'.get? b=some o)->OK h'
 notList:(Value.type T == Value.type "list")=false
 notTuple:(Value.type T == Value.type "tuple")=false
 hint:∀(A:Around) (E:Value->Shared->Prop) (s:Shared) (Q:Bool->Shared->Prop),OK s.heap->Q false s->wpAny (model prog w) A (Builtin.List.listLengthHint (.ref a)) Q E s
 iter:∀(A:Around) (E:Value->Shared->Prop) (s:Shared) (Q:Value->Shared->Prop),OK s.heap->
  (∀(I:Addr) (fp:List Addr) (h':Heap) (dr:Drawn) (P:Nat->Value->Prop) (St:Nat->Heap->Prop),s.heap.objs.size<=I->(∀b∈fp,b=a\/b=d\/s.heap.objs.size<=b)->(∀b o,s.heap.get? b=some o->h'.get? b=some o)->Good P->
   (∀A':Around,A'.handled=none->Walks prog w A' I fp [I] n P St)->St 0 h'->Q (.ref I) {s with heap:=h',drawn:=dr})->wpAny (model prog w) A (pyIter (.ref a)) Q E s
section
variable {T:String}{d:Addr}{n:Nat}{Good:(Nat->Value->Prop)->Prop}{OK:Heap->Prop}
theorem UJ {R:Result->Shared->Prop}(C:Src prog w T a d n Good OK)(hh:A.handled=none)(hz:n<=sizeLine)(hok:OK s.heap)(S:Addr)(hSa:S≠a)(hSd:S≠d)(res:Value)(c₀:Nat)(hL:s.heap.get? S=some {cls:=.type "list",data:=.seq #[] c₀})
  (hR:∀h' dr tk (acc':Array Value) c' P,(∀b o,b≠S->s.heap.get? b=some o->h'.get? b=some o)->h'.get? S=some {cls:=.type "list",dict:=none,data:=.seq acc' c',slots:=#[]}->Good P->ItemsOf P acc' n->R (.ok (.ret res)) {s with heap:=h',drawn:=dr,toks:=tk}) :
  wpAny (model prog w) A.in1 (Builtin.List.listExtendWith (.ref S) (.ref a) res)
   (fun fin s'=>match fin with | .done f=>R (.ok f) s' | .again c'=>c'.quiet=true/\codeAny (model prog w) A c' R s') (fun e s'=>R (.error e) s') s:=by
 have hlt:S<s.heap.objs.size:=Zp hL
 unfold Builtin.List.listExtendWith
 refine Zl (wpAny_typeOf (T:=T) (C.type s hok) ?_)
 have h1:Builtin.List.listSameRef (.ref S) (.ref a)=false:=by simp[Builtin.List.listSameRef,hSa]
 simp only[h1,C.notList,C.notTuple,Bool.or_false,Bool.false_eq_true,if_false]
 refine Zl (C.iter _ _ _ _ hok fun I fp h' dr P St hI hfp hk hp Wk' st=>?_)
 have hSf:S∉fp:=fun z=>by
  rcases hfp S z with e|e|e
  ·exact hSa e
  ·exact hSd e
  ·exact absurd hlt (Nat.not_lt.mpr e)
 have key:∀(h:Heap) (c₁ tk:Nat),St 0 h->(∀b o,b≠S->s.heap.get? b=some o->h.get? b=some o)->
   h.get? S=some {cls:=.type "list",data:=.seq #[] c₁}->codeAny (model prog w) A (.builtin "list.extend.loop" ⟨[.ref S,.ref I,res],[]⟩) R {s with heap:=h,drawn:=dr,toks:=tk}:=by
  intro h c₁ tk hst hk hS₁
  refine codeAny_extend_loopS (Wk' A.in1 hh).toS hz S hSf res n 0 _ #[] c₁ rfl (Nat.zero_le _) hst hS₁ (ItemsOf.nil _) fun s' acc' c' hm hS' hacc=>?_
  rw[Moved.eq_with hm]
  refine hR s'.heap dr s'.toks acc' c' P (fun b o hb e=>hm.heap b o (fun hmem=>?_) (hk b o hb e)) hS' hp hacc
  rcases List.mem_cons.mp hmem with e'|hmem
  ·exact hb e'
  ·exact absurd (Zp e) (by rw[List.mem_singleton.mp hmem];exact Nat.not_lt.mpr hI)
 have hS₁:=hk S _ hL
 refine Zl (wpAny_holding (C.hint _ _ {s with heap:=h',drawn:=dr} _ (C.keep _ _ hok fun b o e=>hk b o e) ?_))
 refine wpAny_ite_split (fun _=>?_) (fun _=>Zm ⟨plainId_quiet PySem.F.plain_extend_loop _,key _ c₀ _ st (fun b o _ e=>hk b o e) hS₁⟩)
 refine Zl (wpAny_rule ?_)
 refine Zl ?_
 show wpAny _ _ (updateSeq S (·.push .none) >>= fun _=>updateSeq S (·.pop)) _ _ _
 refine Zl (wpAny_updateSeq hS₁ rfl ?_)
 have hS₂:=Heap.get?_update_self (Obj.mapSeq (·.push Value.none)) hS₁ rfl
 refine wpAny_updateSeq (hz:=by seq_fits) hS₂ rfl ?_
 have hS₃:=Heap.get?_update_self (Obj.mapSeq (·.pop)) hS₂ rfl
 refine Zm ⟨plainId_quiet PySem.F.plain_extend_loop _,key _ _ _ ?_ (fun b o hb e=>?_) hS₃⟩
 ·refine (Wk' A.in1 hh).frame 0 _ _ st fun b hb o e=>?_
  have hbS:b≠S:=fun h=>hSf (h▸hb)
  exact (Heap.get?_update_other _ _ (Ne.symm hbS)).trans ((Heap.get?_update_other _ _ (Ne.symm hbS)).trans e)
 ·exact (Heap.get?_update_other _ _ (Ne.symm hb)).trans ((Heap.get?_update_other _ _ (Ne.symm hb)).trans (hk b o e))
theorem Jt {R:List Value->Shared->Prop}(C:Src prog w T a d n Good OK)(hh:A.handled=none)(hz:n<=sizeLine)(hok:OK s.heap)
  (h:∀(h':Heap) (dr:Drawn) (tk:Nat) (acc:Array Value) (P:Nat->Value->Prop),s.heap.objs.size<h'.objs.size->(∀b o,s.heap.get? b=some o->h'.get? b=some o)->Good P->ItemsOf P acc n->R acc.toList {s with heap:=h',drawn:=dr,toks:=tk}) :
  wpAny (model prog w) A (collect (.ref a)) R E s:=by
 have ha:a<s.heap.objs.size:=let ⟨o,e,_⟩:=C.type s hok;Zp e
 unfold collect
 refine Zl (wpAny_runValue (codeAny_builtin entry_proto_collect' ?_))
 rw[Around.under_plainId PySem.F.plain_proto_collect _]
 show wpAny _ A.in1 (newList [] >>= fun l=>again (.builtin "list.__iadd__" ⟨[l,.ref a],[]⟩)) _ _ s
 refine Zl (wpAny_newObj_type ?_)
 refine Zm ⟨plainId_quiet PySem.F.plain_list_iadd _,codeAny_builtin entry_list_iadd' ?_⟩
 rw[Around.under_plainId PySem.F.plain_list_iadd _]
 have hS₁:(s.heap.push {cls:=.type "list",data:=.seq ([]:List Value).toArray}).get? s.heap.objs.size=some {cls:=.type "list",data:=.seq #[]}:=Zo _ rfl
 show wpAny _ A.in1 (Builtin.List.listExtendWith (.ref s.heap.objs.size) (.ref a) (.ref s.heap.objs.size)) _ _ _
 have key:=UJ (prog:=prog) (w:=w) (A:=A) (s:={s with heap:=s.heap.push {cls:=.type "list",data:=.seq ([]:List Value).toArray}})
  (R:=fun (q:Result) (s':Shared)=>∃(h':Heap) (dr:Drawn) (tk:Nat) (acc':Array Value) (c':Nat) (P:Nat->Value->Prop),q=.ok (.ret (.ref s.heap.objs.size))/\s'={s with heap:=h',drawn:=dr,toks:=tk}/\
   (∀b o,s.heap.get? b=some o->h'.get? b=some o)/\h'.get? s.heap.objs.size=some {cls:=.type "list",dict:=none,data:=.seq acc' c',slots:=#[]}/\Good P/\ItemsOf P acc' n)
  C hh hz (C.keep _ _ hok fun b o e=>Zn _ e) s.heap.objs.size (Nat.ne_of_gt ha) (Nat.ne_of_gt (C.there _ hok)) (.ref s.heap.objs.size) 0 hS₁
  (fun h' dr tk acc' c' P hk hS' hg hacc=>⟨h',dr,tk,acc',c',P,rfl,rfl,fun b o e=>hk b o (Nat.ne_of_lt (Zp e)) (Zn _ e),hS',hg,hacc⟩)
 refine wpAny_mono key (fun fin s' x=>?_) fun e s' x=>?_
 ·cases fin with
  |done f=>
   obtain⟨h',dr,tk,acc',c',P,e,rfl,hk,hS',hg,hacc⟩:=x
   cases e
   show wpAny _ A (load s.heap.objs.size >>= _) _ _ _
   refine Zl (wpAny_load hS' ?_)
   exact Zm (h h' dr tk acc' P (Zp hS') hk hg hacc)
  |again c₁=>
   refine⟨x.1,codeAny_mono x.2 fun q s₂ y=>?_⟩
   obtain⟨h',dr,tk,acc',c',P,rfl,rfl,hk,hS',hg,hacc⟩:=y
   show wpAny _ A (load s.heap.objs.size >>= _) _ _ _
   refine Zl (wpAny_load hS' ?_)
   exact Zm (h h' dr tk acc' P (Zp hS') hk hg hacc)
 ·obtain⟨_,_,_,_,_,_,e',_⟩:=x
  cases e'
end
section
variable {K:Type} [DecidableEq K]{knd:PySem.KeyKind prog w K}{kvs:List (K×Value)}
end
end
end PyS
namespace PyD
open PySem PySem.W PyProof.Rows PySem.Calls PyProof.V PySem.Spec
def VA (h:Heap)(d:Addr)(es:Array DictEntry)(ep:Nat):Prop:=∃o,h.get? d=some o/\o.ExactDict/\o.data=.dict es ep
theorem VA.at {h h':Heap}{d:Addr}{es:Array DictEntry}{ep:Nat}(x:VA h d es ep)(e:∀o,h.get? d=some o->h'.get? d=some o):VA h' d es ep:=let ⟨o,ho,r⟩:=x;⟨o,e _ ho,r⟩
theorem VA.push {h:Heap}{d:Addr}{es:Array DictEntry}{ep:Nat}(x:VA h d es ep)(o:Obj):VA (h.push o) d es ep:=x.at fun _ e=>Zn o e
theorem VA.lt {h:Heap}{d:Addr}{es:Array DictEntry}{ep:Nat}(x:VA h d es ep):d<h.objs.size:=let ⟨_,ho,_⟩:=x;Zp ho
theorem VA.typeIs {s:Shared}{d:Addr}{es:Array DictEntry}{ep:Nat}(x:VA s.heap d es ep):s.TypeIs (.ref d) "dict":=let ⟨o,ho,hc,_⟩:=x;⟨o,ho,hc.1⟩
section
variable {prog:Program}{w:World}{A:Around}{E:Value->Shared->Prop}{s:Shared}{d it v:Addr}{es:Array DictEntry}{ep i:Nat}
theorem Zbz {Q:Value->Shared->Prop}(hd:(d == sysModules)=false)(hm:VA s.heap d es ep)
  (hQ:Q (.ref s.heap.objs.size) {s with heap:=s.heap.push {cls:=.type "dict_keyiterator",data:=.fields #[.ref d,.int 0 0,.int es.size 0,.int ep 0]}}):wpAny (model prog w) A (pyIter (.ref d)) Q E s:=by
 obtain⟨o,ho,hc,hdat⟩:=id hm
 refine wpAny_pyIter_slot hm.typeIs F.slot_dict_iter (wpAny_call_entry F.slot_dict_iter hm.typeIs F.entry_dict_iter ?_ (F.args_dict_iter_1 _))
 unfold Builtin.«dict.__iter__» Builtin.Dict.dictSlotNone
 refine Zl (Zl (wpAny_notOrdered_dict hm.typeIs (Zm ?_)))
 show wpAny _ _ (Builtin.Dict.showsAll d >>= _) _ _ s
 unfold Builtin.Dict.showsAll
 rw[if_neg (by rw[hd];decide)]
 refine Zl (Zm (Zl (wpAny_dictEntries ho hdat (Zl (wpAny_dictEpoch ho hdat ?_)))))
 exact Zl (wpAny_newObj_type (Zm ⟨_,rfl, "dict_keyiterator",_,⟨_,Zo _ rfl,rfl⟩,F.slot_dict_keyiterator_next.lookup,by simpa [rawInt] using hQ⟩))
theorem Zbq (d:Addr)(hd:(d == sysModules)=false):MeetsIn prog w (Builtin.«dict.__len__» ⟨[.ref d],[]⟩) (fun _ R s=>∃es ep,VA s.heap d es ep/\R (.ok (.ret (.int es.size s.toks))) {s with toks:=s.toks+1}):=by
 refine .of_wp fun A R s ⟨es,ep,⟨o,ho,hc,hdat⟩,h⟩=>?_
 show wpAny _ _ (dictSize d >>= _) _ _ s
 unfold dictSize
 refine Zl (Zl (wpAny_dictEntries ho hdat (Zm ?_)))
 show wpAny _ _ (Builtin.Dict.pendingCount d >>= _) _ _ s
 refine Zl (wpAny_pendingCount_other hd (wpAny_ret_mkInt ?_))
 rw[Nat.add_zero]
 exact h
theorem Zdi {Q:Value->Shared->Prop}(hd:(d == sysModules)=false)(hm:VA s.heap d es ep)(hfit:(es.size:Int)<2 ^ 63)(h:Q (.int es.size (s.toks+1)) {s with toks:=s.toks+1+1}) :
  wpAny (model prog w) A (call (.builtin "len") [.ref d]) Q E s:=by
 refine Calls.call_function_entry kind_len plain_len entry_len (args_len1 _) ?_
 unfold Builtin.«len»
 refine Zl (m:=oneArg "len" _) (Zm ?_)
 refine Zl (m:=callSpecial? (.ref d) (Str.ofString "__len__")) (wpAny_callSpecial?_slot (name:=Str.ofString "__len__") hm.typeIs F.slot_dict_len
  (call_meetsIn F.slot_dict_len hm.typeIs F.entry_dict_len (F.args_dict_len_1 _) (Zbq d hd) ⟨_,_,hm,?_⟩))
 show wpAny _ _ _ _ _ {s with toks:=s.toks+1}
 refine Zl (wpAny_holding (Zm (Zl (wpAny_letGo ?_))))
 show wpAny _ _ (if ((es.size:Nat):Int)<0 then _ else _) _ _ _
 rw[if_neg (by omega)]
 show wpAny _ _ (if ((es.size:Nat):Int) ≥ 2 ^ 63 then _ else _) _ _ _
 rw[if_neg (by omega)]
 exact Zl (wpAny_mkInt (Zm ⟨_,rfl,h⟩))
theorem ZcP {Q:Option Value->Shared->Prop}(hit:s.heap.IsKeyIter it d i es.size ep)(hm:VA s.heap d es ep)(hi:i<es.size)
  (hQ:∀h',h'.IsKeyIter it d (i+1) es.size ep->Heap.SameBut it s.heap h'->Q (some es[i].key) {s with heap:=h'}):wpAny (model prog w) A (pyNext (.ref it)) Q E s:=by
 obtain⟨o,ho,hc,hd⟩:=id hit
 obtain⟨od,hod,hcd,hdd⟩:=id hm
 unfold pyNext
 refine Zl (wpAny_attempt (wpAny_callSpecial?_slot (name:=Str.ofString "__next__") hit.typeIs F.slot_dict_keyiterator_next (wpAny_call_entry F.slot_dict_keyiterator_next hit.typeIs F.entry_dict_keyiterator_next ?_ (F.args_dict_keyiterator_next_1 _))))
 refine Zl (Zm (Zl (Zl ?_)))
 first|refine Zl (wpAny_typeNameOfWhole_keyiter hit.typeIs (Zm (Zl (wpAny_fieldsOf ho hd ?_))))|refine Zl (wpAny_typeNameOf_keyiter hit.typeIs (Zm (Zl (wpAny_fieldsOf ho hd ?_))))
 simp only[show Builtin.Dict_items.ownsTuple "dict_keyiterator"=false by decide,Bool.false_eq_true,if_false]
 show wpAny _ _ (if (Value.ref d == Value.none)=true then _ else _) _ _ s
 rw[if_neg (show ¬(Value.ref d == Value.none)=true from fun z=>nomatch z)]
 refine Zl (Zm (Zl (wpAny_dictEntries hod hdd ?_)))
 rw[if_neg (by simp)]
 refine Zl (Zm (Zl (wpAny_dictEpoch hod hdd ?_)))
 rw[if_neg (by simp)]
 refine Zm ?_
 simp only[show ¬((i:Int)<0) from by omega,if_false,Zj,Array.getElem?_eq_getElem hi]
 refine Zl ?_
 first|refine Zl (wpAny_typeNameOfWhole_keyiter hit.typeIs (Zm (Zl (wpAny_isOneOf_keyiter hit.typeIs ?_))))|refine Zl (wpAny_typeNameOf_keyiter hit.typeIs (Zm (Zl (wpAny_isOneOf_keyiter hit.typeIs ?_))))
 show wpAny _ _ (setField (.ref it) 1 (rawInt ((i:Int)+1)) >>= _) _ _ s
 refine Zl (wpAny_setField ho hd (by simp) ?_)
 have hit':(s.heap.update it (Obj.mapFields (·.setIfInBounds 1 (rawInt ((i:Int)+1))))).IsKeyIter it d (i+1) es.size ep:=
  ⟨_,Heap.get?_update_self _ ho (Obj.isFreed_of_fields (Obj.data_mapFields hd _)),(Obj.cls_mapFields ..).trans hc,by rw[Obj.data_mapFields hd];simp[rawInt]⟩
 refine Zl (wpAny_holding ?_)
 refine Zl (wpAny_isOneOf_keyiter (s:={s with heap:=s.heap.update it (Obj.mapFields (·.setIfInBounds 1 (rawInt ((i:Int)+1))))}) hit'.typeIs ?_)
 show wpAny _ _ (pure es[i].key) _ _ _
 exact Zm (Zm ⟨_,rfl,Zm (hQ _ hit' (Heap.SameBut.update ..))⟩)
theorem Zec {Q:Option Value->Shared->Prop}(hh:A.handled=none)(hit:s.heap.IsKeyIter it d i es.size ep)(hm:VA s.heap d es ep)(hi:es.size<=i)(hQ:∀h',Heap.ExtBut it s.heap h'->Q none {s with heap:=h'}):wpAny (model prog w) A (pyNext (.ref it)) Q E s:=by
 obtain⟨o,ho,hc,hd⟩:=id hit
 obtain⟨od,hod,hcd,hdd⟩:=id hm
 unfold pyNext
 refine Zl (wpAny_attempt (wpAny_callSpecial?_slot (name:=Str.ofString "__next__") hit.typeIs F.slot_dict_keyiterator_next (wpAny_call_entry F.slot_dict_keyiterator_next hit.typeIs F.entry_dict_keyiterator_next ?_ (F.args_dict_keyiterator_next_1 _))))
 refine Zl (Zm (Zl (Zl ?_)))
 first|refine Zl (wpAny_typeNameOfWhole_keyiter hit.typeIs (Zm (Zl (wpAny_fieldsOf ho hd ?_))))|refine Zl (wpAny_typeNameOf_keyiter hit.typeIs (Zm (Zl (wpAny_fieldsOf ho hd ?_))))
 simp only[show Builtin.Dict_items.ownsTuple "dict_keyiterator"=false by decide,Bool.false_eq_true,if_false]
 show wpAny _ _ (if (Value.ref d == Value.none)=true then _ else _) _ _ s
 rw[if_neg (show ¬(Value.ref d == Value.none)=true from fun z=>nomatch z)]
 refine Zl (Zm (Zl (wpAny_dictEntries hod hdd ?_)))
 rw[if_neg (by simp)]
 refine Zl (Zm (Zl (wpAny_dictEpoch hod hdd ?_)))
 rw[if_neg (by simp)]
 refine Zm ?_
 simp only[show ¬((i:Int)<0) from by omega,if_false,Zj,Array.getElem?_eq_none hi]
 refine Zl ?_
 first|refine Zl (wpAny_typeNameOfWhole_keyiter hit.typeIs (Zm ?_))|refine Zl (wpAny_typeNameOf_keyiter hit.typeIs (Zm ?_))
 show wpAny _ _ (setField (.ref it) 0 .none >>= _) _ _ s
 refine Zl (wpAny_setField ho hd (by simp) ?_)
 show wpAny _ _ (newExc (.type "StopIteration") [] >>= _) _ _ _
 refine Zl ?_
 simp only[newExc,newTuple]
 refine Zl (wpAny_newObj_type (Zl (m:=firstArgMember _ _) (wpAny_of_eq (a:=Value.none) (by first|rfl|(simp only[firstArgMember];rfl)) (wpAny_newObj_type ?_ (by size_fits)))) (by size_fits))
 simp only[raiseNew]
 refine Zl (wpAny_handled ?_)
 rw[show A.in1.handled=none from hh]
 refine Zl (Zm (wpAny_throw ?_))
 refine Zl (wpAny_isInstance (T:="StopIteration") (b:=true) ⟨_,Zo _ rfl,rfl⟩ isSubtype_stop ?_)
 exact Zm (hQ _ (((Heap.SameBut.update ..).extBut.push _).push _))
theorem Zb0 (hh:A.handled=none)(I d:Addr)(hne:d≠I)(es:Array DictEntry)(ep:Nat):Walks prog w A I [I,d] [I] es.size (fun i v=>∃h:i<es.size,v=es[i].key) (fun i h=>h.IsKeyIter I d i es.size ep/\VA h d es ep) where
 sub:=fun b hb=>by simp at hb;simp[hb]
 frame:=fun _ _ _ st hk=>⟨st.1.at fun o e=>hk I (by simp) o e,st.2.at fun o e=>hk d (by simp) o e⟩
 item:=fun i s Q E hi st hQ=>ZcP st.1 st.2 hi fun h' hit' hs'=>hQ _ h' s.toks ⟨hi,rfl⟩ ⟨hit',st.2.at fun o e=>hs'.extBut d o hne e⟩ fun b o hb e=>hs'.extBut b o (fun h=>hb (by simp[h])) e
 done:=fun s Q E st hQ=>Zec hh st.1 st.2 (Zq _) fun h' he'=>hQ h' s.toks fun b o hb e=>he' b o (fun h=>hb (by simp[h])) e
 self:=fun _ _ _ _ st hQ=>wpAny_pyIter_keyiter st.1 hQ
theorem Zb8 (lo:(d == sysModules)=false):PyS.Src prog w "dict" d d es.size (fun P=>P=fun i v=>∃h:i<es.size,v=es[i].key) (fun h=>VA h d es ep) where
 type:=fun _ hm=>hm.typeIs
 there:=fun _ hm=>hm.lt
 keep:=fun _ _ hm hk=>hm.at fun o e=>hk d o e
 notList:=by decide
 notTuple:=by decide
 hint:=fun _ _ _ _ hm hq=>kdl_hint_dict hm.typeIs hq
 iter:=fun A E s Q hm q=>by
  refine Zbz lo hm ?_
  refine q s.heap.objs.size [s.heap.objs.size,d] _ s.drawn _ (fun i h=>h.IsKeyIter s.heap.objs.size d i es.size ep/\VA h d es ep) (Zq _) (fun b hb=>?_) (fun b o e=>Zn _ e) rfl
   (fun A' hh=>Zb0 hh _ d (Nat.ne_of_lt hm.lt) es ep) ⟨⟨_,Zo _ rfl,rfl,rfl⟩,hm.push _⟩
  simp only[List.mem_cons,List.not_mem_nil,or_false] at hb
  rcases hb with rfl|rfl
  ·exact .inr (.inr (Zq _))
  ·exact .inl rfl
end
end PyD
namespace PyS
open PySem PySem.W PyProof.Rows PySem.Calls PyProof.V PySem.Spec
section
variable {prog:Program}{w:World}{A:Around}{E:Value->Shared->Prop}{s:Shared}{a:Addr}
end
section
variable {prog:Program}{w:World}{A:Around}{R:Result->Shared->Prop}{I:Addr}{fp wr:List Addr}{G:Array GenState->Array GenState->Prop}{n:Nat}{P:Nat->Value->Prop}{St:Nat->Shared->Prop}
end
section
variable {prog:Program}{w:World}{A:Around}{E:Value->Shared->Prop}{s:Shared}
end
end PyS
namespace HT
open PySem PyProof.Rows
section
variable {prog:Program}{w:World}{A:Around}{E:Value->Shared->Prop}{s:Shared}
end
end HT
namespace L2
open PySem PySem.Spec PyProof.Rows
section
variable {X:Cx}{e:Expr}{te ts:TE}{st:Expr}{pos p2:Pos}
end
end L2
namespace HT
open PySem PyProof.Rows
section
variable {prog:Program}{w:World}{A:Around}{E:Value->Shared->Prop}{s:Shared}
end
end HT
namespace L2
open PySem PySem.Spec PyProof.Rows
section
variable {X:Cx}
end
theorem Zar:∀{out:List Value}{ns:List Int},IntsAre out ns->ZC (ns.map V.int) out
 |_,_,.nil=>.nil
 |_,_,.cons n t r=>.cons ⟨t,rfl⟩ (Zar r)
section
variable {X:Cx}{pins:List (Addr×Obj)}{σ:L2.St}{H:Hp}{s:Shared}
theorem Inv.drawn (I:Inv X pins σ H s)(d:Drawn):Inv X pins σ H {s with drawn:=d}:=⟨I.ok,I.os,I.bare,I.base,I.loc,I.cell,I.free,I.freeC,I.pin,I.hok,I.len⟩
end
theorem Paired.get {α β:Type}{F:α->β->Prop}:∀{l₁:List α}{l₂:List β},Paired F l₁ l₂->∀{i:Nat}{b:β},l₂[i]?=some b->∃a,l₁[i]?=some a/\F a b
 |_,_,.nil,i,b,h=>by cases h
 |_,_,.cons (a:=a) h t,0,b,e=>by cases e;exact⟨_,rfl,h⟩
 |_,_,.cons h t,i+1,b,e=>Paired.get t e
theorem Paired.len {α β:Type}{F:α->β->Prop}:∀{l₁:List α}{l₂:List β},Paired F l₁ l₂->l₁.length=l₂.length
 |_,_,.nil=>rfl
 |_,_,.cons h t=>congrArg (· + 1) (Paired.len t)
section
variable {X:Cx}{pins:List (Addr×Obj)}{σ:L2.St}{H:Hp}{s:Shared}{a:Addr}{kvs:List (List Z6×V)}
theorem Zdb (I:Inv X pins σ H s)(e:Rd H a (.dT kvs)):kvs.length<=sizeLine/\(a == sysModules)=false/\∃o es ep,s.heap.get? a=some o/\o.ExactDict/\o.data=.dict es ep/\es.size=kvs.length/\
  ∀i (hi:i<es.size),∃kv b,kvs[i]?=some kv/\es[i].key=.ref b/\H b=some (.tup (kv.1.map kV))/\RelV kv.2 es[i].val:=by
 obtain⟨z,lo,xs,kt,o,es,ep,h1,h2,h3,h4,_,_⟩:=Ud I.hok e
 have hsz:es.size=kvs.length:=by rw[Paired.len kt,<-Za (f:=entryOfKey (tupleKind (ZV X.prog X.w))),<-h4,Zr]
 refine⟨z,lo,o,es,ep,h1,h2,h3,hsz,fun i hi=>?_⟩
 have hx:(xs.map (entryOfKey (tupleKind (ZV X.prog X.w))))[i]?=some es[i]:=by rw[<-h4,Array.getElem?_toList,Array.getElem?_eq_getElem hi]
 rw[Zc] at hx
 cases hxi:xs[i]? with
 |none=>rw[hxi] at hx;cases hx
 |some x=>
  rw[hxi] at hx
  have hx:=Option.some.inj hx
  obtain⟨kv,k1,k2,k3,k4⟩:=Paired.get kt hxi
  refine⟨kv,x.2.1,k1,?_,k3,?_⟩
  ·rw[<-hx];rfl
  ·rw[<-hx];exact k4
theorem ZbP:ZR X (.builtin "len") (fun xs H Q=>∃(a:Addr) (kvs:List (List Z6×V)),xs=[.ref a]/\Rd H a (.dT kvs)/\Q (.int kvs.length) H):=by
 intro pins s σ H xs us Q I r h
 obtain⟨a,kvs,rfl,e,q⟩:=h
 obtain⟨u,rfl,ru⟩:=vals1 r
 cases ru
 obtain⟨z,lo,o,es,ep,h1,h2,h3,h4,_⟩:=Zdb I e
 refine PyD.Zdi lo ⟨o,h1,h2,h3⟩ (by rw[h4];rw[sizeLine_eq] at z;omega) ?_
 rw[h4]
 exact⟨.int _,H,I.tok _,⟨_,rfl⟩,q⟩
end
end L2
namespace PyS
open PySem PySem.SetTable
section
variable {t:SetTable}
end
section
variable {t:SetTable}{es:Array (Int×Value)}
end
section
variable {t:SetTable}{es:Array (Int×Value)}
end
end PyS
namespace PyS
open PySem PySem.SetTable PySem.W PyProof.Rows PySem.Calls PyProof.V PySem.Spec
section
variable {prog:Program}{w:World}{A:Around}{E:Value->Shared->Prop}{s:Shared}
end
section
variable {prog:Program}{w:World}{A:Around}{E:Value->Shared->Prop}{s:Shared}{a b:Addr}{es:Array (Int×Value)}{ep:Nat}{t:SetTable}{key:Addr->List Int}
end
section
variable {prog:Program}{w:World}{A:Around}{E:Value->Shared->Prop}{s:Shared}{a b:Addr}{es:Array (Int×Value)}{ep:Nat}{t:SetTable}{key:Addr->List Int}{M:List Addr}
end
section
variable {prog:Program}{w:World}{A:Around}{R:Result->Shared->Prop}{I:Addr}{fp wr:List Addr}{G:Array GenState->Array GenState->Prop}{n:Nat}{P:Nat->Value->Prop}{St:Nat->Shared->Prop}
end
end PyS
namespace L2
open PySem PySem.Spec PyProof.Rows
section
variable {X:Cx}{pins:List (Addr×Obj)}{σ:L2.St}{H:Hp}{s:Shared}
end
section
variable {X:Cx}
def Zgh (K:PySem.W.Frag)(neg:Bool):R2:=fun x y H Q=>∃p xs ds dx,y=.ref p/\(Wa K H p xs\/WG K H p xs)/\Yc K H xs ds/\Wu K H x dx/\PyData.canLayAll0 ds=true/\dx.canLay0=true/\dx.depth<=60/\Q (.bl (if neg then !(ds.any fun y=>y.eqv dx) else ds.any fun y=>y.eqv dx)) H
theorem Zbj (hu:X.A.units+64<cLine):Jb X (compareOp .NotIn) (Zgh X.K true):=by
 intro pins s σ H x y v u Q I rx ry h
 obtain⟨p,xs,ds,dx,rfl,hq,hs,hd,c1,c2,dp,q⟩:=h
 cases ry
 obtain⟨bs,r1⟩:=I.reads hd rx
 rcases hq with hq|hq
 ·obtain⟨its,r,pl,hz⟩:=I.list hq
  obtain⟨as,ra⟩:=I.readsAll hs r
  refine SeqAt.notIn_listAt _ pl.isList (SeqAt.items_eqAt (by simpa using ra) r1 c1 c2 (by omega)) ⟨.bl _,H,I,rfl,?_⟩
  rw[SeqAt.any_by_data (by simpa using ra) c1]
  exact q
 ·obtain⟨its,r,pl,hz⟩:=I.tuple hq
  obtain⟨as,ra⟩:=I.readsAll hs r
  refine SeqAt.notIn_tupleAt _ pl (SeqAt.items_eqAt (by simpa using ra) r1 c1 c2 (by omega)) ⟨.bl _,H,I,rfl,?_⟩
  rw[SeqAt.any_by_data (by simpa using ra) c1]
  exact q
theorem Zgo (K:PySem.W.Frag)(hu:X.A.units+64<cLine)(hK:X.K=K:=by rfl):Jb X (compareOp .NotIn) (Zgh K true):=hK▸Zbj hu
end
theorem Jz:∀ns:List Int,PyData.canLayAll0 (ns.map PyData.int)=true
 | []=>rfl
 |n::ns=>by
  show (PyData.canLay0 (.int n) && PyData.canLayAll0 (ns.map PyData.int))=true
  rw[Jz ns]
  rfl
theorem WQ (ns:List Int):PyData.canLay0 (.tuple (ns.map PyData.int))=true:=Jz ns
theorem Wq:∀yss:List (List Int),PyData.canLayAll0 (yss.map fun ns=>PyData.tuple (ns.map PyData.int))=true
 | []=>rfl
 |y::yss=>by
  show (PyData.canLay0 (.tuple (y.map PyData.int)) && PyData.canLayAll0 (yss.map fun ns=>PyData.tuple (ns.map PyData.int)))=true
  rw[Wq yss,WQ]
  rfl
theorem Xm:∀ns:List Int,PyData.depthAll (ns.map PyData.int)<=1
 | []=>by decide
 |n::ns=>by
  have:=Xm ns
  show max (PyData.depth (.int n)) (PyData.depthAll (ns.map PyData.int))<=1
  have e:PyData.depth (.int n)<=1:=by simp[PyData.depth]
  omega
end L2
namespace L2
open PySem
theorem X0 (ns:List Int):PyData.depth (.tuple (ns.map PyData.int))<=60:=by
 have:=Xm ns
 show PyData.depthAll (ns.map PyData.int)+1<=60
 omega
end L2
namespace PyZ
open PySem
end PyZ
namespace L2
open PySem PySem.Spec PyProof.Rows
section
variable {X:Cx}
def ZeD (K:PySem.W.Frag):V->List V->Hp->VK->Prop:=fun x vs H Q=>∃p xs ds dy y,∃j:Nat,x=.ref p/\vs=[y]/\H p=some (.lst xs)/\Yc K H xs ds/\Wu K H y dy/\PyData.canLayAll0 ds=true/\dy.canLay0=true/\dy.depth<=60/\j<ds.length/\(∀d,ds[j]?=some d->d.eqv dy=true)/\(∀m d,m<j->ds[m]?=some d->d.eqv dy=false)/\Q (.int j) H
theorem Zbp (hu:X.A.units+64<cLine):MtR X "list.index" (ZeD X.K):=by
 intro pins s σ H x vs v us Q I rx rv h
 obtain⟨p,xs,ds,dy,y,j,rfl,rfl,hp,hs,hd,c1,c2,dp,hj,h1,h2,q⟩:=h
 cases rx
 obtain⟨u,rfl,ru⟩:=rv.one
 obtain⟨z,its,n,r,hl,e⟩:=I.lstM hp
 obtain⟨bs,r1⟩:=I.reads hd ru
 obtain⟨as,ra⟩:=I.readsAll hs r
 have hm:=SeqAt.readsAll_map ds its as c1 ra
 have hlen:its.length=ds.length:=by rw[<-hm,Za]
 have at':∀(m:Nat) (hh:m<its.toArray.size),ds[m]?=some (SeqAt.readOf s.heap its.toArray[m]):=fun m hh=>by
  have hh':m<its.length:=by simpa using hh
  rw[<-hm,Zc,Zf hh']
  simp
 have hjs:j<its.toArray.size:=by rw[Zh,hlen];exact hj
 have sz:=Jg
 refine call_meets F.slot_list_index ⟨_,e,rfl⟩ F.entry_list_index (F.args_list_index_2 _ _) (SeqAt.list_indexAt p its.toArray n none #[] u (fun y=>(SeqAt.readOf s.heap y).eqv dy) j hjs (by omega) (h1 _ (at' j hjs)) fun m hh hmj=>h2 m _ hmj (at' m hh)) ⟨e,SeqAt.items_eqAt (by simpa using ra) r1 c1 c2 (by omega),?_⟩
 exact⟨.int j,H,I.kept (t':=s.toks+1) fun b o e=>e,⟨_,rfl⟩,q⟩
theorem Zho (K:PySem.W.Frag)(hu:X.A.units+64<cLine)(hK:X.K=K:=by rfl):MtR X "list.index" (ZeD K):=hK▸Zbp hu
end
end L2
namespace PyZ
open PySem PyProof PyProof.Rows
def Jd (n:Nat)(cmp:Nat->Nat->Bool){α:Type}:W.KasT α->Option α
 | .ret a=>some a
 | .ask i j k=>if i<n/\j<n then Jd n cmp (k (cmp i j)) else none
theorem WB {α:Type}{n:Nat}{cmp:Nat->Nat->Bool}{ask:Nat->Nat->(Bool->Shared->Prop)->Shared->Prop}{s:Shared}(h:∀i j C,i<n->j<n->C (cmp i j) s->ask i j C s):∀(t:W.KasT α) (a:α) (Q:α->Shared->Prop),Jd n cmp t=some a->Q a s->W.KasT.kasWp ask t Q s
 | .ret b,a,Q,e,q=>by
  cases (Option.some.inj e)
  exact q
 | .ask i j k,a,Q,e,q=>by
  rw[Jd] at e
  by_cases hh:i<n/\j<n
  ·rw[if_pos hh] at e
   exact h i j _ hh.1 hh.2 (WB h (k (cmp i j)) a Q e q)
  ·rw[if_neg hh] at e
   cases e
def Vp (fin:Bool):List Int->List Int->Bool
 | [],_=>fin
 |_::_,[]=>fin
 |x::xs,y::ys=>if x=y then Vp fin xs ys else decide (x<y)
def Wh (xs ys:List Int):Bool:=Vp (decide (xs.length<ys.length)) xs ys
section
variable {prog:Program}{w:World}{A:Around}{E:Value->Shared->Prop}{s:Shared}
theorem U8 {fin:Bool}{Q:Bool->Shared->Prop}:∀(us vs:List Value) (xs ys:List Int) (i:Nat),IntsAre us xs->IntsAre vs ys->Q (Vp fin xs ys) s->W.KatLex prog w A true fin Q (us.zip vs) i s
 | [],vs,xs,ys,i,h1,h2,q=>by
  cases h1
  exact W.kat_nil q
 |_::_,[],xs,ys,i,h1,h2,q=>by
  cases h2
  cases xs with
  |nil=>exact W.kat_nil q
  |cons x xs=>exact W.kat_nil q
 |u::us,v::vs,xs,ys,i,h1,h2,q=>by
  cases h1 with
  |cons x t1 r1=>
   cases h2 with
   |cons y t2 r2=>
    rename_i xs ys
    rw[List.zip_cons_cons]
    refine W.kat_cons ?_
    refine SeqAt.EqAt.int_int _ _ _ _ prog w _ _ ?_
    rw[Vp] at q
    by_cases e:x=y
    ·rw[if_pos e] at q
     rw[show (x == y)=true from beq_iff_eq.mpr e]
     exact W.kat_yes (U8 us vs xs ys (i+1) r1 r2 q)
    ·rw[if_neg e] at q
     rw[show (x == y)=false from beq_eq_false_iff_ne.mpr e]
     refine W.kat_no ?_
     by_cases hi:i=0
     ·subst hi
      exact oneLt_int q
     ·have:(true && i == 0)=false:=by simp[hi]
      rw[this]
      exact W.kat_one _ _ (lt_int q)
def Xz (h:Heap)(L:Addr):Heap:={h with objs:=h.objs.extract 0 L}
theorem Z4 {h:Heap}{L b:Addr}(hb:b<L):(Xz h L).get? b=h.get? b:=by
 unfold Xz Heap.get?
 have:(h.objs.extract 0 L)[b]?=h.objs[b]?:=by
  rw[Array.getElem?_extract]
  by_cases h1:b<h.objs.size
  ·simp only[Nat.sub_zero,Nat.zero_add]
   rw[if_pos (show b<min L h.objs.size from Nat.lt_min.mpr ⟨hb,h1⟩)]
  ·rw[Array.getElem?_eq_none (Nat.le_of_not_lt h1)]
   split <;> simp_all
 simp only[this]
theorem Yj {h:Heap}{L b:Addr}(hb:L<=b):(Xz h L).get? b=none:=by
 unfold Xz Heap.get?
 have:(h.objs.extract 0 L)[b]?=none:=by
  apply Array.getElem?_eq_none
  rw[Array.size_extract]
  exact Nat.le_trans (by rw[Nat.sub_zero];exact Nat.min_le_left ..) hb
 simp only[this]
def ZM (h:Heap)(L:Addr):List (Addr×Obj):=(List.range h.objs.size).filterMap fun a=>if L<a then (h.get? a).map fun o=>(a,o) else none
theorem ZN {h:Heap}{L:Addr}{p:Addr×Obj}:p∈ZM h L↔L<p.1/\h.get? p.1=some p.2:=by
 unfold ZM
 rw[List.mem_filterMap]
 constructor
 ·rintro⟨a,ha,e⟩
  by_cases hl:L<a
  ·rw[if_pos hl] at e
   cases q:h.get? a with
   |none=>rw[q] at e;cases e
   |some o=>
    rw[q] at e
    cases (Option.some.inj e)
    exact⟨hl,q⟩
  ·rw[if_neg hl] at e
   cases e
 ·rintro⟨hl,e⟩
  refine⟨p.1,List.mem_range.mpr (Zp e),?_⟩
  rw[if_pos hl,e]
  rfl
theorem Vq {h:Heap}:∀(as:List Addr) (yss:List (List Int)),as.length=yss.length->(∀(i:Nat) a,as[i]?=some a->∃(us:List Value) (ys:List Int),yss[i]?=some ys/\h.IsTuple a us.toArray/\IntsAre us ys/\ys≠[])->
  ∃fs:List Value,W.KatTups h (as.map Value.ref) fs/\fs.length=as.length/\∀v∈fs,∃n t,v=Value.int n t
 | [],[],_,_=>⟨[],W.KatTups.nil,rfl,fun v hv=>by cases hv⟩
 | [],_::_,h,_=>by cases h
 |_::_,[],h,_=>by cases h
 |a::as,ys::yss,hl,g=>by
  obtain⟨us,ys',e,⟨o,e1,c,n,d⟩,ia,ne⟩:=g 0 a rfl
  cases e
  obtain⟨fs,k,l,f⟩:=Vq as yss (Nat.succ.inj hl) fun i a' hi=>g (i+1) a' hi
  cases ia with
  |nil=>exact absurd rfl ne
  |cons z t r=>
   refine⟨Value.int z t::fs,W.KatTups.cons e1 c d (by simp) k,by rw[Zi,Zi,l],fun v hv=>?_⟩
   rcases List.mem_cons.mp hv with rfl|hv
   ·exact⟨_,_,rfl⟩
   ·exact f v hv
theorem VJ {l L:Addr}{m:Str->Option Value}{as:List Addr}{yss:List (List Int)}{p:Array Nat}{Q:Value->Shared->Prop}(hNs:s.heap.Ns L m)(hl:s.heap.IsList l (as.map Value.ref).toArray)(n2:2<=as.length)(n64:as.length<64)(hy:as.length=yss.length)
  (ht:∀(i:Nat) a,as[i]?=some a->a≠L/\∃(us:List Value) (ys:List Int),yss[i]?=some ys/\s.heap.IsTuple a us.toArray/\IntsAre us ys/\ys≠[])
  (hp:Jd as.length (fun i j=>Wh (yss.getD i []) (yss.getD j [])) (W.kas_sort as.length)=some p)
  (q:∀D c h',s.heap.get? D=none->D≠L->(∀b o,b≠L->s.heap.get? b=some o->h'.get? b=some o)->h'.Ns L m->h'.get? D=some (W.listOf (p.toList.map fun i=>(as.map Value.ref).getD i Value.none).toArray c)->Q (.ref D) {s with heap:=h'}) :
  wpAny (model prog w) A (call (.builtin "sorted") [.ref l]) Q E s:=by
 have fr:Fr (Xz s.heap L) L s.heap m:=by
  refine⟨hNs,fun b o e=>?_,?_⟩
  ·by_cases hb:b<L
   ·rw[Z4 hb] at e;exact e
   ·rw[Yj (Nat.le_of_not_lt hb)] at e
    cases e
  ·show (s.heap.objs.extract 0 L).size<=L
   rw[Array.size_extract,Nat.sub_zero]
   exact Nat.min_le_left ..
 have nw:News (Xz s.heap L) L s.heap (ZM s.heap L):=fun x hx=>by
  obtain⟨h1,h2⟩:=ZN.mp hx
  exact⟨h2,Nat.ne_of_gt h1,Yj (Nat.le_of_lt h1)⟩
 have lv:(as.map Value.ref).length=as.length:=List.length_map ..
 refine W.kat_sorted fr nw hl (by rw[lv];exact n2) (by rw[lv];exact n64) fun D e1 h' fr' nw' big=>?_
 have kept:∀b o,b≠L->s.heap.get? b=some o->h'.get? b=some o:=fun b o hb e=>by
  rcases Nat.lt_or_ge b L with h1|h1
  ·exact fr'.keep b o (by rw[Z4 h1];exact e)
  ·exact (nw' (b,o) (List.mem_cons_of_mem _ (ZN.mpr ⟨Nat.lt_of_le_of_ne h1 (Ne.symm hb),e⟩))).1
 have dn:s.heap.get? D=none:=by
  cases e:s.heap.get? D with
  |none=>rfl
  |some o=>
   obtain⟨_,dL,dc⟩:=nw' _ (List.mem_cons_self ..)
   rcases Nat.lt_or_ge D L with h1|h1
   ·rw[Z4 h1] at dc
    rw[dc] at e
    cases e
   ·exact absurd (big (D,o) (ZN.mpr ⟨Nat.lt_of_le_of_ne h1 (Ne.symm dL),e⟩)) (Nat.lt_irrefl _)
 have dL:D≠L:=(nw' _ (List.mem_cons_self ..)).2.1
 have ht':∀(i:Nat) a,as[i]?=some a->∃(us:List Value) (ys:List Int),yss[i]?=some ys/\h'.IsTuple a us.toArray/\IntsAre us ys/\ys≠[]:=fun i a hi=>by
  obtain⟨aL,us,ys,e,⟨o,g1,g2⟩,ia,ne⟩:=ht i a hi
  exact⟨us,ys,e,⟨o,kept a o aL g1,g2⟩,ia,ne⟩
 obtain⟨fs,kt,fl,fi⟩:=Vq as yss hy ht'
 refine W.kat_kind (T:=Value.type "int") kt (by omega) (fun v hv=>?_) (by decide +kernel) ?_
 ·obtain⟨n,t,rfl⟩:=fi v hv
  intro A Q E s' _ q
  exact Zm q
 ·rw[lv]
  have kb:(Value.type "int" != Value.type "tuple")=true:=by decide +kernel
  rw[kb]
  refine WB (cmp:=fun i j=>Wh (yss.getD i []) (yss.getD j [])) (fun i j C hi hj c=>?_) _ p _ hp ?_
  ·unfold W.kas_ask
   obtain⟨us,ys,e,⟨o,g1,g2,n1,g3⟩,ia,_⟩:=ht' i as[i] (Zf hi)
   obtain⟨us2,ys2,e2,⟨o2,k1,k2,n2',k3⟩,ia2,_⟩:=ht' j as[j] (Zf hj)
   have v1:(as.map Value.ref).getD i Value.none=.ref as[i]:=by
    rw[Zb,Zc,Zf hi]
    rfl
   have v2:(as.map Value.ref).getD j Value.none=.ref as[j]:=by
    rw[Zb,Zc,Zf hj]
    rfl
   have w1:yss.getD i []=ys:=by rw[Zb,e];rfl
   have w2:yss.getD j []=ys2:=by rw[Zb,e2];rfl
   rw[v1,v2]
   refine W.kat_lt g1 g3 k1 k3 ?_
   have il:∀{us:List Value}{ys:List Int},IntsAre us ys->us.length=ys.length:=fun {us ys} h=>by
    induction h with
    |nil=>rfl
    |cons _ _ _ ih=>rw[Zi,Zi,ih]
   refine U8 us us2 ys ys2 0 ia ia2 ?_
   rw[w1,w2] at c
   unfold Wh at c
   rw[Zh,Zh,il ia,il ia2]
   exact c
  ·refine⟨_,_,fr',nw',W.UpdF.head (fun x hx=>Nat.ne_of_lt (big x hx)),fun h'' c fr'' nw''=>?_⟩
   refine q D c h'' dn dL (fun b o hb e=>?_) fr''.ns (nw'' _ (List.mem_cons_self ..)).1
   rcases Nat.lt_or_ge b L with h1|h1
   ·exact fr''.keep b o (by rw[Z4 h1];exact e)
   ·exact (nw'' (b,o) (List.mem_cons_of_mem _ (ZN.mpr ⟨Nat.lt_of_le_of_ne h1 (Ne.symm hb),e⟩))).1
end
def Runs (n:Nat)(cmp:Nat->Nat->Bool){α:Type}:W.KasT α->(α->Prop)->Prop
 | .ret a,Q=>Q a
 | .ask i j k,Q=>i<n/\j<n/\Runs n cmp (k (cmp i j)) Q
theorem Runs.run {n:Nat}{cmp:Nat->Nat->Bool}{α:Type}{Q:α->Prop}:∀{t:W.KasT α},Runs n cmp t Q->∃a,Jd n cmp t=some a/\Q a
 | .ret a,h=>⟨a,rfl,h⟩
 | .ask i j k,h=>by
  obtain⟨h1,h2,h3⟩:=h
  obtain⟨a,e,q⟩:=h3.run
  exact⟨a,by rw[Jd,if_pos ⟨h1,h2⟩];exact e,q⟩
theorem Runs.bind {n:Nat}{cmp:Nat->Nat->Bool}{α β:Type}{f:α->W.KasT β}{Q:β->Prop}:∀{t:W.KasT α},Runs n cmp t (fun a=>Runs n cmp (f a) Q)->Runs n cmp (t.bind f) Q
 | .ret a,h=>h
 | .ask i j k,h=>⟨h.1,h.2.1,h.2.2.bind⟩
theorem Runs.mono {n:Nat}{cmp:Nat->Nat->Bool}{α:Type}{Q Q':α->Prop}(hq:∀a,Q a->Q' a):∀{t:W.KasT α},Runs n cmp t Q->Runs n cmp t Q'
 | .ret a,h=>hq a h
 | .ask i j k,h=>⟨h.1,h.2.1,h.2.2.mono hq⟩
section
variable {n:Nat}{rank:Nat->Nat}
abbrev Yy (rank:Nat->Nat):Nat->Nat->Bool:=fun i j=>decide (rank i<rank j)
def RK (rank:Nat->Nat)(p:Array Nat)(i:Nat):Nat:=rank (p.getD i 0)
structure Xp (n:Nat)(p:Array Nat):Prop where
 pm:p.Perm (List.range n).toArray
theorem Xp.size {p:Array Nat}(h:Xp n p):p.size=n:=by
 have:=h.pm.size_eq
 simpa using this
theorem Xp.lt {p:Array Nat}(h:Xp n p){i:Nat}(hi:i<n):p.getD i 0<n:=by
 have hs:=h.size
 have hp:p.toList.Perm (List.range n):=by have:=h.pm;rw[Array.perm_iff_toList_perm] at this;simpa using this
 have e:p.getD i 0=p[i]'(by omega):=by simp[Array.getD,hs,hi]
 rw[e]
 have hm:p[i]'(by omega)∈p.toList:=by simp
 exact List.mem_range.mp (hp.mem_iff.mp hm)
theorem Wv {p q:Array Nat}{i j:Nat}(h:p[i]?=q[j]?):RK rank p i=RK rank q j:=by
 unfold RK
 rw[Array.getD_eq_getD_getElem?,Array.getD_eq_getD_getElem?,h]
theorem ZbU {xs:Array Nat}{src d:Nat}(hs:src<xs.size)(hd:d<=src)(k:Nat) :
  RK rank (bubble xs src d) k=if k=src-d then RK rank xs src else if src-d<k/\k<=src then RK rank xs (k-1) else RK rank xs k:=by
 have e:=getElem?_bubble hs d hd k
 by_cases h1:k=src-d
 ·rw[if_pos h1] at e ⊢;exact Wv e
 ·rw[if_neg h1] at e ⊢
  by_cases h2:src-d<k/\k<=src
  ·rw[if_pos h2] at e ⊢;exact Wv e
  ·rw[if_neg h2] at e ⊢;exact Wv e
theorem Zao {xs:Array Nat}{i j:Nat}(hj:j<=xs.size)(k:Nat):RK rank (W.kas_rev xs i j) k=if i<=k/\k<j then RK rank xs (i+j-1-k) else RK rank xs k:=by
 have e:=getElem?_mirror_all (i:=i) hj k
 unfold W.kas_rev
 by_cases h1:i<=k/\k<j
 ·rw[if_pos h1] at e ⊢;exact Wv e
 ·rw[if_neg h1] at e ⊢;exact Wv e
theorem Jn {xs:Array Nat}{i j:Nat}(hj:j<=xs.size)(heq:∀k,i<=k->k<j->RK rank xs k=RK rank xs (j-1))(k:Nat):RK rank (W.kas_rev xs i j) k=RK rank xs k:=by
 rw[Zao hj]
 split
 ·rw[heq _ (by omega) (by omega),heq k (by omega) (by omega)]
 ·rfl
theorem Xp.rev {p:Array Nat}(h:Xp n p)(i j:Nat):Xp n (W.kas_rev p i j):=⟨(mirror_perm p i j _).trans h.pm⟩
theorem Xp.bub {p:Array Nat}(h:Xp n p)(k d:Nat):Xp n (bubble p k d):=⟨(bubble_perm p k d).trans h.pm⟩
def Up (rank:Nat->Nat)(p:Array Nat)(k:Nat):Prop:=∀i j,i<=j->j<k->RK rank p i<=RK rank p j
def Dn (rank:Nat->Nat)(p:Array Nat)(k:Nat):Prop:=∀i j,i<=j->j<k->RK rank p j<=RK rank p i
theorem Up.snoc {p:Array Nat}{k:Nat}(h1:1<=k)(h:Up rank p k)(hk:RK rank p (k-1)<=RK rank p k):Up rank p (k+1):=fun i j hij hj=>by
 by_cases e:j=k
 ·subst e
  by_cases e2:i=j
  ·rw[e2];exact Zq _
  ·exact Nat.le_trans (h i (j-1) (by omega) (by omega)) hk
 ·exact h i j hij (by omega)
theorem Dn.snoc {p:Array Nat}{k:Nat}(h1:1<=k)(h:Dn rank p k)(hk:RK rank p k<=RK rank p (k-1)):Dn rank p (k+1):=fun i j hij hj=>by
 by_cases e:j=k
 ·subst e
  by_cases e2:i=j
  ·rw[e2];exact Zq _
  ·exact Nat.le_trans hk (h i (j-1) (by omega) (by omega))
 ·exact h i j hij (by omega)
theorem Zal {p:Array Nat}(hp:Xp n p):∀(f k:Nat),1<=k->k+f<=n->Up rank p k->Runs n (Yy rank) (W.kas_asc p f k) fun m=>k<=m/\m<=k+f/\Up rank p m/\(m<k+f->RK rank p m<RK rank p (m-1))
 |0,k,h1,hk,hu=>⟨Zq _,Zq _,hu,fun z=>absurd z (by omega)⟩
 |f+1,k,h1,hk,hu=>by
  refine⟨hp.lt (by omega),hp.lt (by omega),?_⟩
  by_cases c:rank (p.getD k 0)<rank (p.getD (k-1) 0)
  ·rw[show Yy rank _ _=true from decide_eq_true c]
   exact⟨Zq _,by omega,hu,fun _=>c⟩
  ·rw[show Yy rank _ _=false from decide_eq_false c]
   refine (Zal hp f (k+1) (by omega) (by omega) (hu.snoc h1 (by unfold RK;omega))).mono fun m ⟨a,b,u,d⟩=>⟨by omega,by omega,u,fun z=>d (by omega)⟩
theorem JK:∀(f:Nat) (p:Array Nat) (k q:Nat),Xp n p->1<=k->k+f<=n->q+1<=k->Dn rank p k->(∀j,k-1-q<=j->j<k->RK rank p j=RK rank p (k-1))->
  Runs n (Yy rank) (W.kas_desc f p k q) fun r=>Xp n r.1/\1<=r.2.1/\r.2.1<=k+f/\r.2.2+1<=r.2.1/\Dn rank r.1 r.2.1/\∀j,r.2.1-1-r.2.2<=j->j<r.2.1->RK rank r.1 j=RK rank r.1 (r.2.1-1)
 |0,p,k,q,hp,h1,hk,hq,hd,he=>⟨hp,h1,Zq _,hq,hd,he⟩
 |f+1,p,k,q,hp,h1,hk,hq,hd,he=>by
  refine⟨hp.lt (by omega),hp.lt (by omega),?_⟩
  by_cases c:rank (p.getD k 0)<rank (p.getD (k-1) 0)
  ·rw[show Yy rank _ _=true from decide_eq_true c]
   show Runs n (Yy rank) (if q > 0 then W.kas_desc f (W.kas_rev p (k-(q+1)) k) (k+1) 0 else W.kas_desc f p (k+1) 0) _
   have hd2:=hd.snoc h1 (Nat.le_of_lt c)
   have sz:=hp.size
   split
   ·have er:∀j,RK rank (W.kas_rev p (k-(q+1)) k) j=RK rank p j:=fun j=>Jn (by omega) (fun i a b=>he i (by omega) b) j
    refine (JK f _ (k+1) 0 (hp.rev _ _) (by omega) (by omega) (by omega) (fun i j a b=>?_) (fun j a b=>?_)).mono fun r ⟨a,b,c,d⟩=>⟨a,b,by omega,d⟩
    ·rw[er,er];exact hd2 i j a b
    ·rw[show j=k+1-1 by omega]
   ·refine (JK f _ (k+1) 0 hp (by omega) (by omega) (by omega) hd2 (fun j a b=>?_)).mono fun r ⟨a,b,c,d⟩=>⟨a,b,by omega,d⟩
    rw[show j=k+1-1 by omega]
  ·rw[show Yy rank _ _=false from decide_eq_false c]
   refine⟨hp.lt (by omega),hp.lt (by omega),?_⟩
   by_cases d:rank (p.getD (k-1) 0)<rank (p.getD k 0)
   ·rw[show Yy rank _ _=true from decide_eq_true d]
    exact⟨hp,h1,(show k<=k+(f+1) by omega),hq,hd,he⟩
   ·rw[show Yy rank _ _=false from decide_eq_false d]
    have e:RK rank p k=RK rank p (k-1):=by unfold RK;omega
    refine (JK f _ (k+1) (q+1) hp (by omega) (by omega) (by omega) (hd.snoc h1 (by omega)) (fun j a b=>?_)).mono fun r ⟨a,b,c,d⟩=>⟨a,b,by omega,d⟩
    rw[show k+1-1=k by omega]
    by_cases ej:j=k
    ·rw[ej]
    ·rw[he j (by omega) (by omega),e]
theorem VG {p:Array Nat}{k:Nat}(hp:Xp n p)(h1:1<=k)(hk:k<=n)(hd:Dn rank p k):Runs n (Yy rank) (W.kas_tail3 k n p) fun r=>1<=r.1/\r.1<=n/\Xp n r.2/\Up rank r.2 r.1:=by
 have sz:=hp.size
 have hu:Up rank (W.kas_rev p 0 k) k:=fun i j a b=>by
  rw[Zao (by omega),Zao (by omega),if_pos ⟨Nat.zero_le _,by omega⟩,if_pos ⟨Nat.zero_le _,b⟩]
  exact hd _ _ (by omega) (by omega)
 exact Runs.bind ((Zal (hp.rev 0 k) (n-k) k h1 (by omega) hu).mono fun m ⟨a,b,c,_⟩=>⟨Nat.le_trans h1 a,by show m<=n;omega,hp.rev 0 k,c⟩)
theorem Jy {p:Array Nat}{k:Nat}(hp:Xp n p)(hk:k+1<=n)(hd:Dn rank p (k+1)):Runs n (Yy rank) (W.kas_descPart k n p) fun r=>1<=r.1/\r.1<=n/\Xp n r.2/\Up rank r.2 r.1:=by
 refine Runs.bind ((JK (n-(k+1)) p (k+1) 0 hp (by omega) (by omega) (by omega) hd (fun j a b=>by rw[show j=k+1-1 by omega])).mono fun r ⟨a,b,c,d,e,g⟩=>?_)
 have sz:=a.size
 show Runs n (Yy rank) (if r.2.2 > 0 then W.kas_tail3 r.2.1 n (W.kas_rev r.1 (r.2.1-(r.2.2+1)) r.2.1) else W.kas_tail3 r.2.1 n r.1) _
 split
 ·have er:∀j,RK rank (W.kas_rev r.1 (r.2.1-(r.2.2+1)) r.2.1) j=RK rank r.1 j:=fun j=>Jn (by omega) (fun i x y=>g i (by omega) y) j
  exact VG (a.rev _ _) b (by omega) fun i j x y=>by rw[er,er];exact e i j x y
 ·exact VG a b (by omega) e
theorem Zde {p:Array Nat}(hp:Xp n p)(h1:1<=n):Runs n (Yy rank) (W.kas_count n p) fun r=>1<=r.1/\r.1<=n/\Xp n r.2/\Up rank r.2 r.1:=by
 refine Runs.bind ((Zal hp (n-1) 1 (Zq _) (by omega) (fun i j a b=>by rw[show i=0 by omega,show j=0 by omega];exact Zq _)).mono fun m ⟨a,b,c,d⟩=>?_)
 have sz:=hp.size
 show Runs n (Yy rank) (if (m == n)=true then _ else _) _
 by_cases e:m=n
 ·rw[if_pos (by rw[e];exact beq_self_eq_true n)]
  exact⟨a,by show m<=n;omega,hp,c⟩
 ·rw[if_neg (by simpa using e)]
  have dm:=d (by omega)
  have dn:Dn rank p m->Dn rank p (m+1):=fun h=>h.snoc a (Nat.le_of_lt dm)
  split
  ·refine⟨hp.lt (by omega),hp.lt (by omega),?_⟩
   by_cases g:rank (p.getD 0 0)<rank (p.getD (m-1) 0)
   ·rw[show Yy rank _ _=true from decide_eq_true g]
    exact⟨a,by show m<=n;omega,hp,c⟩
   ·rw[show Yy rank _ _=false from decide_eq_false g]
    have all:∀j,j<m->RK rank p j=RK rank p (m-1):=fun j hj=>by
     have x:=c 0 j (by omega) hj
     have y:=c j (m-1) (by omega) (by omega)
     unfold RK at x y ⊢
     omega
    have er:∀j,RK rank (W.kas_rev p 0 m) j=RK rank p j:=fun j=>Jn (by omega) (fun i _ y=>all i y) j
    refine Jy (hp.rev 0 m) (by omega) fun i j x y=>?_
    rw[er,er]
    exact dn (fun i j x y=>by rw[all i (by omega),all j y];exact Zq _) i j x y
  ·have e1:m=1:=by omega
   subst e1
   exact Jy hp (by omega) (dn fun i j x y=>by rw[show i=0 by omega,show j=0 by omega];exact Zq _)
theorem J5 {p:Array Nat}{k:Nat}(hp:Xp n p)(hk:k<n)(hu:Up rank p k):∀(f l r:Nat),r-l<=f->l<=r->r<=k->(∀i,i<l->RK rank p i<=RK rank p k)->(∀i,r<=i->i<k->RK rank p k<RK rank p i)->
  Runs n (Yy rank) (W.kas_place p k f l r) fun m=>m<=k/\(∀i,i<m->RK rank p i<=RK rank p k)/\∀i,m<=i->i<k->RK rank p k<RK rank p i
 |0,l,r,hf,hlr,hr,h1,h2=>by
  have e:l=r:=by omega
  subst e
  exact⟨hr,h1,h2⟩
 |f+1,l,r,hf,hlr,hr,h1,h2=>by
  show Runs n (Yy rank) (if l ≥ r then _ else _) _
  split
  ·have e:l=r:=by omega
   subst e
   exact⟨hr,h1,h2⟩
  ·refine⟨hp.lt hk,hp.lt (by omega),?_⟩
   by_cases c:rank (p.getD k 0)<rank (p.getD ((l+r) / 2) 0)
   ·rw[show Yy rank _ _=true from decide_eq_true c]
    refine J5 hp hk hu f l ((l+r) / 2) (by omega) (by omega) (by omega) h1 fun i a b=>?_
    exact Nat.lt_of_lt_of_le c (hu _ _ a b)
   ·rw[show Yy rank _ _=false from decide_eq_false c]
    refine J5 hp hk hu f ((l+r) / 2+1) r (by omega) (by omega) hr (fun i a=>?_) h2
    have:=hu i ((l+r) / 2) (by omega) (by omega)
    unfold RK at this ⊢
    omega
theorem Zdl:∀(f:Nat) (p:Array Nat) (k:Nat),Xp n p->k+f=n->Up rank p k->Runs n (Yy rank) (W.kas_bin f p k) fun r=>Xp n r/\Up rank r n
 |0,p,k,hp,hk,hu=>⟨hp,by rw[<-hk];exact hu⟩
 |f+1,p,k,hp,hk,hu=>by
  have sz:=hp.size
  refine Runs.bind ((J5 hp (by omega) hu k 0 k (by omega) (by omega) (Zq _) (fun i h=>by omega) (fun i a b=>by omega)).mono fun l ⟨a,b,c⟩=>?_)
  refine Zdl f _ (k+1) (hp.bub _ _) (by omega) fun i j hij hj=>?_
  have hb:=fun x=>ZbU (rank:=rank) (xs:=p) (src:=k) (d:=k-l) (by omega) (by omega) x
  rw[hb i,hb j]
  have el:k-(k-l)=l:=by omega
  rw[el]
  have hu':=hu
  by_cases i1:i=l
  ·rw[if_pos i1]
   by_cases j1:j=l
   ·rw[if_pos j1];exact Zq _
   ·rw[if_neg j1,if_pos ⟨by omega,by omega⟩]
    exact Nat.le_of_lt (c (j-1) (by omega) (by omega))
  ·rw[if_neg i1]
   by_cases i2:l<i/\i<=k
   ·rw[if_pos i2,if_neg (by omega),if_pos ⟨by omega,by omega⟩]
    exact hu _ _ (by omega) (by omega)
   ·rw[if_neg i2]
    have il:i<l:=by omega
    by_cases j1:j=l
    ·rw[if_pos j1];exact b i il
    ·rw[if_neg j1]
     by_cases j2:l<j/\j<=k
     ·rw[if_pos j2];exact hu _ _ (by omega) (by omega)
     ·rw[if_neg j2];exact hu _ _ hij (by omega)
theorem ZdB (h1:1<=n)(rank:Nat->Nat):∃p,Jd n (Yy rank) (W.kas_sort n)=some p/\p.toList.Perm (List.range n)/\(p.toList.map rank).Pairwise (· ≤ ·):=by
 have:Runs n (Yy rank) (W.kas_sort n) fun p=>Xp n p/\Up rank p n:=by
  refine Runs.bind ((Zde (rank:=rank) ⟨Array.Perm.refl _⟩ h1).mono fun r ⟨a,b,c,d⟩=>?_)
  show Runs n (Yy rank) (if r.1<n then _ else _) _
  split
  ·have e:max r.1 1=r.1:=by omega
   rw[e]
   exact Zdl _ _ _ c (by omega) d
  ·exact⟨c,by rw[show n=r.1 by omega];exact d⟩
 obtain⟨p,e,hp,hu⟩:=this.run
 refine⟨p,e,?_,?_⟩
 ·have:=hp.pm
  rw[Array.perm_iff_toList_perm] at this
  simpa using this
 ·have sz:=hp.size
  rw[List.pairwise_iff_getElem]
  intro i j hi hj hij
  rw[Za] at hi hj
  have li:i<p.size:=by simpa using hi
  have lj:j<p.size:=by simpa using hj
  have:=hu i j (by omega) (by omega)
  unfold RK at this
  rw[List.getElem_map,List.getElem_map]
  have ei:p.getD i 0=p.toList[i]'hi:=by simp[Array.getD,li]
  have ej:p.getD j 0=p.toList[j]'hj:=by simp[Array.getD,lj]
  rw[ei,ej] at this
  exact this
end
end PyZ
namespace PyZ
open PySem PyProof PyProof.Rows SeqAt
open AutoSeq1 (wpAny_loadPart')
theorem ZaO {vs:List Value}{ns:List Int}(h:IntsAre vs ns):∀{i:Nat}{v:Value},vs[i]?=some v->∃n t,ns[i]?=some n/\v=.int n t:=by
 induction h with
 |nil=>intro i v e;simp at e
 |cons n t _ ih=>
  intro i v e
  match i,e with
  |0,e=>cases e;exact⟨_,_,rfl,rfl⟩
  |i+1,e=>exact ih (i:=i) (by simpa using e)
theorem V8 {vs:List Value}{ns:List Int}(h:IntsAre vs ns):vs.length=ns.length:=by
 induction h with
 |nil=>rfl
 |cons _ _ _ ih=>rw[Zi,Zi,ih]
theorem Zbt {fin:Bool}{xs ys:List Int}{i:Nat}{x y:Int}(hx:xs[i]?=some x)(hy:ys[i]?=some y):Vp fin (xs.drop i) (ys.drop i)=if x=y then Vp fin (xs.drop (i+1)) (ys.drop (i+1)) else decide (x<y):=by
 have h1:=(List.getElem?_eq_some_iff.mp hx)
 have h2:=(List.getElem?_eq_some_iff.mp hy)
 obtain⟨l1,e1⟩:=h1
 obtain⟨l2,e2⟩:=h2
 rw[List.drop_eq_getElem_cons l1,List.drop_eq_getElem_cons l2,e1,e2]
 rfl
theorem VZ {fin:Bool}{xs ys:List Int}{i:Nat}(h:xs[i]?=none\/ys[i]?=none):Vp fin (xs.drop i) (ys.drop i)=fin:=by
 rcases h with h|h
 ·rw[List.drop_eq_nil_of_le (List.getElem?_eq_none_iff.mp h)]
  rfl
 ·rw[List.drop_eq_nil_of_le (as:=ys) (List.getElem?_eq_none_iff.mp h)]
  cases xs.drop i with
  |nil=>rfl
  |cons _ _=>rfl
theorem Zd1 (l b:Addr)(items items2:Array Value)(n n2:Nat)(dd dd2:Option Addr)(sl sl2:Array (Option Value)){xs ys:List Int}(hx:IntsAre items.toList xs)(hy:IntsAre items2.toList ys)(k:Nat) :
  ∀i:Nat,items.size-i=k->Meets (Builtin.«list.__eq__.loop» ⟨[.ref l,.ref b,rawInt i,rawInt 0],[]⟩)
   (fun A R s=>s.heap.get? l=some {cls:=.type "list",dict:=dd,data:=.seq items n,slots:=sl}/\s.heap.get? b=some {cls:=.type "list",dict:=dd2,data:=.seq items2 n2,slots:=sl2}/\
    R (.ok (.ret (.bool (Vp (decide (xs.length<ys.length)) (xs.drop i) (ys.drop i))))) s):=by
 have sx:items.size=xs.length:=by rw[<-V8 hx,Zr]
 have sy:items2.size=ys.length:=by rw[<-V8 hy,Zr]
 induction k with
 |zero=>
  intro i hk prog w A R s h
  obtain⟨hp,g,d,tk,os⟩:=s;obtain⟨hl,hb,h⟩:=h
  wp_walk using wpAny_loadPart' hl,wpAny_loadPart' hb
  have hi1:items[((i:Nat):Int).toNat]?=none:=by simp;omega
  rw[VZ (.inl (List.getElem?_eq_none (by omega)))] at h
  rw[hi1]
  wp_walk using wpAny_loadPart' hl,wpAny_loadPart' hb
  show R (.ok (.ret (.bool (decide (items.size<items2.size))))) _
  rw[sx,sy]
  exact h
 |succ k ih=>
  intro i hk prog w A R s h
  obtain⟨hp,g,d,tk,os⟩:=s;obtain⟨hl,hb,h⟩:=h
  wp_walk using wpAny_loadPart' hl,wpAny_loadPart' hb
  have hlt:i<items.size:=by omega
  have hi1:items[((i:Nat):Int).toNat]?=some items[i]:=by simp[hlt]
  have hc:((i:Int)+1)=((i+1:Nat):Int):=by push_cast;rfl
  by_cases hlt2:i<items2.size
  ·have hi2:items2[((i:Nat):Int).toNat]?=some items2[i]:=by simp[hlt2]
   obtain⟨x,tx,ex,vx⟩:=ZaO hx (i:=i) (v:=items[i]) (by simp[hlt])
   obtain⟨y,ty,ey,vy⟩:=ZaO hy (i:=i) (v:=items2[i]) (by simp[hlt2])
   rw[Zbt ex ey] at h
   rw[hi1,hi2,vx,vy]
   refine Zl (EqAt.int_int _ _ _ _ prog w _ _ ?_)
   by_cases e:x=y
   ·rw[if_pos e] at h
    rw[show (x == y)=true from beq_iff_eq.mpr e]
    wp_walk
    rw[hc]
    exact⟨plainId_quiet MeetsSeq3.plain_eq_loop _,codeAny_builtin MeetsSeq3.entry_eq_loop (by
     rw[Around.under_plainId MeetsSeq3.plain_eq_loop _]
     exact ih (i+1) (by omega) prog w A R _ ⟨hl,hb,h⟩)⟩
   ·rw[if_neg e] at h
    rw[show (x == y)=false from beq_eq_false_iff_ne.mpr e]
    wp_walk using wpAny_loadPart' hl,wpAny_loadPart' hb
    rw[hi1,hi2,vx,vy]
    refine Zl (lt_int ?_)
    exact Zm h
  ·have hi2:items2[((i:Nat):Int).toNat]?=none:=by simp;omega
   rw[VZ (.inr (List.getElem?_eq_none (by omega)))] at h
   rw[hi1,hi2]
   wp_walk using wpAny_loadPart' hl,wpAny_loadPart' hb
   show R (.ok (.ret (.bool (decide (items.size<items2.size))))) _
   rw[sx,sy]
   exact h
theorem Zd2 (l b:Addr)(items items2:Array Value)(n n2:Nat)(dd dd2:Option Addr)(sl sl2:Array (Option Value)){xs ys:List Int}(hx:IntsAre items.toList xs)(hy:IntsAre items2.toList ys) :
  Meets (Builtin.«list.__lt__» ⟨[.ref l,.ref b],[]⟩)
   (fun A R s=>s.heap.get? l=some {cls:=.type "list",dict:=dd,data:=.seq items n,slots:=sl}/\s.heap.get? b=some {cls:=.type "list",dict:=dd2,data:=.seq items2 n2,slots:=sl2}/\
    R (.ok (.ret (.bool (Wh xs ys)))) s):=by
 intro prog w A R s h
 obtain⟨hp,g,d,tk,os⟩:=s;obtain⟨hl,hb,h⟩:=h
 have f3:=AutoSeq1.sub_list_list
 wp_walk using wpAny_loadPart' hl,wpAny_loadPart' hb
 exact⟨plainId_quiet MeetsSeq3.plain_eq_loop _,codeAny_builtin MeetsSeq3.entry_eq_loop (by
  rw[Around.under_plainId MeetsSeq3.plain_eq_loop _]
  exact Zd1 l b items items2 n n2 dd dd2 sl sl2 hx hy _ 0 rfl prog w A R _ ⟨hl,hb,by simpa [Wh] using h⟩)⟩
section
variable {prog:Program}{w:World}{A:Around}{E:Value->Shared->Prop}{s:Shared}
theorem UX {l b:Addr}{us vs:List Value}{xs ys:List Int}{Q:Bool->Shared->Prop}(hu:A.units<cLine)(hl:s.heap.IsList l us.toArray)(hb:s.heap.IsList b vs.toArray)(hx:IntsAre us xs)(hy:IntsAre vs ys)(h:Q (Wh xs ys) s) :
  wpAny (model prog w) A (keyLt' oneType' (.ref l) (.ref b)) Q E s:=by
 obtain⟨ol,e1,c1,n1,d1⟩:=hl
 obtain⟨ob,e2,c2,n2,d2⟩:=hb
 obtain⟨ocls,odict,odata,oslots⟩:=ol
 obtain⟨ocls2,odict2,odata2,oslots2⟩:=ob
 simp only at c1 d1 c2 d2
 subst c1 d1 c2 d2
 rw[keyLt'_oneType,oneLt'_eq]
 simp only[if_true]
 refine Zl (wpAny_cRoomFor hu ?_)
 refine Zl (wpAny_callSpecialIfBound?_slot ⟨_,e1,rfl⟩ PySem.F.slot_list_lt ?_)
 refine call_meets PySem.F.slot_list_lt ⟨_,e1,rfl⟩ PySem.F.entry_list_lt (PySem.F.args_list_lt_2 _ _) (Zd2 l b us.toArray vs.toArray n1 n2 odict odict2 oslots oslots2 (by simpa using hx) (by simpa using hy)) ⟨e1,e2,?_⟩
 exact wpAny_truthy_bool h
end
end PyZ
namespace PyZ
open PySem PyProof PyProof.Rows
theorem Vo (ys:List Int):Wh [] ys=decide (0<ys.length):=rfl
theorem VY (xs:List Int):Wh xs []=false:=by
 cases xs with
 |nil=>rfl
 |cons x xs=>
  show decide ((x::xs).length<([]:List Int).length)=false
  exact decide_eq_false (by simp)
theorem Xa (x y:Int)(xs ys:List Int):Wh (x::xs) (y::ys)=if x=y then Wh xs ys else decide (x<y):=by
 unfold Wh
 show (if x=y then Vp _ xs ys else _)=_
 have e:decide ((x::xs).length<(y::ys).length)=decide (xs.length<ys.length):=by
  simp only[Zi,Nat.add_lt_add_iff_right]
 rw[e]
theorem ZaJ:∀xs:List Int,Wh xs xs=false
 | []=>rfl
 |x::xs=>by rw[Xa,if_pos rfl];exact ZaJ xs
theorem Vn:∀{xs ys:List Int},Wh xs ys=false->Wh ys xs=false->xs=ys
 | [],[],_,_=>rfl
 | [],_::_,h,_=>by rw[Vo] at h;simp at h
 |_::_,[],_,h=>by rw[Vo] at h;simp at h
 |x::xs,y::ys,h1,h2=>by
  rw[Xa] at h1 h2
  by_cases e:x=y
  ·rw[if_pos e] at h1
   rw[if_pos e.symm] at h2
   rw[e,Vn h1 h2]
  ·rw[if_neg e] at h1
   rw[if_neg (Ne.symm e)] at h2
   have a:=of_decide_eq_false h1
   have b:=of_decide_eq_false h2
   omega
theorem XU:∀{xs ys zs:List Int},Wh xs ys=true->Wh ys zs=true->Wh xs zs=true
 |xs,ys,[],_,h=>by rw[VY] at h;cases h
 |xs,[],z::zs,h,_=>by rw[VY] at h;cases h
 | [],y::ys,z::zs,_,_=>by rw[Vo];exact decide_eq_true (by simp)
 |x::xs,y::ys,z::zs,h1,h2=>by
  rw[Xa] at h1 h2 ⊢
  by_cases e1:x=y
  ·rw[if_pos e1] at h1
   by_cases e2:y=z
   ·rw[if_pos e2] at h2
    rw[if_pos (e1.trans e2)]
    exact XU h1 h2
   ·rw[if_neg e2] at h2
    have:=of_decide_eq_true h2
    rw[if_neg (by omega)]
    exact decide_eq_true (by omega)
  ·rw[if_neg e1] at h1
   have a:=of_decide_eq_true h1
   by_cases e2:y=z
   ·rw[if_neg (by omega)]
    exact decide_eq_true (by omega)
   ·rw[if_neg e2] at h2
    have:=of_decide_eq_true h2
    rw[if_neg (by omega)]
    exact decide_eq_true (by omega)
theorem JT {n:Nat}{cmp cmp':Nat->Nat->Bool}(h:∀i j,i<n->j<n->cmp i j=cmp' i j){α:Type}:∀t:W.KasT α,Jd n cmp t=Jd n cmp' t
 | .ret a=>rfl
 | .ask i j k=>by
  rw[Jd,Jd]
  by_cases hh:i<n/\j<n
  ·rw[if_pos hh,if_pos hh,h i j hh.1 hh.2]
   exact JT h _
  ·rw[if_neg hh,if_neg hh]
theorem X2 {α:Type}{p q:α->Bool}:∀{l:List α},(∀x∈l,p x=true->q x=true)->(∃x∈l,p x=false/\q x=true)->l.countP p<l.countP q
 | [],_,⟨x,hx,_⟩=>by cases hx
 |y::l,h,⟨x,hx,hp,hq⟩=>by
  have le:∀{l:List α},(∀x∈l,p x=true->q x=true)->l.countP p<=l.countP q:=fun {l} h=>List.countP_mono_left h
  rw[List.countP_cons,List.countP_cons]
  have h':∀x∈l,p x=true->q x=true:=fun z hz=>h z (List.mem_cons_of_mem _ hz)
  rcases List.mem_cons.mp hx with e|hx
  ·rw[<-e,hp,hq]
   have:=le h'
   simp only[Bool.false_eq_true,if_false,if_true]
   omega
  ·have:=X2 h' ⟨x,hx,hp,hq⟩
   have hy:=h y List.mem_cons_self
   cases e1:p y with
   |true=>rw[hy e1];omega
   |false=>
    simp only[Bool.false_eq_true,if_false]
    split <;> omega
def rkB (yss:List (List Int))(i:Nat):Nat:=(List.range yss.length).countP fun k=>Wh (yss.getD k []) (yss.getD i [])
theorem Zcq {yss:List (List Int)}{i j:Nat}(hi:i<yss.length)(hj:j<yss.length):Wh (yss.getD i []) (yss.getD j [])=decide (rkB yss i<rkB yss j):=by
 have up:∀{i j:Nat},i<yss.length->Wh (yss.getD i []) (yss.getD j [])=true->rkB yss i<rkB yss j:=fun {i j} hi h=>by
  refine X2 (fun k _ hk=>XU hk h) ⟨i,List.mem_range.mpr hi,ZaJ _,h⟩
 cases e:Wh (yss.getD i []) (yss.getD j []) with
 |true=>rw[decide_eq_true (up hi e)]
 |false=>
  cases e2:Wh (yss.getD j []) (yss.getD i []) with
  |true=>
   have:=up hj e2
   rw[decide_eq_false (by omega)]
  |false=>
   have:=Vn e e2
   unfold rkB
   rw[this]
   exact (decide_eq_false (by omega)).symm
theorem XI {yss:List (List Int)}(h1:1<=yss.length):∃p,Jd yss.length (fun i j=>Wh (yss.getD i []) (yss.getD j [])) (W.kas_sort yss.length)=some p/\p.toList.Perm (List.range yss.length)/\(p.toList.map fun i=>yss.getD i []).Pairwise fun a b=>Wh b a=false:=by
 obtain⟨p,e,hp,hs⟩:=ZdB h1 (rkB yss)
 refine⟨p,(JT (fun i j hi hj=>Zcq hi hj) _).trans e,hp,?_⟩
 rw[List.pairwise_map] at hs ⊢
 refine List.Pairwise.imp_of_mem (fun {a b} ha hb hab=>?_) hs
 have la:=List.mem_range.mp (hp.mem_iff.mp ha)
 have lb:=List.mem_range.mp (hp.mem_iff.mp hb)
 rw[Zcq lb la]
 exact decide_eq_false (by omega)
section
variable {prog:Program}{w:World}{A:Around}{E:Value->Shared->Prop}{s:Shared}
theorem JR {a:Addr}{vs:List Value}{n:Nat}{P:Fin->Shared->Prop}(ho:s.heap.get? a=some (seqObj "list" vs.toArray n))(h2:vs.length<2)
  (h:P (.done (.ret .none)) {s with heap:=sortedHeap s.heap a vs vs.toArray}):wpAny (model prog w) A (Builtin.«list.sort» ⟨[.ref a],[]⟩) P E s:=by
 rw[list_sort_plain]
 have ha:a<s.heap.objs.size:=Zp ho
 refine Zl (listItems_at ho rfl ?_)
 refine Zl (listUpdate_at ho rfl ?_)
 obtain⟨e1,ho1⟩:∃e1,(s.heap.update a (Obj.mapSeq fun _=>#[])).get? a=some (seqObj "list" #[] e1):=⟨_,get?_update_seq ho (fun _=>#[])⟩
 refine Zl (seqEpoch_at ho1 rfl ?_)
 refine Zl (wpAny_newTuple ?_)
 refine Zl (wpAny_newList ?_)
 refine wpAny_holding ?_
 have ho6:(((s.heap.update a (Obj.mapSeq fun _=>#[])).push (seqObj "tuple" vs.toArray 0)).push (seqObj "list" #[] 0)).get? a=some (seqObj "list" #[] e1):=by
  rw[Heap.get?_push_ne _ _ _ (by rw[size_push',Heap.size_update];exact Nat.ne_of_lt (Nat.lt_succ_of_lt ha)),Heap.get?_push_ne _ _ _ (by rw[Heap.size_update];exact Nat.ne_of_lt ha)]
  exact ho1
 show wpAny (model prog w) A _ P E {s with heap:=((s.heap.update a (Obj.mapSeq fun _=>#[])).push (seqObj "tuple" vs.toArray 0)).push (seqObj "list" #[] 0)}
 dsimp only
 have hsz:vs.toArray.size=vs.length:=by simp
 have h2':vs.toArray.size<2:=by omega
 rw[if_pos h2',if_pos h2']
 refine Zl (Zm ?_)
 rw[StateT.run_pure]
 refine Zl (Zm ?_)
 dsimp only
 have eo:(arrOf (SortSt.mk' general' (vs.toArray.zip vs.toArray) #[] 7 none)).map (·.2)=vs.toArray:=by
  show (vs.toArray.zip vs.toArray).map (·.2)=vs.toArray
  match vs,h2 with
  | [],_=>simp
  | [v],_=>simp
 refine Zl (seqEpoch_at ho6 rfl ?_)
 refine Zl (listUpdate_at ho6 rfl ?_ (hsz2:=by rw[Array.size_map];show (pairsOf vs).size<=_;rw[pairsOf_size,sizeLine_eq];omega))
 simp only[bne_self_eq_false,Bool.false_eq_true,if_false]
 refine Zm ?_
 rw[eo]
 exact h
theorem Vb {l:Addr}{vs:List Value}{Q:Value->Shared->Prop}(hl:s.heap.IsList l vs.toArray)(h2:vs.length<2)
  (h:Q (.ref (s.heap.objs.size+1)) {s with heap:=sortedAll s.heap vs vs.toArray}):wpAny (model prog w) A (call (.builtin "sorted") [.ref l]) Q E s:=by
 refine Calls.call_function_entry kind_sorted plain_sorted entry_sorted (args_sorted1 _) ?_
 unfold Builtin.«sorted»
 refine Zl (m:=checkCount "sorted" 1 1 _) (Zm ?_)
 refine Zl (collect_list hl ?_ (by rw[sizeLine_eq];omega))
 refine Zl (wpAny_newList ?_ (by rw[sizeLine_eq];omega))
 have hsz:((s.heap.push (seqObj "list" #[] 0)).update s.heap.objs.size (Obj.mapSeq (· ++ vs.toArray))).objs.size=s.heap.objs.size+1:=by
  rw[Heap.size_update,size_push']
 have hoL:(((s.heap.push (seqObj "list" #[] 0)).update s.heap.objs.size (Obj.mapSeq (· ++ vs.toArray))).push (seqObj "list" vs.toArray 0)).get? (s.heap.objs.size+1)=some (seqObj "list" vs.toArray 0):=by
  rw[<-hsz];exact Zo _ rfl
 show wpAny _ _ _ _ _ {s with heap:=((s.heap.push (seqObj "list" #[] 0)).update s.heap.objs.size (Obj.mapSeq (· ++ vs.toArray))).push (seqObj "list" vs.toArray 0)}
 rw[hsz]
 refine Zl (wpAny_holding (wpAny_call_entry slot_list_sort ⟨_,hoL,rfl⟩ entry_list_sort (JR hoL h2 ⟨_,rfl,?_⟩) (args_list_sort _)))
 exact Zm ⟨_,rfl,h⟩
end
end PyZ
namespace L2
open PySem PySem.Spec PyProof.Rows
theorem ZG.there {P:Program}{w:World}{H:Hp}{h:Heap}{a:Addr}{o:HO}(x:ZG P w H h a o):∃ob,h.get? a=some ob:=by
 cases o with
 |lst xs=>obtain⟨_,_,_,_,e⟩:=x;exact⟨_,e⟩
 |tup xs=>obtain⟨_,_,_,ob,e,_⟩:=x;exact⟨_,e⟩
 |dK kvs=>obtain⟨_,_,_,_,o,_,_,e,_⟩:=x;exact⟨_,e⟩
 |dT kvs=>obtain⟨_,_,_,_,o,_,_,e,_⟩:=x;exact⟨_,e⟩
 |set S n=>obtain⟨o,_,_,_,e,_⟩:=x;exact⟨_,e⟩
 |ins C dx fs=>obtain⟨_,_,_,e,_⟩:=x;exact⟨_,e⟩
 |own y=>obtain⟨_,e⟩:=x;exact⟨_,e⟩
 |xd fs=>obtain⟨_,⟨_,_,_,e,_⟩,_⟩:=x;exact⟨_,e⟩
 |rng lo hi=>obtain⟨_,_,_,e⟩:=x;exact⟨_,e⟩
 |frz ob u=>obtain⟨e,_⟩:=x;exact⟨_,e⟩
 |tbl ps=>exact⟨_,(show h.get? a=some _ from x)⟩
 |met f y=>exact⟨_,(show h.get? a=some _ from x)⟩
 |ext φ=>obtain⟨_,⟨_,e⟩,_⟩:=x;exact⟨_,e⟩
section
variable {X:Cx}{pins:List (Addr×Obj)}{σ:St}{H:Hp}{s:Shared}
theorem Inv.newL {D:Addr}{c:Nat}{h':Heap}{m:Str->Option Value}{ys:List V}{its:List Value}(I:Inv X pins σ H s)(hm:s.heap.Ns X.env.locals m)
  (hl:∀(i:Nat) (x:Str) (v:V),X.N[i]?=some x->σ[i]?=some (some v)->Vis X.env.scope x->∃u,RelV v u/\Look X.env s.heap m x u)
  (dn:s.heap.get? D=none) (dL:D≠X.env.locals) (kept:∀b o,b≠X.env.locals->s.heap.get? b=some o->h'.get? b=some o) (hn':h'.Ns X.env.locals m) (hz:ys.length<=sizeLine) (hv:ZC ys its) (hD:h'.get? D=some {cls:=.type "list",data:=.seq its.toArray c}) :
  Inv X pins σ (upd H D (.lst ys)) {s with heap:=h'}/\H D=none:=by
 have hHD:H D=none:=by
  cases e:H D with
  |none=>rfl
  |some o=>
   obtain⟨ob,e2⟩:=(I.hok D o e).there
   rw[dn] at e2
   cases e2
 have neD:∀{b:Addr}{o:Obj},s.heap.get? b=some o->b≠D:=fun {b o} e z=>by rw[z,dn] at e;cases e
 have neH:∀{b:Addr}{o:HO},H b=some o->b≠D:=fun {b o} e z=>by rw[z,hHD] at e;cases e
 have neL:∀{b:Addr}{o:HO},H b=some o->b≠X.env.locals:=fun {b o} e z=>by rw[z,I.free] at e;cases e
 have bL:∀{b:Addr}{o:Obj},X.s₀.heap.get? b=some o->b≠X.env.locals:=fun {b o} e=>Nat.ne_of_lt (Nat.lt_of_lt_of_le (Zp e) I.ok.above)
 refine⟨⟨I.ok,I.os,I.bare,⟨fun b o e n hb hx=>?_,fun b o e n hb hx=>?_,fun b o e n hx=>?_,fun b o e hx=>?_,fun b xs e=>?_,fun b o u e=>?_,fun b ps e=>?_⟩,⟨m,hn',fun j y v e1 e2 e3=>?_⟩,fun y c' e=>?_,?_,fun y c' e=>?_,fun p hp=>?_,fun b ob e=>?_,I.len⟩,hHD⟩
 ·exact kept b o (bL e) (I.base.keep b o e n hb hx)
 ·obtain⟨sl,e1⟩:=I.base.slot b o e n hb hx
  exact⟨sl,kept b _ (bL e) e1⟩
 ·obtain⟨o',e1⟩:=I.base.there b o e hx
  rw[Zw (neD e1)]
  exact I.base.free b o e n hx
 ·obtain⟨o',e1⟩:=I.base.there b o e hx
  exact⟨o',kept b _ (bL e) e1⟩
 ·have:=I.base.tups b xs e
  rw[Zw (neH this)]
  exact this
 ·have:=I.base.frzs b o u e
  rw[Zw (neH this)]
  exact this
 ·obtain⟨more,this⟩:=I.base.tbls b ps e
  exact⟨more,by rw[Zw (neH this)];exact this⟩
 ·obtain⟨u,r,q⟩:=hl j y v e1 e2 e3
  refine⟨u,r,?_⟩
  rcases q with ⟨k,e⟩|⟨k,c',e,z⟩
  ·exact .inl ⟨k,e⟩
  ·obtain⟨o,g,rest⟩:=z
   exact .inr ⟨k,c',e,o,kept c' o (I.cne y c' e) g,rest⟩
 ·obtain⟨w',o,g,rest⟩:=I.cell y c' e
  exact⟨w',o,kept c' o (I.cne y c' e) g,rest⟩
 ·rw[Zw (Ne.symm dL)]
  exact I.free
 ·obtain⟨w',o,g,rest⟩:=I.cell y c' e
  rw[Zw (neD g)]
  exact I.freeC y c' e
 ·obtain⟨e,n,ne,nf,d⟩:=I.pin p hp
  exact⟨kept p.1 _ ne e,by rw[Zw (neD e)];exact n,ne,nf,d⟩
 ·by_cases hb:b=D
  ·subst hb
   rw[Zs] at e
   cases (Option.some.inj e)
   exact⟨hz,its,c,hv,hD⟩
  ·rw[Zw hb] at e
   refine (I.hok b ob e).stay (fun c' w' hc q=>kept c' w' ?_ q) (fun c' q=>?_) fun c' xs q=>?_
   ·rcases hc with rfl|hc
    ·exact neL e
    ·exact neL hc
   ·rw[Zw (neH q)]
    exact q
   ·rw[Zw (neH q)]
    exact q
theorem Jc:∀{as:List Addr}{us:List Value},ZC (as.map V.ref) us->us=as.map Value.ref
 | [],_,h=>by cases h;rfl
 |a::as,_,h=>by
  cases h with
  |cons r t=>rw[show _=Value.ref a from r,Jc t];rfl
theorem Y3:∀{ns:List Int}{us:List Value},ZC (ns.map V.int) us->IntsAre us ns
 | [],_,h=>by cases h;exact .nil
 |n::ns,_,h=>by
  cases h with
  |cons r t=>
   obtain⟨k,rfl⟩:=r
   exact .cons n k (Y3 t)
theorem YV:∀as:List Addr,ZC (as.map V.ref) (as.map Value.ref)
 | []=>.nil
 |a::as=>.cons rfl (YV as)
end
end L2
namespace PyZ
open PySem PyProof PyProof.Rows
section
variable {prog:Program}{w:World}{A:Around}{E:Value->Shared->Prop}{s:Shared}
theorem Vc {l L:Addr}{m:Str->Option Value}{as:List Addr}{yss:List (List Int)}{p:Array Nat}{Q:Value->Shared->Prop}(hu:A.units+2<cLine)(hNs:s.heap.Ns L m)(hl:s.heap.IsList l (as.map Value.ref).toArray)(n2:2<=as.length)(n64:as.length<64)(hy:as.length=yss.length)
  (ht:∀(i:Nat) a,as[i]?=some a->a≠L/\∃(us:List Value) (ys:List Int),yss[i]?=some ys/\s.heap.IsList a us.toArray/\IntsAre us ys)
  (hp:Jd as.length (fun i j=>Wh (yss.getD i []) (yss.getD j [])) (W.kas_sort as.length)=some p)
  (q:∀D c h',s.heap.get? D=none->D≠L->(∀b o,b≠L->s.heap.get? b=some o->h'.get? b=some o)->h'.Ns L m->h'.get? D=some (W.listOf (p.toList.map fun i=>(as.map Value.ref).getD i Value.none).toArray c)->Q (.ref D) {s with heap:=h'}) :
  wpAny (model prog w) A (call (.builtin "sorted") [.ref l]) Q E s:=by
 have fr:Fr (Xz s.heap L) L s.heap m:=by
  refine⟨hNs,fun b o e=>?_,?_⟩
  ·by_cases hb:b<L
   ·rw[Z4 hb] at e;exact e
   ·rw[Yj (Nat.le_of_not_lt hb)] at e
    cases e
  ·show (s.heap.objs.extract 0 L).size<=L
   rw[Array.size_extract,Nat.sub_zero]
   exact Nat.min_le_left ..
 have nw:News (Xz s.heap L) L s.heap (ZM s.heap L):=fun x hx=>by
  obtain⟨h1,h2⟩:=ZN.mp hx
  exact⟨h2,Nat.ne_of_gt h1,Yj (Nat.le_of_lt h1)⟩
 have lv:(as.map Value.ref).length=as.length:=List.length_map ..
 refine W.kat_sorted fr nw hl (by rw[lv];exact n2) (by rw[lv];exact n64) fun D e1 h' fr' nw' big=>?_
 have kept:∀b o,b≠L->s.heap.get? b=some o->h'.get? b=some o:=fun b o hb e=>by
  rcases Nat.lt_or_ge b L with h1|h1
  ·exact fr'.keep b o (by rw[Z4 h1];exact e)
  ·exact (nw' (b,o) (List.mem_cons_of_mem _ (ZN.mpr ⟨Nat.lt_of_le_of_ne h1 (Ne.symm hb),e⟩))).1
 have dn:s.heap.get? D=none:=by
  cases e:s.heap.get? D with
  |none=>rfl
  |some o=>
   obtain⟨_,dL,dc⟩:=nw' _ (List.mem_cons_self ..)
   rcases Nat.lt_or_ge D L with h1|h1
   ·rw[Z4 h1] at dc
    rw[dc] at e
    cases e
   ·exact absurd (big (D,o) (ZN.mpr ⟨Nat.lt_of_le_of_ne h1 (Ne.symm dL),e⟩)) (Nat.lt_irrefl _)
 have dL:D≠L:=(nw' _ (List.mem_cons_self ..)).2.1
 have ht':∀(i:Nat) a,as[i]?=some a->∃(us:List Value) (ys:List Int),yss[i]?=some ys/\h'.IsList a us.toArray/\IntsAre us ys:=fun i a hi=>by
  obtain⟨aL,us,ys,e,⟨o,g1,g2⟩,ia⟩:=ht i a hi
  exact⟨us,ys,e,⟨o,kept a o aL g1,g2⟩,ia⟩
 refine W.kas_kind (T:=Value.type "list") (by rw[lv];exact n2) (fun v hv=>?_) (by decide +kernel) (by decide +kernel) ?_
 ·obtain⟨a,ha,rfl⟩:=List.mem_map.mp hv
  obtain⟨i,hi⟩:=List.getElem?_of_mem ha
  obtain⟨us,ys,_,⟨o,g1,g2,_⟩,_⟩:=ht' i a hi
  intro A Q E s' hk q
  refine wpAny_typeOf (T:="list") ⟨o,hk _ _ g1,g2⟩ q
 ·rw[lv]
  refine WB (cmp:=fun i j=>Wh (yss.getD i []) (yss.getD j [])) (fun i j C hi hj c=>?_) _ p _ hp ?_
  ·unfold W.kas_ask
   obtain⟨us,ys,e,i1,ia⟩:=ht' i as[i] (Zf hi)
   obtain⟨us2,ys2,e2,i2,ia2⟩:=ht' j as[j] (Zf hj)
   have v1:(as.map Value.ref).getD i Value.none=.ref as[i]:=by
    rw[Zb,Zc,Zf hi]
    rfl
   have v2:(as.map Value.ref).getD j Value.none=.ref as[j]:=by
    rw[Zb,Zc,Zf hj]
    rfl
   have w1:yss.getD i []=ys:=by rw[Zb,e];rfl
   have w2:yss.getD j []=ys2:=by rw[Zb,e2];rfl
   rw[v1,v2]
   rw[w1,w2] at c
   exact UX (by show A.units+1+1<cLine;omega) i1 i2 ia ia2 c
  ·refine⟨_,_,fr',nw',W.UpdF.head (fun x hx=>Nat.ne_of_lt (big x hx)),fun h'' c fr'' nw''=>?_⟩
   refine q D c h'' dn dL (fun b o hb e=>?_) fr''.ns (nw'' _ (List.mem_cons_self ..)).1
   rcases Nat.lt_or_ge b L with h1|h1
   ·exact fr''.keep b o (by rw[Z4 h1];exact e)
   ·exact (nw'' (b,o) (List.mem_cons_of_mem _ (ZN.mpr ⟨Nat.lt_of_le_of_ne h1 (Ne.symm hb),e⟩))).1
end
end PyZ
namespace L2
open PySem PySem.Spec PyProof.Rows
section
variable {X:Cx}{pins:List (Addr×Obj)}{σ:St}{H:Hp}{s:Shared}
theorem ZdM:∀{as:List Addr},as.length<2->((List.range as.length).map fun i=>as.getD i 0)=as
 | [],_=>rfl
 | [_],_=>rfl
theorem Zfk {β:Type}:∀{n:Nat},n<2->∀(f:Nat->β) (R:β->β->Prop),((List.range n).map f).Pairwise R
 |0,_,_,_=>List.Pairwise.nil
 |1,_,_,_=>List.pairwise_singleton _ _
def Zhe (tp:Bool)(ys:List Int):HO:=if tp then .tup (ys.map V.int) else .lst (ys.map V.int)
def Zcu (tp:Bool):List V->Hp->VK->Prop:=fun xs H Q=>∃(l:Addr) (as:List Addr) (yss:List (List Int)),xs=[.ref l]/\H l=some (.lst (as.map V.ref))/\as.length=yss.length/\as.length<64/\
 (∀(i:Nat) a,as[i]?=some a->∃ys,yss[i]?=some ys/\ys≠[]/\H a=some (Zhe tp ys))/\
 ∀D js,H D=none->List.Perm js (List.range as.length)->(js.map fun i=>yss.getD i []).Pairwise (fun a b=>PyZ.Wh b a=false)->Q (.ref D) (upd H D (.lst ((js.map fun i=>as.getD i 0).map V.ref)))
theorem Zai (tp:Bool)(hu:X.A.units+64<cLine):ZR X (.builtin "sorted") (Zcu tp):=by
 intro pins s σ H xs us Q I r h
 obtain⟨l,as,yss,rfl,hl,hy,n64,ht,q⟩:=h
 obtain⟨u,rfl,ru⟩:=r.one
 cases ru
 obtain⟨m,hm,hlk⟩:=id I.loc
 obtain⟨z,its,n,rv,hlen,e⟩:=I.lstM hl
 have ei:=Jc rv
 subst ei
 have hil:s.heap.IsList l (as.map Value.ref).toArray:=(I.list (.of hl)).elim fun its' hh=>by
  obtain⟨rv',pl,_⟩:=hh
  have:=Jc rv'
  rw[this] at pl
  exact pl.isList
 have szl:(16777216:Nat)=sizeLine:=by decide
 have neL:∀{a:Addr}{o:HO},H a=some o->a≠X.env.locals:=fun {a o} e z=>by rw[z,I.free] at e;cases e
 by_cases n2:as.length<2
 ·refine PyZ.Vb hil (by rw[Za];exact n2) ?_
  obtain⟨e1,he⟩:=sortedAll_at s.heap (as.map Value.ref) (as.map Value.ref).toArray
  have old:∀b o,s.heap.get? b=some o->(sortedAll s.heap (as.map Value.ref) (as.map Value.ref).toArray).get? b=some o:=fun b o e=>sortedAll_old e
  generalize sortedAll s.heap (as.map Value.ref) (as.map Value.ref).toArray=h' at he old ⊢
  have hle:s.heap.objs.size<=s.heap.objs.size+1:=Nat.le_succ _
  generalize s.heap.objs.size+1=D at he hle ⊢
  have em:=ZdM n2
  have hpw:=Zfk n2 (fun i=>yss.getD i []) fun a b=>PyZ.Wh b a=false
  have fin:=q D (List.range as.length) (I.hok.fresh hle) (List.Perm.refl _) hpw
  rw[em] at fin
  have I':Inv X pins σ (upd H D (.lst (as.map V.ref))) {s with heap:=h',toks:=s.toks}:=I.laid (a:=D) (o:=.lst (as.map V.ref)) (t':=s.toks) old hle ⟨by rw[Za];omega,as.map Value.ref,e1,YV as,he⟩
  exact⟨.ref D,_,I',rfl,fin⟩
 ·obtain⟨p,hp,hpm,hps⟩:=PyZ.XI (yss:=yss) (by omega)
  rw[<-hy] at hp hpm
  have hpi:∀i∈p.toList,i<as.length:=fun i hi=>List.mem_range.mp (hpm.mem_iff.mp hi)
  have pl:p.toList.length=as.length:=by rw[hpm.length_eq,Zg]
  have es:(p.toList.map fun i=>(as.map Value.ref).getD i Value.none)=(p.toList.map fun i=>as.getD i 0).map Value.ref:=by
   rw[List.map_map]
   refine List.map_congr_left fun i hi=>?_
   have:=hpi i hi
   show (as.map Value.ref).getD i Value.none=Value.ref (as.getD i 0)
   rw[Zb,Zc,Zf this,Zb,Zf this]
   rfl
  have fin:∀D c h',s.heap.get? D=none->D≠X.env.locals->(∀b o,b≠X.env.locals->s.heap.get? b=some o->h'.get? b=some o)->h'.Ns X.env.locals m->h'.get? D=some (W.listOf (p.toList.map fun i=>(as.map Value.ref).getD i Value.none).toArray c)->
    ∃v H',Inv X pins σ H' {s with heap:=h'}/\RelV v (.ref D)/\Q v H':=fun D c h' dn dL kept hn' hD=>by
   rw[es] at hD
   obtain⟨I',hH⟩:=I.newL (ys:=(p.toList.map fun i=>as.getD i 0).map V.ref) hm hlk dn dL kept hn' (by rw[Za,Za];omega) (YV _) hD
   exact⟨.ref D,_,I',rfl,q D _ hH hpm hps⟩
  cases tp with
  |true=>
   refine PyZ.VJ (yss:=yss) (p:=p) hm hil (by omega) n64 hy (fun i a hi=>?_) hp fin
   obtain⟨ys,e1,ne,ha⟩:=ht i a hi
   have ha:H a=some (.tup (ys.map V.int)):=ha
   obtain⟨us,rv',pt,_⟩:=I.tuple (.of ha)
   exact⟨neL ha,us,ys,e1,pt,Y3 rv',ne⟩
  |false=>
   refine PyZ.Vc (yss:=yss) (p:=p) (by omega) hm hil (by omega) n64 hy (fun i a hi=>?_) hp fin
   obtain⟨ys,e1,ne,ha⟩:=ht i a hi
   have ha:H a=some (.lst (ys.map V.int)):=ha
   obtain⟨us,rv',pt,_⟩:=I.list (.of ha)
   exact⟨neL ha,us,ys,e1,pt.isList,Y3 rv'⟩
end
end L2
namespace PyS
open PySem PySem.SetTable PySem.W PyProof.Rows PySem.Calls PyProof.V PySem.Spec
section
variable {prog:Program}{w:World}{A:Around}{E:Value->Shared->Prop}{s:Shared}
end
end PyS
namespace PyS
open PySem PySem.W PyProof.Rows PySem.Calls PyProof.V PySem.Spec
section
variable {prog:Program}{w:World}{A:Around}{E:Value->Shared->Prop}{s:Shared}{a L:Addr}{m:Str->Option Value}{T:String}{d:Addr}{n:Nat}{Good:(Nat->Value->Prop)->Prop}{OK:Heap->Prop}
theorem VL {M:List Addr}{key:Addr->List Int}{Q:Value->Shared->Prop}(C:Src prog w T a d n Good OK)(hh:A.handled=none)(n2:2<=n)(n64:n<64)(hok:OK s.heap)(hNs:s.heap.Ns L m)
    (hi:∀P acc,Good P->ItemsOf P acc n->∃as:List Addr,acc.toList=as.map Value.ref/\List.Perm as M)
    (ht:∀b∈M,b≠L/\key b≠[]/\∃us:List Value,s.heap.IsTuple b us.toArray/\IntsAre us (key b))
    (q:∀D c h' dr tk (as:List Addr),s.heap.get? D=none->D≠L->(∀b o,b≠L->s.heap.get? b=some o->h'.get? b=some o)->h'.Ns L m->List.Perm as M->(as.map key).Pairwise (fun x y=>PyZ.Wh y x=false)->h'.get? D=some (W.listOf (as.map Value.ref).toArray c)->Q (.ref D) {s with heap:=h',drawn:=dr,toks:=tk}) :
    wpAny (model prog w) A (call (.builtin "sorted") [.ref a]) Q E s:=by
  have hz : n ≤ sizeLine := by have:(16777216:Nat)=sizeLine:=by decide
                               omega
  refine call_function_entry kind_sorted plain_sorted entry_sorted (args_sorted1 _) ?_
  unfold Builtin.«sorted»
  refine Zl (m:=checkCount "sorted" 1 1 _) (Zm ?_)
  refine Zl (Jt (A:=A.in1) C hh hz hok fun h1 dr tk acc P hgt hk hg hacc=>?_)
  obtain⟨as,ea,hperm⟩:=hi P acc hg hacc
  have hl:as.length=n:=by rw[<-Za (f:=Value.ref),<-ea,Zr];exact hacc.1
  rw[ea]
  have lv:(as.map Value.ref).length=as.length:=List.length_map ..
  refine Zl (wpAny_newList ?_ (by rw[lv,hl];exact hz))
  have hLs:L<s.heap.objs.size:=hNs.lt
  have hL:L<h1.objs.size:=Nat.lt_trans hLs hgt
  have hNs1:h1.Ns L m:=hNs.keeps hk
  obtain⟨h2,hh2⟩:∃h2,h2=h1.push {cls:=.type "list",data:=.seq (as.map Value.ref).toArray}:=⟨_,rfl⟩
  have hoL:h2.get? h1.objs.size=some (seqObj "list" (as.map Value.ref).toArray 0):=by rw[hh2];exact Zo _ rfl
  have hk2:∀b o,h1.get? b=some o->h2.get? b=some o:=fun b o e=>by rw[hh2];exact Zn _ e
  have hNs2:h2.Ns L m:=hNs1.keeps hk2
  have hbig:∀b o,h2.get? b=some o->b≠h1.objs.size->b<h1.objs.size:=fun b o e ne=>by
    have:=Zp e
    rw[hh2,Heap.size_push] at this
    exact Nat.lt_of_le_of_ne (Nat.le_of_lt_succ this) ne
  show wpAny _ _ _ _ _ {s with heap:=h1.push {cls:=.type "list",data:=.seq (as.map Value.ref).toArray},drawn:=dr,toks:=tk}
  rw[<-hh2]
  have fr:Fr (PyZ.Xz h2 L) L h2 m:=by
    refine⟨hNs2,fun b o e=>?_,?_⟩
    · by_cases hb:b<L
      · rw[PyZ.Z4 hb] at e;exact e
      · rw[PyZ.Yj (Nat.le_of_not_lt hb)] at e
        cases e
    · show (h2.objs.extract 0 L).size<=L
      rw[Array.size_extract,Nat.sub_zero]
      exact Nat.min_le_left ..
  have nw:News (PyZ.Xz h2 L) L h2 (PyZ.ZM h1 L):=fun x hx=>by
    obtain⟨e1,e2⟩:=PyZ.ZN.mp hx
    exact⟨hk2 _ _ e2,Nat.ne_of_gt e1,PyZ.Yj (Nat.le_of_lt e1)⟩
  have big:∀x∈PyZ.ZM h1 L,x.1<h1.objs.size:=fun x hx=>Zp (PyZ.ZN.mp hx).2
  refine Zl (wpAny_holding (wpAny_call_entry slot_list_sort ⟨_,hoL,rfl⟩ entry_list_sort ?body (args_list_sort _)))
  case body=>
    refine W.kat_list_sort (s:={s with heap:=h2,drawn:=dr,toks:=tk}) fr nw hoL (Nat.ne_of_gt hL) (PyZ.Yj (Nat.le_of_lt hL)) (fun x hx=>Nat.ne_of_lt (big x hx)) (by rw[lv,hl];exact n2) (by rw[lv,hl];exact n64) fun e1 h' fr' nw'=>?_
    have kept:∀b o,b≠L->h1.get? b=some o->h'.get? b=some o:=fun b o hb e=>by
      rcases Nat.lt_or_ge b L with c1|c1
      · exact fr'.keep b o (by rw[PyZ.Z4 c1];exact hk2 b o e)
      · exact (nw' (b,o) (List.mem_cons_of_mem _ (PyZ.ZN.mpr ⟨Nat.lt_of_le_of_ne c1 (Ne.symm hb),e⟩))).1
    obtain⟨yss,hyss⟩:∃yss,yss=as.map key:=⟨_,rfl⟩
    have hy:as.length=yss.length:=by rw[hyss,Za]
    have yat:∀i a,as[i]?=some a->yss[i]?=some (key a):=fun i a e=>by rw[hyss,Zc,e];rfl
    have ht':∀(i:Nat) a,as[i]?=some a->∃(us:List Value) (ys:List Int),yss[i]?=some ys/\h'.IsTuple a us.toArray/\IntsAre us ys/\ys≠[]:=fun i a e=>by
      obtain⟨aL,ne,us,⟨o,g1,g2⟩,ia⟩:=ht a (hperm.mem_iff.mp (List.mem_of_getElem? e))
      exact⟨us,_,yat i a e,⟨o,kept a o aL (hk a o g1),g2⟩,ia,ne⟩
    obtain⟨fs,kt,fl,fi⟩:=PyZ.Vq as yss hy ht'
    obtain⟨p,hp,hpm,hps⟩:=PyZ.XI (yss:=yss) (by omega)
    rw[<-hy] at hp hpm
    have hpi:∀i∈p.toList,i<as.length:=fun i hi=>List.mem_range.mp (hpm.mem_iff.mp hi)
    have es:(p.toList.map fun i=>(as.map Value.ref).getD i Value.none)=(p.toList.map fun i=>as.getD i 0).map Value.ref:=by
      rw[List.map_map]
      refine List.map_congr_left fun i hi=>?_
      have:=hpi i hi
      show (as.map Value.ref).getD i Value.none=Value.ref (as.getD i 0)
      rw[Zb,Zc,Zf this,Zb,Zf this]
      rfl
    have ekey:(p.toList.map fun i=>as.getD i 0).map key=p.toList.map fun i=>yss.getD i []:=by
      rw[List.map_map]
      refine List.map_congr_left fun i hi=>?_
      have:=hpi i hi
      show key (as.getD i 0)=yss.getD i []
      rw[Zb,Zf this,Zb,yat i _ (Zf this)]
      rfl
    have pas:List.Perm (p.toList.map fun i=>as.getD i 0) M:=by
      refine List.Perm.trans ?_ hperm
      refine (hpm.map _).trans ?_
      have:((List.range as.length).map fun i=>as.getD i 0)=as:=by
        refine List.ext_getElem? fun i=>?_
        rw[Zc]
        by_cases c:i<as.length
        · rw[List.getElem?_range c,Zf c]
          show some (as.getD i 0)=_
          rw[Zb,Zf c]
          rfl
        · rw[List.getElem?_eq_none (by rw[Zg];omega),List.getElem?_eq_none (by omega)]
          rfl
      rw[this]
    refine W.kat_kind (T:=Value.type "int") kt (by omega) (fun v hv=>?_) (by decide +kernel) ?_
    · obtain⟨n,t,rfl⟩:=fi v hv
      intro A Q E s' _ q
      exact Zm q
    · rw[lv]
      have kb:(Value.type "int" != Value.type "tuple")=true:=by decide +kernel
      rw[kb]
      refine PyZ.WB (cmp:=fun i j=>PyZ.Wh (yss.getD i []) (yss.getD j [])) (fun i j C hi hj c=>?_) _ p _ hp ?_
      · unfold W.kas_ask
        obtain⟨us,ys,e,⟨o,g1,g2,n1,g3⟩,ia,_⟩:=ht' i as[i] (Zf hi)
        obtain⟨us2,ys2,e2,⟨o2,k1,k2,n2',k3⟩,ia2,_⟩:=ht' j as[j] (Zf hj)
        have v1:(as.map Value.ref).getD i Value.none=.ref as[i]:=by
          rw[Zb,Zc,Zf hi]
          rfl
        have v2:(as.map Value.ref).getD j Value.none=.ref as[j]:=by
          rw[Zb,Zc,Zf hj]
          rfl
        have w1:yss.getD i []=ys:=by rw[Zb,e];rfl
        have w2:yss.getD j []=ys2:=by rw[Zb,e2];rfl
        rw[v1,v2]
        refine W.kat_lt g1 g3 k1 k3 ?_
        have il:∀{us:List Value}{ys:List Int},IntsAre us ys->us.length=ys.length:=fun {us ys} h=>by
          induction h with
          |nil=>rfl
          |cons _ _ _ ih=>rw[Zi,Zi,ih]
        refine PyZ.U8 us us2 ys ys2 0 ia ia2 ?_
        rw[w1,w2] at c
        unfold PyZ.Wh at c
        rw[Zh,Zh,il ia,il ia2]
        exact c
      · refine⟨_,_,fr',nw',W.UpdF.head (fun x hx=>Nat.ne_of_lt (big x hx)),fun h'' c fr'' nw''=>?_⟩
        refine⟨_,rfl,Zm ⟨_,rfl,?_⟩⟩
        have hD:=(nw'' _ (List.mem_cons_self ..)).1
        rw[es] at hD
        refine q h1.objs.size c h'' dr tk _ (Heap.get?_none_of_le (Nat.le_of_lt hgt)) (Nat.ne_of_gt hL) (fun b o hb e=>?_) fr''.ns pas (by rw[ekey];exact hps) hD
        rcases Nat.lt_or_ge b L with c1|c1
        · exact fr''.keep b o (by rw[PyZ.Z4 c1];exact hk2 b o (hk b o e))
        · exact (nw'' (b,o) (List.mem_cons_of_mem _ (PyZ.ZN.mpr ⟨Nat.lt_of_le_of_ne c1 (Ne.symm hb),hk b o e⟩))).1
end
section
variable {prog:Program}{w:World}{A:Around}{E:Value->Shared->Prop}{s:Shared}{a L:Addr}{m:Str->Option Value}{T:String}{d:Addr}{n:Nat}{Good:(Nat->Value->Prop)->Prop}{OK:Heap->Prop}
theorem Xu {M:List Addr}{Q:Value->Shared->Prop}(C:Src prog w T a d n Good OK)(hh:A.handled=none)(n2:n<2)(hok:OK s.heap)
    (hi:∀P acc,Good P->ItemsOf P acc n->∃as:List Addr,acc.toList=as.map Value.ref/\List.Perm as M)
    (q:∀D c h' dr tk (as:List Addr),s.heap.objs.size<=D->(∀b o,s.heap.get? b=some o->h'.get? b=some o)->List.Perm as M->h'.get? D=some (seqObj "list" (as.map Value.ref).toArray c)->Q (.ref D) {s with heap:=h',drawn:=dr,toks:=tk}) :
    wpAny (model prog w) A (call (.builtin "sorted") [.ref a]) Q E s:=by
  have hz : n ≤ sizeLine := by have:(16777216:Nat)=sizeLine:=by decide
                               omega
  refine call_function_entry kind_sorted plain_sorted entry_sorted (args_sorted1 _) ?_
  unfold Builtin.«sorted»
  refine Zl (m:=checkCount "sorted" 1 1 _) (Zm ?_)
  refine Zl (Jt (A:=A.in1) C hh hz hok fun h1 dr tk acc P hgt hk hg hacc=>?_)
  obtain⟨as,ea,hperm⟩:=hi P acc hg hacc
  have hl:as.length=n:=by rw[<-Za (f:=Value.ref),<-ea,Zr];exact hacc.1
  rw[ea]
  have lv:(as.map Value.ref).length=as.length:=List.length_map ..
  refine Zl (wpAny_newList ?_ (by rw[lv,hl];exact hz))
  have ho:(h1.push {cls:=.type "list",data:=.seq (as.map Value.ref).toArray}).get? h1.objs.size=some (seqObj "list" (as.map Value.ref).toArray 0):=Zo _ rfl
  refine Zl (wpAny_holding (wpAny_call_entry slot_list_sort ⟨_,ho,rfl⟩ entry_list_sort (PyZ.JR ho (by rw[lv];omega) ⟨_,rfl,?_⟩) (args_list_sort _)))
  refine Zm ⟨_,rfl,?_⟩
  have o1:=get?_update_seq ho (fun _=>(#[]:Array Value))
  have o2:=Zn (seqObj "tuple" (as.map Value.ref).toArray 0) o1
  have o3:=Zn (seqObj "list" #[] 0) o2
  have o4:=get?_update_seq o3 (fun _=>(as.map Value.ref).toArray)
  refine q h1.objs.size _ _ dr tk as (Nat.le_of_lt hgt) (fun b o e=>?_) hperm o4
  have hb:b≠h1.objs.size:=Nat.ne_of_lt (Nat.lt_trans (Zp e) hgt)
  unfold sortedHeap
  rw[Heap.get?_update_other _ _ (Ne.symm hb)]
  refine Zn _ (Zn _ ?_)
  rw[Heap.get?_update_other _ _ (Ne.symm hb)]
  exact Zn _ (hk b o e)
end
end PyS
namespace L2
open PySem PySem.Spec PyProof.Rows
def Zgn:V->Int
 | .int k=>k
 |_=>0
def Ju (H:Hp)(b:Addr):List Int:=match H b with
 |some (.tup xs)=>xs.map Zgn
 |_=>[]
theorem JU {H:Hp}{b:Addr}{ys:List Int}(h:H b=some (.tup (ys.map V.int))):Ju H b=ys:=by
 unfold Ju
 rw[h]
 show (ys.map V.int).map Zgn=ys
 rw[List.map_map]
 exact List.map_id' _
section
variable {X:Cx}{pins:List (Addr×Obj)}{σ:L2.St}{H:Hp}{s:Shared}
end
def kI (ys:List Int):List Z6:=ys.map Sum.inl
theorem Zgr (ys:List Int):(kI ys).map kV=ys.map V.int:=by unfold kI;rw[List.map_map];rfl
theorem Zfz {a b:List Int}(h:kI a=kI b):a=b:=by
 unfold kI at h
 exact (List.map_inj_right (fun x y e=>by injection e)).mp h
section
variable {X:Cx}
theorem Uo (hc:X.calm=true):ZR X (.builtin "sorted") (fun xs H Q=>∃(a:Addr) (kvs:List (List Z6×V)) (yss:List (List Int)),xs=[.ref a]/\Rd H a (.dT kvs)/\kvs.map (·.1)=yss.map kI/\yss.length<64/\(∀ys∈yss,ys≠[])/\
  ∀l (as:List Addr) (zss:List (List Int)),H l=none->List.Perm zss yss->zss.Pairwise (fun x y=>PyZ.Wh y x=false)->as.length=zss.length->(∀(i:Nat) b,as[i]?=some b->H b=some (.tup ((zss.getD i []).map V.int)))->Q (.ref l) (upd H l (.lst (as.map V.ref)))):=by
 intro pins s σ H xs us Q I r h
 obtain⟨a,kvs,yss,rfl,e,hk,h64,hne,q⟩:=h
 obtain⟨u,rfl,ru⟩:=vals1 r
 cases ru
 obtain⟨z,lo,o,es,ep,h1,h2,h3,h4,h5⟩:=Zdb I e
 have hl:kvs.length=yss.length:=by rw[<-Za (f:=fun p:List Z6×V=>p.1),hk,Za]
 have key:∀i (hi:i<es.size),∃b,es[i].key=.ref b/\H b=some (.tup ((yss.getD i []).map V.int)):=fun i hi=>by
  obtain⟨kv,b,k1,k2,k3,k4⟩:=h5 i hi
  have e3:(kvs.map (·.1))[i]?=some kv.1:=by rw[Zc,k1];rfl
  rw[hk,Zc,Zf (by omega)] at e3
  have e3:=Option.some.inj e3
  refine⟨b,k2,?_⟩
  rw[k3,<-e3,Zgr,Zb,Zf (by omega)]
  rfl
 let M:List Addr:=es.toList.map fun x=>match x.key with | .ref b=>b|_=>0
 have hM:∀(i:Nat) b,M[i]?=some b->i<es.size/\H b=some (.tup ((yss.getD i []).map V.int))/\∀hi:i<es.size,es[i].key=.ref b:=fun i b hb=>by
  have hi:i<es.size:=by
   have:=(List.getElem?_eq_some_iff.mp hb).1
   rw[Za,Zr] at this
   exact this
  obtain⟨c,e1,e2⟩:=key i hi
  have hb2:(es.toList.map fun x:DictEntry=>match x.key with | .ref b=>b|_=>0)[i]?=some b:=hb
  rw[Zc,Array.getElem?_toList,Array.getElem?_eq_getElem hi] at hb2
  have hb2:=Option.some.inj hb2
  have hb2:(match es[i].key with|Value.ref b=>b|_=>(0:Addr))=b:=hb2
  rw[e1] at hb2
  have hb2:c=b:=hb2
  subst hb2
  exact⟨hi,e2,fun _=>e1⟩
 have Ml:M.length=es.size:=by show (es.toList.map _).length=_;rw[Za,Zr]
 have szl:(16777216:Nat)=sizeLine:=by decide
 have C:=PyD.Zb8 (prog:=X.prog) (w:=X.w) (d:=a) (es:=es) (ep:=ep) lo
 have hok:PyD.VA s.heap a es ep:=⟨o,h1,h2,h3⟩
 have hi:∀P acc,(P=fun i v=>∃h:i<es.size,v=es[i].key)->ItemsOf P acc es.size->∃as:List Addr,acc.toList=as.map Value.ref/\List.Perm as M:=fun P acc hg hacc=>by
  subst hg
  refine⟨M,?_,.refl _⟩
  refine List.ext_getElem? fun i=>?_
  rw[Zc]
  by_cases hlt:i<es.size
  ·have hs:i<acc.size:=by rw[hacc.1];exact hlt
   obtain⟨_,e1⟩:=hacc.2 i _ (Array.getElem?_eq_getElem hs)
   rw[Array.getElem?_toList,Array.getElem?_eq_getElem hs,e1]
   have hmi:M[i]?=some (M[i]'(by omega)):=Zf (by omega)
   rw[hmi,(hM i _ hmi).2.2 hlt]
   rfl
  ·rw[List.getElem?_eq_none (by rw[Zr,hacc.1];omega),List.getElem?_eq_none (by omega)]
   rfl
 have rowM:M.map (Ju H)=yss:=by
  refine List.ext_getElem? fun i=>?_
  rw[Zc]
  by_cases hlt:i<es.size
  ·have hmi:M[i]?=some (M[i]'(by omega)):=Zf (by omega)
   rw[hmi,Zf (show i<yss.length by omega)]
   show some (Ju H _)=_
   rw[JU (hM i _ hmi).2.1,Zb,Zf (show i<yss.length by omega)]
   rfl
  ·rw[List.getElem?_eq_none (by omega),List.getElem?_eq_none (by omega)]
   rfl
 have tupM:∀b∈M,∃ys:List Int,ys≠[]/\H b=some (.tup (ys.map V.int)):=fun b hb=>by
  obtain⟨i,hbi⟩:=List.getElem?_of_mem hb
  obtain⟨h1,h2,_⟩:=hM i b hbi
  refine⟨_,hne _ ?_,h2⟩
  rw[Zb,Zf (by omega)]
  exact List.getElem_mem _
 have fin:∀l (as:List Addr),H l=none->List.Perm as M->(as.map (Ju H)).Pairwise (fun x y=>PyZ.Wh y x=false)->Q (.ref l) (upd H l (.lst (as.map V.ref))):=fun l as nl pas hso=>by
  refine q l as (as.map (Ju H)) nl (by rw[<-rowM];exact pas.map _) hso (by rw[Za]) fun i b hb=>?_
  obtain⟨ys,_,hy⟩:=tupM b (pas.mem_iff.mp (List.mem_of_getElem? hb))
  rw[Zb,Zc,hb]
  show H b=some (.tup ((Ju H b).map V.int))
  rw[JU hy]
  exact hy
 have neL:∀{a:Addr}{o:HO},H a=some o->a≠X.env.locals:=fun {a o} e z=>by rw[z,I.free] at e;cases e
 obtain⟨m,hm,hlk⟩:=id I.loc
 by_cases n2:es.size<2
 ·refine PyS.Xu C (I.ok.hd hc) n2 hok hi fun D c h' dr tk as hD kp pas hD'=>?_
  have hll:as.length<2:=by rw[pas.length_eq,Ml];exact n2
  refine⟨.ref D,_,(I.laid (a:=D) (o:=.lst (as.map V.ref)) (t':=tk) kp hD ⟨by rw[Za];omega,as.map Value.ref,c,YV as,hD'⟩).drawn dr,rfl,fin _ as (I.hok.fresh hD) pas ?_⟩
  match as,hll with
  | [],_=>exact List.Pairwise.nil
  | [_],_=>exact List.pairwise_singleton _ _
 ·refine PyS.VL (key:=Ju H) C (I.ok.hd hc) (by omega) (by omega) hok hm hi (fun b hb=>?_) fun D c h' dr tk as dn dL kept hn' pas hso hD=>?_
  ·obtain⟨ys,ne,hy⟩:=tupM b hb
   obtain⟨us,rv',pt,_⟩:=I.tuple (.of hy)
   rw[JU hy]
   exact⟨neL hy,ne,us,pt,Y3 rv'⟩
  ·have hll:as.length<64:=by rw[pas.length_eq,Ml];omega
   obtain⟨I',hH⟩:=I.newL (ys:=as.map V.ref) hm hlk dn dL kept hn' (by rw[Za];omega) (YV _) hD
   exact⟨.ref D,_,(I'.kept (t':=tk) fun b o e=>e).drawn dr,rfl,fin D as hH pas hso⟩
def ZeZ (tk tv:TE):TE:=fun σ H Q=>∀p,H p=none->tk σ (upd H p (.dT [])) fun x H1=>tv σ H1 fun y H2=>∃b k,x=.ref b/\H2 b=some (.tup (k.map kV))/\H2 p=some (.dT [])/\Q (.ref p) (upd H2 p (.dT [(k,y)]))
theorem ZcE {ke ve:Expr}{tk tv:TE}{pos:Pos}(hu:X.A.units+1<cLine)(hk:PE X ke tk)(hv:PE X ve tv):PE X (.Dict [some ke] [ve] pos) (ZeZ tk tv):=by
 intro pins s σ H Q I q
 have hn:=I.hok.fresh (Zq s.heap.objs.size)
 have I1:=I.laid (a:=s.heap.objs.size) (o:=.dT []) (h':=s.heap.push {cls:=.type "dict",data:=.dict #[]}) (t':=s.toks) (fun _ _ q=>Zn _ q) (Zq _) (Ue s.heap I.big)
 rw[arm_eval_Dict]
 rw[show (evalEachOpt [some ke] X.env).zip ((evalEach [ve] X.env).map fun v=>do let x <-v;standAt pos;pure x)=([(eval ke X.env,do let x <-eval ve X.env;standAt pos;pure x)]:List (Sem Value×Sem Value)).map fun p=>(some p.1,p.2) from rfl,dictDisplay_pairs _ (by simp) (by simp)]
 refine Zl (wpAny_standAt (Zl ?_))
 unfold subDict
 refine Zl (wpAny_alloc (Zl (wpAny_holding ?_)))
 rw[if_pos (by simp)]
 refine Zl (evalPairs_cons (ZT (hk pins _ σ _ _ I1 (q _ hn)) fun kv s1 ⟨x,H1,J1,rx,q1⟩=>Zl (ZT (hv pins s1 σ H1 _ J1 q1) fun vv s2 ⟨y,H2,J2,ry,b,k,ex,hb,hp,q2⟩=>Zl (wpAny_standAt (Zm (evalPairs_nil ?_))))))
 subst ex
 obtain rfl:kv=Value.ref b:=rx
 refine wpAny_holding ?_
 rw[List.forIn_cons]
 obtain⟨z,hd,xs,rel,dd⟩:=ZeO J2.hok hp
 cases rel
 refine Zl (Zl (Zl (wpAny_dictSet_heap (knd:=tupleKind (ZV X.prog X.w)) (show X.A.units<cLine by omega) (Xc J2.hok hb) dd fun h' dd' hs=>Zm ?_)))
 show wpAny _ _ (forIn ([]:List (Value×Value)) PUnit.unit _) _ _ _
 rw[List.forIn_nil]
 refine Zm (Zm (Zm (Zm ⟨.ref s.heap.objs.size,_,?_,rfl,q2⟩)))
 obtain⟨u,es,ep,hq,h2,h3,h4,_,h5⟩:=dd'
 have rel':KT H2 (Yw [] k y) _:=KT.put (xs:=[]) .nil k hb ry
 refine Vu J2 (by rw[hp];exact True.intro) hs ⟨u,hq⟩ ⟨(by show 1<=sizeLine;decide),hd,_,rel'.keeps fun c ys ec=>?_,u,es,ep,hq,h2,h3,h4,h5⟩
 rw[Zw (ZeG ec hp (fun z=>nomatch z))]
 exact ec
end
end L2
namespace Tb
section
variable {t:List (List Nat)}{a r:Nat}
end
section
variable {t:List (List Nat)}{o:List Nat}
end
end Tb
namespace L2
open PySem PySem.Spec PyProof.Rows
section
variable {X:Cx}
def Tz (H:Hp)(a:Addr)(ys:List V):Prop:=∃o:Obj,H a=some (.frz o (.tup ys))/\o.cls=.type "tuple"/\o.dict=none
variable {o e:Expr}{es:List Expr}{to:TE}{t:TA}{name:Str}{apos cpos:Pos}{id:String}{r:V->List V->Hp->VK->Prop}
end
end L2
namespace PyZ
open PySem PySem.Spec PyProof.Rows
section
variable {prog:Program}{w:World}{A:Around}{E:Value->Shared->Prop}{s:Shared}
theorem XA {R:List Value->Shared->Prop}{r:Addr}{a b c:Int}{t u v:Tok}{n:Nat}(hh:A.handled=none)(hr:IsRange s.heap r a b c t u v)(hsmall:Builtin.Range.small a b c=true)
  (hn:Builtin.Range.rangeSize a b c=n) (hlen:n<=2 ^ 24)
  (h:∀(h':Heap) (tk:Nat) (acc:Array Value),(∀b o,s.heap.get? b=some o->h'.get? b=some o)->ItemsOf (fun i v=>∃t,v=.int (a+i*c) t) acc n->R acc.toList {s with heap:=h',toks:=tk}) :
  wpAny (model prog w) A (collect (.ref r)) R E s:=by
 unfold collect
 refine Zl (wpAny_runValue (codeAny_builtin PySem.F.entry_proto_collect ?_))
 rw[Around.under_plainId PySem.F.plain_proto_collect _]
 show wpAny _ A.in1 (newList [] >>= fun l=>again (.builtin "list.__iadd__" ⟨[l,.ref r],[]⟩)) _ _ s
 refine Zl (wpAny_newObj_type ?_)
 refine Zm ⟨plainId_quiet PySem.F.plain_list_iadd _,codeAny_builtin PySem.F.entry_list_iadd ?_⟩
 rw[Around.under_plainId PySem.F.plain_list_iadd _]
 have hS₁:(s.heap.push {cls:=.type "list",data:=.seq ([]:List Value).toArray}).get? s.heap.objs.size=some {cls:=.type "list",data:=.seq #[]}:=Zo _ rfl
 show wpAny _ A.in1 (Builtin.List.listExtendWith (.ref s.heap.objs.size) (.ref r) (.ref s.heap.objs.size)) _ _ _
 have key:=wpAny_extend_range (prog:=prog) (w:=w) (A:=A) (s:={s with heap:=s.heap.push {cls:=.type "list",data:=.seq ([]:List Value).toArray}})
  (R:=fun (q:Result) (s':Shared)=>∃(h':Heap) (tk:Nat) (acc':Array Value) (c':Nat),q=.ok (.ret (.ref s.heap.objs.size))/\s'={s with heap:=h',toks:=tk}/\
   (∀b o,s.heap.get? b=some o->h'.get? b=some o)/\h'.get? s.heap.objs.size=some {cls:=.type "list",dict:=none,data:=.seq acc' c',slots:=#[]}/\ItemsOf (fun i v=>∃t,v=.int (a+i*c) t) acc' n)
  hh (Zn _ hr) hsmall hn hlen s.heap.objs.size (.ref s.heap.objs.size) 0 hS₁
  (fun h' tk acc' c' hk hS' hacc=>⟨h',tk,acc',c',rfl,rfl,fun b o e=>hk b o (Nat.ne_of_lt (Zp e)) (Zn _ e),hS',hacc⟩)
 refine wpAny_mono key (fun fin s' x=>?_) fun e s' x=>?_
 ·cases fin with
  |done f=>
   obtain⟨h',tk,acc',c',e,rfl,hk,hS',hacc⟩:=x
   cases e
   show wpAny _ A (load s.heap.objs.size >>= _) _ _ _
   refine Zl (wpAny_load hS' ?_)
   exact Zm (h h' tk acc' hk hacc)
  |again c₁=>
   refine⟨x.1,codeAny_mono x.2 fun q s₂ y=>?_⟩
   obtain⟨h',tk,acc',c',rfl,rfl,hk,hS',hacc⟩:=y
   show wpAny _ A (load s.heap.objs.size >>= _) _ _ _
   refine Zl (wpAny_load hS' ?_)
   exact Zm (h h' tk acc' hk hacc)
 ·obtain⟨_,_,_,_,e',_⟩:=x
  cases e'
theorem Wm {Q₁:Value->Shared->Prop}{r:Addr}{a b c:Int}{t u v:Tok}{n:Nat}(hh:A.handled=none)(hr:IsRange s.heap r a b c t u v)(hsmall:Builtin.Range.small a b c=true)
  (hn:Builtin.Range.rangeSize a b c=n) (hlen:n<=2 ^ 24)
  (h:∀(h':Heap) (tk:Nat) (acc:Array Value),(∀b o,s.heap.get? b=some o->h'.get? b=some o)->ItemsOf (fun i v=>∃t,v=.int (a+i*c) t) acc n->
   Q₁ (.ref h'.objs.size) {s with heap:=h'.push {cls:=.type "tuple",data:=.seq acc},toks:=tk}) :
  codeAny (model prog w) A (.call (.builtin "tuple.__new__") ⟨[.type "tuple",.ref r],[]⟩) (wants Q₁ E) s:=by
 refine codeAny_of_tree ?_
 show wpAny _ A.in1 (do checkBuiltinCall "tuple.__new__" ⟨[.type "tuple",.ref r],[]⟩;again (.builtin "tuple.__new__" ⟨[.type "tuple",.ref r],[]⟩)) _ _ s
 refine Zl (wpAny_of_eq (PySem.F.newCall_tuple_1 _) (Zm ⟨plainId_quiet (show plainId "tuple.__new__"=true by decide +kernel) _,codeAny_builtin PySem.F.entry_tuple_new ?_⟩))
 rw[Around.under_plainId (show plainId "tuple.__new__"=true by decide +kernel) _]
 have hsub:=sub_tuple_self
 have hinit:=init_tuple_lookup
 have hmh:=madeHere_tuple
 have hTI:s.TypeIs (.ref r) "range":=⟨_,hr,rfl⟩
 have hsz:n<=sizeLine:=by
  have:(16777216:Nat)=sizeLine:=by decide
  omega
 wp_walk using wpAny_typeOf hTI,XA (A:=A.in1) hh hr hsmall hn hlen
 intro h' tk acc hm hacc
 show wpAny _ _ (Builtin.Tuple.tupleExact acc.toList.toArray >>= fun v=>ret v) _ _ _
 unfold Builtin.Tuple.tupleExact
 refine Zl (wpAny_newObj_type ?_ (by show acc.toList.toArray.size<=sizeLine;simp only[Array.toArray_toList];rw[hacc.1];exact hsz))
 refine Zm ?_
 have e:acc.toList.toArray=acc:=by simp
 rw[e]
 exact h h' tk acc hm hacc
theorem Jj {Q:Value->Shared->Prop}{r:Addr}{a b c:Int}{t u v:Tok}{n:Nat}(hh:A.handled=none)(hr:IsRange s.heap r a b c t u v)(hsmall:Builtin.Range.small a b c=true)
  (hn:Builtin.Range.rangeSize a b c=n) (hlen:n<=2 ^ 24)
  (h:∀(h':Heap) (tk:Nat) (acc:Array Value),(∀b o,s.heap.get? b=some o->h'.get? b=some o)->ItemsOf (fun i v=>∃t,v=.int (a+i*c) t) acc n->
   Q (.ref h'.objs.size) {s with heap:=h'.push {cls:=.type "tuple",data:=.seq acc},toks:=tk}) :
  wpAny (model prog w) A (call (.type "tuple") [.ref r]) Q E s:=by
 refine callType_codes (Q₁:=fun obj s₁=>s₁.TypeIs obj "tuple"/\Q obj s₁) PySem.F.called_tuple (PySem.F.typeCall_tuple_1 _) PySem.F.entry_object_init
  (Wm (A:=A.in1) hh hr hsmall hn hlen fun h' tk acc hk hacc=>⟨⟨_,Zo _ rfl,rfl⟩,h h' tk acc hk hacc⟩) fun obj s₁ h₁=>?_
 exact⟨h₁.1,PySem.F.args_object_init_2 obj _,object_init_meets PySem.F.called_tuple.init.lookup PySem.F.called_tuple.made (by decide) prog w A.in1 _ s₁ ⟨h₁.1,rfl,h₁.2⟩⟩
end
end PyZ
namespace L2
open PySem PySem.Spec PyProof.Rows
section
variable {X:Cx}
theorem Wr (hc:X.calm=true):ZR X (.type "tuple") (fun xs H Q=>∃(a:Addr) (lo hi:Int),xs=[.ref a]/\H a=some (.rng lo hi)/\(-(2 ^ 62)<=lo/\lo<2 ^ 62/\-(2 ^ 62)<=hi/\hi<2 ^ 62)/\(hi-lo).toNat<=sizeLine/\
  ∀l,H l=none->Q (.ref l) (upd H l (.tup ((Yg lo (hi-lo).toNat).map V.int)))):=by
 intro pins s σ H xs us Q I r h
 obtain⟨a,lo,hi,rfl,ha,⟨b1,b2,b3,b4⟩,hz,q⟩:=h
 obtain⟨u,rfl,ru⟩:=vals1 r
 cases ru
 obtain⟨t,u,v,e⟩:=(show ∃t u v,s.heap.get? a=some {cls:=.type "range",data:=.fields #[.int lo t,.int hi u,.int 1 v]} from I.hok a _ ha)
 refine PyZ.Jj (n:=(hi-lo).toNat) (I.ok.hd hc) e (small_one b1 b2 b3 b4) (by rw[rangeSize_one];split <;> omega) hz fun h' tk acc hk hit=>?_
 have I1:Inv X pins σ H {s with heap:=h',toks:=tk}:=I.kept (t':=tk) hk
 have I2:Inv X pins σ (upd H h'.objs.size (.tup ((Yg lo (hi-lo).toNat).map V.int))) {s with heap:=h'.push {cls:=.type "tuple",data:=.seq acc},toks:=tk}:=
  I1.laid (t':=tk) (fun b o e=>Zn _ e) (Zq _) (show ZG X.prog X.w _ _ _ (.tup ((Yg lo (hi-lo).toNat).map V.int)) from ⟨by rw[Za,YU];exact hz,acc.toList,XF hit,by simpa using IsTup.new _ _⟩)
 exact⟨.ref h'.objs.size,_,I2,rfl,q _ (I1.hok.fresh (Zq _))⟩
end
end L2
namespace PyY
open PySem
open AutoSeq1 (wpAny_loadPart')
section
variable {prog:Program}{w:World}{A:Around}{E:Value->Shared->Prop}{s:Shared}
theorem UZ {j a:Addr}{k:Nat}{us:Array Value}{y:Value}{Q:Value->Shared->Prop}(c:s.heap.IsTupleIter j a k)(d:s.heap.IsTuple a us)(e:us[k]?=some y)
  (q:∀g,g.IsTupleIter j a (k+1)->Heap.SameBut j s.heap g->Q y {s with heap:=g}):wpAny (model prog w) A (Builtin.SmallTypes.nextOf (.ref j)) Q E s:=by
 obtain⟨oj,hj,cj,dj⟩:=id c
 obtain⟨oa,ha,_,na,da⟩:=d
 unfold Builtin.SmallTypes.nextOf
 refine Zl (wpAny_callSpecial?_slot (name:=Str.ofString "__next__") c.typeIs F.slot_tuple_iterator_next (wpAny_call_entry F.slot_tuple_iterator_next c.typeIs F.entry_tuple_iterator_next ?_ (F.args_tuple_iterator_next_1 _)))
 show wpAny _ _ (field (.ref j) 0 >>= _) _ _ s
 refine Zl (wpAny_field hj dj (x:=.ref a) rfl ?_)
 show wpAny _ _ (if (Value.ref a == Value.none)=true then _ else _) _ _ s
 rw[if_neg (show ¬((Value.ref a == Value.none)=true) from Bool.false_ne_true)]
 show wpAny _ _ (field (.ref j) 1 >>= _) _ _ s
 refine Zl (wpAny_field hj dj (x:=.int k 0) rfl ?_)
 show wpAny _ _ (seqItems? (.ref a) >>= _) _ _ s
 refine Zl (wpAny_seqItems ha da ?_)
 simp only[Zj,e]
 refine Zl (wpAny_setField hj dj (by simp) (Zm ⟨y,rfl,Zm (q _ ?_ (Heap.SameBut.update ..))⟩))
 refine⟨_,Heap.get?_update_self _ hj (Obj.isFreed_of_fields (Obj.data_mapFields dj _)),(Obj.cls_mapFields ..).trans cj,?_⟩
 rw[Obj.data_mapFields dj]
 simp[rawInt]
theorem Zbo {j a:Addr}{k:Nat}{us:Array Value}{Q:Value->Shared->Prop}(hn:A.handled=none)(c:s.heap.IsTupleIter j a k)(d:s.heap.IsTuple a us)(e:us[k]?=none)
  (q:∀g x,Heap.ExtBut j s.heap g->(∃o,g.get? x=some o/\o.cls=.type "StopIteration")->E (.ref x) {s with heap:=g}):wpAny (model prog w) A (Builtin.SmallTypes.nextOf (.ref j)) Q E s:=by
 obtain⟨oj,hj,cj,dj⟩:=id c
 obtain⟨oa,ha,_,na,da⟩:=d
 unfold Builtin.SmallTypes.nextOf
 refine Zl (wpAny_callSpecial?_slot (name:=Str.ofString "__next__") c.typeIs F.slot_tuple_iterator_next (wpAny_call_entry F.slot_tuple_iterator_next c.typeIs F.entry_tuple_iterator_next ?_ (F.args_tuple_iterator_next_1 _)))
 show wpAny _ _ (field (.ref j) 0 >>= _) _ _ s
 refine Zl (wpAny_field hj dj (x:=.ref a) rfl ?_)
 show wpAny _ _ (if (Value.ref a == Value.none)=true then _ else _) _ _ s
 rw[if_neg (show ¬((Value.ref a == Value.none)=true) from Bool.false_ne_true)]
 show wpAny _ _ (field (.ref j) 1 >>= _) _ _ s
 refine Zl (wpAny_field hj dj (x:=.int k 0) rfl ?_)
 show wpAny _ _ (seqItems? (.ref a) >>= _) _ _ s
 refine Zl (wpAny_seqItems ha da ?_)
 simp only[Zj,e]
 refine Zl (wpAny_rule (Zl (wpAny_setField hj dj (by simp) ?_)))
 show wpAny _ _ (newExc (.type "StopIteration") [] >>= _) _ _ {s with heap:=_}
 refine Zl ?_
 unfold newExc newTuple
 refine Zl (wpAny_newObj_type (Q:=_) ?_ (by size_fits))
 refine Zl (m:=firstArgMember _ _) (wpAny_of_eq (a:=Value.none) (by first|rfl|(unfold firstArgMember;rfl)) ?_)
 refine wpAny_newObj_type (Q:=_) ?_ (by size_fits)
 unfold raiseNew
 refine Zl (wpAny_handled ?_)
 have hn':A.in1.handled=none:=hn
 rw[hn']
 refine Zl (Zm (wpAny_throw (E:=E) ?_))
 exact q _ _ (((Heap.SameBut.update ..).extBut.push _).push _) ⟨_,Zo _ rfl,rfl⟩
theorem Zac {n j a:Addr}{k:Nat}{us:Array Value}{y old:Value}{Q:Option Value->Shared->Prop}(b:IsEnum s.heap n j k old)(c:s.heap.IsTupleIter j a k)(d:s.heap.IsTuple a us)(e:us[k]?=some y)(nj:n≠j)
  (q:∀g,IsEnumOut g n j ((k:Int)+1) y s.heap.objs.size->g.IsTupleIter j a (k+1)->g.get? s.heap.objs.size=some {cls:=.type "tuple",data:=.seq #[.int k s.toks,y]}->g.objs.size=s.heap.objs.size+1->
   (∀x o,x≠n->x≠j->s.heap.get? x=some o->g.get? x=some o)->Q (some (.ref s.heap.objs.size)) {s with heap:=g,toks:=s.toks+1}):wpAny (model prog w) A (pyNext (.ref n)) Q E s:=by
 have tn:s.TypeIs (.ref n) "enumerate":=⟨_,b,rfl⟩
 unfold pyNext
 refine Zl (wpAny_attempt (wpAny_callSpecial?_slot (name:=Str.ofString "__next__") tn F.slot_enumerate_next (wpAny_call_entry F.slot_enumerate_next tn F.entry_enumerate_next ?_ (F.args_enumerate_next_1 _))))
 obtain⟨g0,gs,dr,tk,os⟩:=s
 show wpAny _ _ (field (.ref n) 2 >>= _) _ _ _
 refine Zl (wpAny_field b rfl (x:=.ref j) rfl ?_)
 refine Zl (UZ c d e fun g1 c1 s1=>?_)
 replace s1:Heap.SameBut j g0 g1:=s1
 have b1:IsEnum g1 n j k old:=(s1.2 n nj).trans b
 show wpAny _ _ (field (.ref n) 3 >>= _) _ _ ⟨g1,gs,dr,tk,os⟩
 refine Zl (wpAny_field b1 rfl (x:=rawInt k) rfl ?_)
 show wpAny _ _ (field (.ref n) 4 >>= _) _ _ ⟨g1,gs,dr,tk,os⟩
 refine Zl (wpAny_field b1 rfl (x:=.none) rfl ?_)
 show wpAny _ _ (mkInt k >>= _) _ _ ⟨g1,gs,dr,tk,os⟩
 refine Zl (wpAny_mkInt ?_)
 show wpAny _ _ (setField (.ref n) 3 (rawInt ((k:Int)+1)) >>= _) _ _ ⟨g1,gs,dr,tk+1,os⟩
 refine Zl (wpAny_setField_rec b1 (by simp) fun g2 b2 s2=>?_)
 replace s2:Heap.SameBut n g1 g2:=s2
 replace b2:IsEnum g2 n j ((k:Int)+1) old:=b2
 show wpAny _ _ (setField (.ref n) 4 .none >>= _) _ _ ⟨g2,gs,dr,tk+1,os⟩
 refine Zl (wpAny_setField_rec b2 (by simp) fun g3 b3 s3=>?_)
 replace s3:Heap.SameBut n g2 g3:=s3
 replace b3:IsEnum g3 n j ((k:Int)+1) old:=b3
 show wpAny _ _ (newTuple [.int k tk,y] >>= _) _ _ ⟨g3,gs,dr,tk+1,os⟩
 refine Zl (wpAny_newTuple ?_)
 have b4:IsEnum (g3.push {cls:=.type "tuple",data:=.seq #[.int k tk,y]}) n j ((k:Int)+1) old:=Zn _ b3
 generalize z4:g3.push {cls:=.type "tuple",data:=.seq #[.int k tk,y]}=g4 at b4
 have sz:g3.objs.size=g0.objs.size:=by rw[s3.1,s2.1,s1.1]
 have nl:n<g0.objs.size:=Zp b
 have t4:g4.get? g0.objs.size=some {cls:=.type "tuple",data:=.seq #[.int k tk,y]}:=by
  rw[<-z4,<-sz]
  exact Zo _ rfl
 have w4:g4.objs.size=g0.objs.size+1:=by
  rw[<-z4,Heap.size_push,sz]
 have k4:∀x o,x≠n->x≠j->g0.get? x=some o->g4.get? x=some o:=fun x o xn xj hx=>by
  rw[<-z4]
  exact Zn _ (s3.extBut x o xn (s2.extBut x o xn (s1.extBut x o xj hx)))
 have c4:g4.IsTupleIter j a (k+1):=by
  obtain⟨o,ho,r⟩:=(c1.extBut s2.extBut (Ne.symm nj)).extBut s3.extBut (Ne.symm nj)
  rw[<-z4]
  exact⟨o,Zn _ ho,r⟩
 show wpAny _ _ (Builtin.SmallTypes.ownedTupleIsFree (.ref n) >>= _) _ _ ⟨g4,gs,dr,tk+1,os⟩
 rw[sz]
 clear z4 b3 s3 b2 s2 b1 s1 c1 sz g3 g2 g1
 refine Zl ?_
 unfold Builtin.SmallTypes.ownedTupleIsFree
 refine Zl (wpAny_field b4 rfl (x:=.none) rfl (Zm ?_))
 rw[if_pos rfl]
 refine Zl (wpAny_rule (Zl (wpAny_field b4 rfl (x:=old) rfl ?_)))
 refine Zl (wpAny_setField_rec b4 (by simp) fun g5 b5 s5=>?_)
 replace s5:Heap.SameBut n g4 g5:=s5
 replace b5:IsEnum g5 n j ((k:Int)+1) y:=b5
 show wpAny _ _ (Builtin.SmallTypes.ownedTupleHandOut (.ref n) (.ref g0.objs.size) >>= _) _ _ ⟨g5,gs,dr,tk+1,os⟩
 refine Zl ?_
 unfold Builtin.SmallTypes.ownedTupleHandOut
 refine Zl (wpAny_setField_rec b5 (by simp) fun g6 b6 s6=>?_)
 replace s6:Heap.SameBut n g5 g6:=s6
 replace b6:IsEnumOut g6 n j ((k:Int)+1) y g0.objs.size:=b6
 refine wpAny_setField_rec b6 (by simp) fun g7 b7 s7=>?_
 replace s7:Heap.SameBut n g6 g7:=s7
 replace b7:IsEnumOut g7 n j ((k:Int)+1) y g0.objs.size:=b7
 refine Zl (wpAny_letGo (Zm ⟨_,rfl,Zm (q g7 b7 ?_ ?_ ?_ ?_)⟩))
 ·exact ((c4.extBut s5.extBut (Ne.symm nj)).extBut s6.extBut (Ne.symm nj)).extBut s7.extBut (Ne.symm nj)
 ·exact s7.extBut _ _ (Nat.ne_of_gt nl) (s6.extBut _ _ (Nat.ne_of_gt nl) (s5.extBut _ _ (Nat.ne_of_gt nl) t4))
 ·rw[s7.1,s6.1,s5.1,w4]
 ·exact fun x o xn xj hx=>s7.extBut x o xn (s6.extBut x o xn (s5.extBut x o xn (k4 x o xn xj hx)))
theorem ZbG {n j a:Addr}{k:Nat}{us:Array Value}{old:Value}{Q:Option Value->Shared->Prop}(hn:A.handled=none)(b:IsEnum s.heap n j k old)(c:s.heap.IsTupleIter j a k)(d:s.heap.IsTuple a us)(e:us[k]?=none)
  (q:∀g,Heap.ExtBut j s.heap g->Q none {s with heap:=g}):wpAny (model prog w) A (pyNext (.ref n)) Q E s:=by
 have tn:s.TypeIs (.ref n) "enumerate":=⟨_,b,rfl⟩
 unfold pyNext
 refine Zl (wpAny_attempt (wpAny_callSpecial?_slot (name:=Str.ofString "__next__") tn F.slot_enumerate_next (wpAny_call_entry F.slot_enumerate_next tn F.entry_enumerate_next ?_ (F.args_enumerate_next_1 _))))
 show wpAny _ _ (field (.ref n) 2 >>= _) _ _ _
 refine Zl (wpAny_field b rfl (x:=.ref j) rfl ?_)
 refine Zl (Zbo hn c d e fun g x xe xs=>?_)
 obtain⟨o,ho,hc⟩:=xs
 refine Zl (wpAny_isInstance (T:="StopIteration") (b:=true) ⟨o,ho,hc⟩ isSubtype_stop ?_)
 exact Zm (q _ xe)
theorem ZbF (a:Addr)(us:Array Value)(n:Nat)(dd:Option Addr)(sl:Array (Option Value)) :
  Meets (Builtin.«enumerate.__new__» ⟨[.type "enumerate",.ref a],[]⟩) (fun _ R s=>s.heap.get? a=some {cls:=.type "tuple",dict:=dd,data:=.seq us n,slots:=sl}/\
   R (.ok (.ret (.ref (s.heap.push {cls:=.type "tuple_iterator",data:=.fields #[.ref a,.int 0 0]}).objs.size)))
    {s with heap:=(s.heap.push {cls:=.type "tuple_iterator",data:=.fields #[.ref a,.int 0 0]}).push {cls:=.type "enumerate",data:=.fields #[.none,.bool false,.ref s.heap.objs.size,rawInt 0,.none,.none]}}):=
 .of_wp fun prog w A R s h=>by
  obtain⟨hh,gg,dr,tk,os⟩:=s
  obtain⟨ha,h⟩:=h
  have sub:=sub_enumerate
  have hT:Heap.IsTuple (Shared.heap ⟨hh,gg,dr,tk,os⟩) a us:=⟨_,ha,rfl,n,rfl⟩
  wp_walk using wpAny_loadPart' ha
  refine wpAny_stack_any fun st=>Zm ?_
  split
  ·rename_i c1 _ _ _ _ _
   cases (c1 == Value.type "enumerate") <;> (wp_walk using wpAny_loadPart' ha,wpAny_pyIter_tuple hT) <;> exact⟨_,rfl,h⟩
  ·wp_walk using wpAny_loadPart' ha,wpAny_pyIter_tuple hT
   exact⟨_,rfl,h⟩
theorem Zak {a:Addr}{us:Array Value}{Q:Value->Shared->Prop}(hT:s.heap.IsTuple a us)
  (h:∀g,IsEnum g (s.heap.objs.size+1) s.heap.objs.size 0 .none->g.IsTupleIter s.heap.objs.size a 0->g.objs.size=s.heap.objs.size+2->(∀b o,s.heap.get? b=some o->g.get? b=some o)->Q (.ref (s.heap.objs.size+1)) {s with heap:=g}) :
  wpAny (model prog w) A (call (.type "enumerate") [.ref a]) Q E s:=by
 obtain⟨⟨cc,dd,dt,sl⟩,ha,hc,n,hd⟩:=hT
 have hc':cc=.type "tuple":=hc
 have hd':dt=.seq us n:=hd
 subst hc' hd'
 refine callType_new F.called_enumerate (by decide) (F.typeCall_enumerate_1 _) (F.newCall_enumerate_1 _) (fun obj=>F.args_object_init_2 obj _) F.entry_enumerate_new (ZbF a us n dd sl) ⟨ha,?_⟩
 have hz:(s.heap.push {cls:=.type "tuple_iterator",data:=.fields #[.ref a,.int 0 0]}).objs.size=s.heap.objs.size+1:=Heap.size_push ..
 show _/\_
 rw[hz]
 have he:IsEnum ((s.heap.push {cls:=.type "tuple_iterator",data:=.fields #[.ref a,.int 0 0]}).push {cls:=.type "enumerate",data:=.fields #[.none,.bool false,.ref s.heap.objs.size,rawInt 0,.none,.none]}) (s.heap.objs.size+1) s.heap.objs.size 0 .none:=by
  have z:=Zo (s.heap.push {cls:=.type "tuple_iterator",data:=.fields #[.ref a,.int 0 0]}) (o:={cls:=.type "enumerate",data:=.fields #[.none,.bool false,.ref s.heap.objs.size,rawInt 0,.none,.none]}) rfl
  rw[hz] at z
  exact z
 exact⟨⟨_,he,rfl⟩,h _ he ⟨_,Zn _ (Zo _ rfl),rfl,rfl⟩ (by rw[Heap.size_push,hz]) fun b o y=>Zn _ (Zn _ y)⟩
end
end PyY
namespace L2
open PySem PySem.Spec PyProof.Rows
section
variable {X:Cx}{pins:List (Addr×Obj)}{σ:St}{H:Hp}{s:Shared}{h':Heap}
theorem Inv.turnLay {t':Nat}{ts:List Addr}{T:Addr}{o:HO}(I:Inv X pins σ H s)(k:∀b u,b∉ts->s.heap.get? b=some u->h'.get? b=some u)(ht:∀b∈ts,∃u,h'.get? b=some u)(hf:∀b∈ts,XD X pins H b)(hT:s.heap.objs.size<=T)
  (new:ZG X.prog X.w (upd H T o) h' T o):Inv X pins σ (upd H T o) {s with heap:=h',toks:=t'}:=by
 have fT:H T=none:=I.hok.fresh hT
 have nts:∀b u,H b=some u->b∉ts:=fun b u e z=>by
  have:=(hf b z).1
  rw[e] at this
  cases this
 refine I.call (ch:=ts) (g':=s.gens) (d':=s.drawn) ⟨fun b u e _ _ nx=>k b u nx e,fun b u e _ _ nx=>⟨u.slots,k b u nx e⟩,fun b u e n _=>?_,fun b u e nx=>⟨u,k b u nx e⟩,fun b ys q=>?_,fun b u v q=>?_,fun b ps q=>⟨#[],?_⟩⟩
  (fun b u e=>?_) I.bare fun b hb=>?_
 ·rw[Zw (Nat.ne_of_lt (Nat.lt_of_lt_of_le (Zp e) hT))]
  exact n
 ·rw[Zw (Zz q fT)]
  exact q
 ·rw[Zw (Zz q fT)]
  exact q
 ·rw[Zw (Zz q fT),q]
  simp
 ·by_cases hb:b=T
  ·subst hb
   rw[Zs] at e
   cases e
   exact new
  ·rw[Zw hb] at e
   refine (I.hok b u e).stay (fun c v hc q=>k c v ?_ q) (fun c r=>by rw[Zw (Zz r fT)];exact r) fun c ys r=>by rw[Zw (Zz r fT)];exact r
   rcases hc with z|z
   ·rw[z]
    exact nts b u e
   ·exact nts c _ z
 ·obtain⟨f0,f1,f2,f3,f4,f5⟩:=hf b hb
  exact⟨f3,f1,f4,f5⟩
theorem Inv.turnedL {t':Nat}{ts:List Addr}(I:Inv X pins σ H s)(k:∀b u,b∉ts->s.heap.get? b=some u->h'.get? b=some u)(hf:∀b∈ts,XD X pins H b):Inv X pins σ H {s with heap:=h',toks:=t'}:=by
 have nts:∀b u,H b=some u->b∉ts:=fun b u e z=>by
  have:=(hf b z).1
  rw[e] at this
  cases this
 refine I.call (ch:=ts) (g':=s.gens) (d':=s.drawn) ⟨fun b u e _ _ nx=>k b u nx e,fun b u e _ _ nx=>⟨u.slots,k b u nx e⟩,fun b u e n _=>n,fun b u e nx=>⟨u,k b u nx e⟩,fun b ys q=>q,fun b u v q=>q,fun b ps q=>⟨#[],by rw[q];simp⟩⟩
  (fun b u e=>?_) I.bare fun b hb=>?_
 ·refine (I.hok b u e).stay (fun c v hc q=>k c v ?_ q) (fun c r=>r) fun c ys r=>r
  rcases hc with z|z
  ·rw[z]
   exact nts b u e
  ·exact nts c _ z
 ·obtain⟨f0,f1,f2,f3,f4,f5⟩:=hf b hb
  exact⟨f3,f1,f4,f5⟩
end
def ZfN (K:PySem.W.Frag)(a:Addr):It:=
 ⟨fun i H=>∃xs x,Wa K H a xs/\xs[i]?=some x,fun i H x H'=>∃T y,x=.ref T/\H T=none/\H'=upd H T (.tup [.int i,y])/\∀xs,Wa K H a xs->xs[i]?=some y,fun i H=>∃xs,Wa K H a xs/\xs.length<=i⟩
def ZgO (K:PySem.W.Frag)(a:Addr):It:=
 ⟨fun i H=>∃xs x,WG K H a xs/\xs[i]?=some x,fun i H x H'=>∃T y,x=.ref T/\H T=none/\H'=upd H T (.tup [.int i,y])/\∀xs,WG K H a xs->xs[i]?=some y,fun i H=>∃xs,WG K H a xs/\xs.length<=i⟩
theorem UE {P:Program}{w:World}{K:PySem.W.Frag}{elts:List Expr}{x1}{pos:Pos}(a e it:Addr)(ne:e≠it) :
  Zam P w K (.Tuple elts x1 pos) (ZfN K a) [e,it] e (fun i h=>(∃old,IsEnum h e it i old)/\h.IsListIter it a i) where
 mem:=by simp
 obj:=fun i h st b hb=>by
  obtain⟨⟨old,se⟩,⟨o,e1,c,d⟩⟩:=st
  rcases List.mem_cons.mp hb with rfl|hb
  ·exact⟨_,se,fun v z=>by
    have z':Data.fields _=Data.cell v:=z
    cases z'⟩
  ·have q:b=it:=by simpa using hb
   subst q
   exact⟨o,e1,fun v z=>by rw[d] at z;cases z⟩
 keep:=fun i h h' st k=>by
  obtain⟨⟨old,se⟩,si⟩:=st
  exact⟨⟨old,k e (by simp) _ se⟩,si.at fun o q=>k it (by simp) o q⟩
 item:=by
  intro X hP hw hK hc i pins s σ H E I hf st hg
  subst hP hw hK
  obtain⟨⟨old,se⟩,si⟩:=st
  obtain⟨xs,x,hq,hx⟩:=hg
  obtain⟨its,rv,p,hz⟩:=I.list hq
  obtain⟨u,hu,ru⟩:=rv.get hx
  refine wpAny_pyNext_enum_item se si p.isList (x:=u) (by simpa using hu) ne fun h1 ho hi1 hT hsz hk=>?_
  refine⟨_,rfl,wpAny_letOwnedTupleGo_enum ho fun h2 he2 hs2=>?_⟩
  have le:e<s.heap.objs.size:=Zp se
  have hs3:Heap.SameBut e h1 h2:=hs2
  have hT2:h2.get? s.heap.objs.size=some {cls:=.type "tuple",data:=.seq #[.int i s.toks,u]}:=(hs3.2 _ (Nat.ne_of_gt le)).trans hT
  have hi2:h2.IsListIter it a (i+1):=hi1.at fun o q=>(hs3.2 it (Ne.symm ne)).trans q
  have he3:IsEnum h2 e it ((i+1:Nat):Int) u:=by
   have:=he2
   simpa using this
  have nT:H s.heap.objs.size=none:=I.hok.fresh (Zq _)
  have I2:=I.turnLay (t':=s.toks+1) (h':=h2) (ts:=[e,it]) (T:=s.heap.objs.size) (o:=.tup [.int i,x]) (fun b v hb q=>?_) (fun b hb=>?_) hf (Zq _) ⟨by show 2<=sizeLine;decide,[.int i s.toks,u],.cons ⟨_,rfl⟩ (.cons ru .nil),_,hT2,rfl,0,rfl⟩
  ·refine⟨.ref s.heap.objs.size,_,I2,rfl,⟨_,x,rfl,nT,rfl,fun ys hy=>by rw[I.list_inj hy hq];exact hx⟩,⟨⟨u,he3⟩,hi2⟩,fun b hb=>?_⟩
   have fb:=(hf b hb).1
   have lb:b<s.heap.objs.size:=by
    rcases List.mem_cons.mp hb with rfl|hb
    ·exact le
    ·have q:b=it:=by simpa using hb
     subst q
     obtain⟨o,e1,_⟩:=si
     exact Zp e1
   rw[Zw (Nat.ne_of_lt lb)]
   exact fb
  ·have q1:b≠e:=fun z=>hb (by simp[z])
   have q2:b≠it:=fun z=>hb (by simp[z])
   exact (hs3.2 b q1).trans (hk b v q1 q2 q)
  ·rcases List.mem_cons.mp hb with rfl|hb
   ·exact⟨_,he3⟩
   ·have q:b=it:=by simpa using hb
    subst q
    obtain⟨o,e1,_⟩:=hi2
    exact⟨o,e1⟩
 done:=by
  intro X hP hw hK hc i pins s σ H E I hf st hg
  subst hP hw hK
  obtain⟨⟨old,se⟩,si⟩:=st
  obtain⟨xs,hq,hx⟩:=hg
  obtain⟨its,rv,p,hz⟩:=I.list hq
  have hl:=rv.length
  exact wpAny_pyNext_enum_end (I.ok.hd hc) se si p.isList (by simp;omega) fun h1 eb=>⟨rfl,I.turnedL (t':=s.toks) (ts:=[e,it]) (fun b o hb q=>eb b o (fun z=>hb (by simp[z])) q) hf⟩
 self:=fun _ _ _ _ _ st h=>by
  obtain⟨⟨old,se⟩,si⟩:=st
  exact wpAny_pyIter_enum se h
theorem UD {P:Program}{w:World}{K:PySem.W.Frag}{elts:List Expr}{x1}{pos:Pos}(a e it:Addr)(ne:e≠it) :
  Zam P w K (.Tuple elts x1 pos) (ZgO K a) [e,it] e (fun i h=>(∃old,IsEnum h e it i old)/\h.IsTupleIter it a i) where
 mem:=by simp
 obj:=fun i h st b hb=>by
  obtain⟨⟨old,se⟩,⟨o,e1,c,d⟩⟩:=st
  rcases List.mem_cons.mp hb with rfl|hb
  ·exact⟨_,se,fun v z=>by
    have z':Data.fields _=Data.cell v:=z
    cases z'⟩
  ·have q:b=it:=by simpa using hb
   subst q
   exact⟨o,e1,fun v z=>by rw[d] at z;cases z⟩
 keep:=fun i h h' st k=>by
  obtain⟨⟨old,se⟩,si⟩:=st
  exact⟨⟨old,k e (by simp) _ se⟩,si.at fun o q=>k it (by simp) o q⟩
 item:=by
  intro X hP hw hK hc i pins s σ H E I hf st hg
  subst hP hw hK
  obtain⟨⟨old,se⟩,si⟩:=st
  obtain⟨xs,x,hq,hx⟩:=hg
  obtain⟨its,rv,p,hz⟩:=I.tuple hq
  obtain⟨u,hu,ru⟩:=rv.get hx
  refine PyY.Zac se si (show s.heap.IsTuple a its.toArray from p) (y:=u) (by simpa using hu) ne fun h1 ho hi1 hT hsz hk=>?_
  refine⟨_,rfl,wpAny_letOwnedTupleGo_enum ho fun h2 he2 hs2=>?_⟩
  have le:e<s.heap.objs.size:=Zp se
  have hs3:Heap.SameBut e h1 h2:=hs2
  have hT2:h2.get? s.heap.objs.size=some {cls:=.type "tuple",data:=.seq #[.int i s.toks,u]}:=(hs3.2 _ (Nat.ne_of_gt le)).trans hT
  have hi2:h2.IsTupleIter it a (i+1):=hi1.at fun o q=>(hs3.2 it (Ne.symm ne)).trans q
  have he3:IsEnum h2 e it ((i+1:Nat):Int) u:=by
   have:=he2
   simpa using this
  have nT:H s.heap.objs.size=none:=I.hok.fresh (Zq _)
  have I2:=I.turnLay (t':=s.toks+1) (h':=h2) (ts:=[e,it]) (T:=s.heap.objs.size) (o:=.tup [.int i,x]) (fun b v hb q=>?_) (fun b hb=>?_) hf (Zq _) ⟨by show 2<=sizeLine;decide,[.int i s.toks,u],.cons ⟨_,rfl⟩ (.cons ru .nil),_,hT2,rfl,0,rfl⟩
  ·refine⟨.ref s.heap.objs.size,_,I2,rfl,⟨_,x,rfl,nT,rfl,fun ys hy=>by rw[I.tuple_inj hy hq];exact hx⟩,⟨⟨u,he3⟩,hi2⟩,fun b hb=>?_⟩
   have fb:=(hf b hb).1
   have lb:b<s.heap.objs.size:=by
    rcases List.mem_cons.mp hb with rfl|hb
    ·exact le
    ·have q:b=it:=by simpa using hb
     subst q
     obtain⟨o,e1,_⟩:=si
     exact Zp e1
   rw[Zw (Nat.ne_of_lt lb)]
   exact fb
  ·have q1:b≠e:=fun z=>hb (by simp[z])
   have q2:b≠it:=fun z=>hb (by simp[z])
   exact (hs3.2 b q1).trans (hk b v q1 q2 q)
  ·rcases List.mem_cons.mp hb with rfl|hb
   ·exact⟨_,he3⟩
   ·have q:b=it:=by simpa using hb
    subst q
    obtain⟨o,e1,_⟩:=hi2
    exact⟨o,e1⟩
 done:=by
  intro X hP hw hK hc i pins s σ H E I hf st hg
  subst hP hw hK
  obtain⟨⟨old,se⟩,si⟩:=st
  obtain⟨xs,hq,hx⟩:=hg
  obtain⟨its,rv,p,hz⟩:=I.tuple hq
  have hl:=rv.length
  exact PyY.ZbG (I.ok.hd hc) se si (show s.heap.IsTuple a its.toArray from p) (by simp;omega) fun h1 eb=>⟨rfl,I.turnedL (t':=s.toks) (ts:=[e,it]) (fun b o hb q=>eb b o (fun z=>hb (by simp[z])) q) hf⟩
 self:=fun _ _ _ _ _ st h=>by
  obtain⟨⟨old,se⟩,si⟩:=st
  exact wpAny_pyIter_enum se h
section
variable {X:Cx}
def ZeK (K:PySem.W.Frag)(ta:TA):TI:=fun σ H R=>ta σ H fun vs H1=>∃a,vs=[.ref a]/\(((∃xs,Wa K H1 a xs)/\R (ZfN K a) H1)\/((∃xs,WG K H1 a xs)/\R (ZgO K a) H1))
theorem ZgF {elts:List Expr}{x1}{pt:Pos}{l:Expr}{ta:TA}{p pos:Pos}(hm:X.mg "enumerate"=none)(ha:PA X [l] ta)(hg:Z9 X.env.scope "enumerate"=true:=by kernel_rfl)(hs:starEach [l] X.env=[(false,eval l X.env)]:=by rfl) :
  PI X (.Tuple elts x1 pt) (.Call (.Name "enumerate" p) [l] [] pos) (ZeK X.K ta):=by
 intro pins s σ H R I h
 refine Call_ (Xb I (YZ hg) hm (show bootBuiltins "enumerate"=some (.type "enumerate") by kernel_rfl) (PyProof.Rows.callWith_type1 (ZT (ha pos pins s σ H _ I h) fun us s1 ⟨vs,H1,I1,r1,q1⟩=>?_) hs rfl))
 obtain⟨a,e,q⟩:=q1
 subst e
 cases r1 with
 |cons r rr=>
  cases rr
  cases (show _=Value.ref a from r)
  have sz:∀b,b∈[s1.heap.objs.size+1,s1.heap.objs.size]->s1.heap.objs.size<=b:=fun b hb=>by
   rcases List.mem_cons.mp hb with rfl|hb
   ·exact Nat.le_succ _
   ·have:b=s1.heap.objs.size:=by simpa using hb
    rw[this]
    exact Zq _
  rcases q with ⟨⟨xs,hq⟩,q⟩|⟨⟨xs,hq⟩,q⟩
  ·obtain⟨its,rv,p,hz⟩:=I1.list hq
   refine call_enumerate_list p.isList fun g ge gi gs gk=>?_
   refine wpAny_pyIter_enum ge ?_
   exact⟨_,[s1.heap.objs.size+1,s1.heap.objs.size],_,_,H1,rfl,I1.kept (t':=s1.toks) gk,UE a _ _ (Nat.ne_of_gt (Nat.lt_succ_self _)),⟨⟨_,ge⟩,gi⟩,fun b hb=>I1.fpOk (sz b hb) (I1.hok.fresh (sz b hb)),q⟩
  ·obtain⟨its,rv,p,hz⟩:=I1.tuple hq
   refine PyY.Zak (show s1.heap.IsTuple a its.toArray from p) fun g ge gi gs gk=>?_
   refine wpAny_pyIter_enum ge ?_
   exact⟨_,[s1.heap.objs.size+1,s1.heap.objs.size],_,_,H1,rfl,I1.kept (t':=s1.toks) gk,UD a _ _ (Nat.ne_of_gt (Nat.lt_succ_self _)),⟨⟨_,ge⟩,gi⟩,fun b hb=>I1.fpOk (sz b hb) (I1.hok.fresh (sz b hb)),q⟩
theorem ZeM (K:PySem.W.Frag){elts:List Expr}{x1}{pt:Pos}{l:Expr}{ta:TA}{p pos:Pos}(hm:X.mg "enumerate"=none)(ha:PA X [l] ta)(hK:X.K=K:=by rfl)(hg:Z9 X.env.scope "enumerate"=true:=by kernel_rfl)(hs:starEach [l] X.env=[(false,eval l X.env)]:=by rfl) :
  PI X (.Tuple elts x1 pt) (.Call (.Name "enumerate" p) [l] [] pos) (ZeK K ta):=hK▸ZgF hm ha hg hs
end
structure ZgP (J:It)(At:Hp->Prop)(xs:List V):Prop where
 go:∀i H,At H->i<xs.length->J.go i H
 yld:∀i H x H2,At H->J.yld i H x H2->∃T y,x=.ref T/\H T=none/\H2=upd H T (.tup [.int i,y])/\xs[i]?=some y
 stop:∀i H,At H->xs.length<=i->J.stop i H
theorem Zc9 {K:PySem.W.Frag}{a:Addr}{xs:List V}:ZgP (ZfN K a) (fun H=>Wa K H a xs) xs:=
 ⟨fun i H h hi=>⟨xs,xs[i],h,by simp[hi]⟩,fun i H x H2 h hy=>by
  obtain⟨T,y,e,hT,e2,q⟩:=hy
  exact⟨T,y,e,hT,e2,q xs h⟩,fun i H h hi=>⟨xs,h,hi⟩⟩
theorem Ua {J:It}{g:TG}{tb:TS}{D:Wx}{σ:St}{H:Hp}{At:Hp->Prop}{xs:List V}(S:ZgP J At xs)(Pv:Nat->St->Hp->Prop)(h0:Pv 0 σ H)(hS:∀i σ H,Pv i σ H->At H)
  (hs:∀(i:Nat) y σ H T,xs[i]?=some y->Pv i σ H->H T=none->g (.ref T) σ (upd H T (.tup [.int i,y])) fun σ2 H2=>tb {D with nx:=Pv (i+1),ct:=Pv (i+1),bk:=D.nx} σ2 H2) (hd:∀ σ H,Pv xs.length σ H->D.nx σ H) :
  ∃W:Nat->Nat->St->Hp->Prop,(∃m,W 0 m σ H)/\∀i m σ H,W i m σ H->
   (J.stop i H/\D.nx σ H)\/(J.go i H/\∃N:St->Hp->Prop,(∀ σ' H',N σ' H'->∃m',m'<m/\W (i+1) m' σ' H')/\∀x H',J.yld i H x H'->g x σ H' fun σ2 H2=>tb {D with nx:=N,ct:=N,bk:=D.nx} σ2 H2):=by
 refine⟨fun i m σ H=>m=xs.length-i/\i<=xs.length/\Pv i σ H,⟨_,rfl,Nat.zero_le _,h0⟩,?_⟩
 rintro i m σ H ⟨rfl,hi,p⟩
 have s:=hS i σ H p
 by_cases hlt:i<xs.length
 ·refine .inr ⟨S.go i H s hlt,Pv (i+1),fun σ' H' p'=>⟨xs.length-(i+1),by omega,rfl,hlt,p'⟩,fun x H' hy=>?_⟩
  obtain⟨T,y,rfl,hT,rfl,hx⟩:=S.yld i H x H' s hy
  exact hs i y σ H T hx p hT
 ·have e:i=xs.length:=by omega
  subst e
  exact .inl ⟨S.stop _ H s (Zq _),hd σ H p⟩
theorem g2 (K:PySem.W.Frag)(i j:Nat){X:Cx}{x y:Str}{k}{px py pos:Pos}(hc:X.calm=true)(hx:PG X (.Name x px) (Yf i))(hy:PG X (.Name y py) (Yf j))(hK:X.K=K:=by rfl)
  (hn:(assignEach [.Name x px,.Name y py] X.env).length=2:=by rfl) (hst:(assignEach [.Name x px,.Name y py] X.env).findIdx? (·.1)=none:=by rfl) :
  PG X (.Tuple [.Name x px,.Name y py] k pos) (Zgz K 2 (Zc2 (Yf i) (Zc2 (Yf j) ZgA))):=hK▸Zcz hc (WX hx (WX hy ZaE)) hn hst
theorem Zfg {X:Cx}(K:PySem.W.Frag){o e:Expr}{es:List Expr}{to:TE}{t:TA}{name:Str}{apos cpos:Pos}{T id:String}{r:V->List V->Hp->VK->Prop}(pa:PlainAttrs T)(slot:Slot T name id)(hty:typeOf (.builtin id)=pure (.type "method_descriptor"))(hm:MtR X id r)(ho:PE X o to)(ha:PA X (e::es) t)
  (hK:X.K=K:=by rfl) (hbase:attributeBase o name X.env (eval o X.env)=eval o X.env:=by rfl)
  (hfew:((backTo cpos (starEach (e::es) X.env)).all (fun x=>!x.1) && (backToKw cpos (keywordEach [] X.env)).all (fun x=>x.1.isSome)
   && decide ((e::es).length+([]:List Keyword).length+(if ([]:List Keyword).isEmpty then 0 else 1)<30))=true:=by rfl)
  (hline:(apos.endLine == cpos.line)=true:=by rfl) (hs:starEach (e::es) X.env=(false,eval e X.env)::starEach es X.env:=by rfl) (hplain:(backTo cpos (starEach es X.env)).any (·.1)=false:=by rfl) :
  PE X (.Call (.Attribute o name apos) (e::es) [] cpos) (tBM K T r to t):=hK▸Jw pa slot hty hm ho ha hbase hfew hline hs hplain
structure Wb (k b:Nat)(d:PyData):Prop where
 sh:d.showable=true
 nd:d.hasDict=false
 dp:d.depth<=k
 lv:d.leavesShort 300=true
 bl:d.bulk<=b
theorem Wb.all {k b:Nat}:∀{ds:List PyData},(∀d∈ds,Wb k b d)->PyData.showableAll ds=true/\PyData.hasDictAll ds=false/\PyData.depthAll ds<=k/\PyData.leavesShortAll 300 ds=true/\PyData.bulkAll ds<=ds.length*(b+1)
 | [],_=>⟨rfl,rfl,Nat.zero_le _,rfl,Nat.zero_le _⟩
 |d::ds,h=>by
  obtain⟨h1,h2,h3,h4,h5⟩:=Wb.all (ds:=ds) fun e he=>h e (List.mem_cons_of_mem _ he)
  have hd:=h d List.mem_cons_self
  refine⟨?_,?_,?_,?_,?_⟩
  ·simp only[PyData.showableAll,hd.sh,h1,Bool.and_self]
  ·simp only[PyData.hasDictAll,hd.nd,h2,Bool.or_self]
  ·simp only[PyData.depthAll]
   exact Nat.max_le.mpr ⟨hd.dp,h3⟩
  ·simp only[PyData.leavesShortAll,hd.lv,h4,Bool.and_self]
  ·simp only[PyData.bulkAll,Zi]
   have:=hd.bl
   rw[Nat.succ_mul]
   omega
theorem Wb.fit {k b:Nat}{d:PyData}(h:Wb k b d)(hk:k<=60)(hb:b<=50000):Zdq d:=by
 refine⟨h.sh,h.nd,Nat.le_trans h.dp hk,?_⟩
 have:=PyData.shown_le_bulk 300 (by decide) d h.lv
 have h5:=h.bl
 have e:(16777216:Nat)=sizeLine:=by decide
 omega
theorem Wb.tup {k b n:Nat}{ds:List PyData}(hn:ds.length<=n)(h:∀d∈ds,Wb k b d):Wb (k+1) (n*(b+1)) (.tuple ds):=by
 obtain⟨h1,h2,h3,h4,h5⟩:=Wb.all h
 refine⟨by simp only[PyData.showable];exact h1,by simp only[PyData.hasDict];exact h2,by simp only[PyData.depth];omega,by simp only[PyData.leavesShort];exact h4,?_⟩
 simp only[PyData.bulk]
 exact Nat.le_trans h5 (Nat.mul_le_mul_right _ hn)
theorem Y4 {k:Nat}(h:k<=1000):Wb 0 0 (.int (k:Int)):=by
 obtain⟨h1,_,_,h4,_,_⟩:=WU (ns:=[(k:Int)]) (fun n hn=>by
  rw[List.mem_singleton.mp hn,Int.natAbs_natCast]
  exact Nat.lt_of_le_of_lt h (by decide))
 simp only[List.map_cons,List.map_nil,PyData.showableAll,PyData.leavesShortAll,Bool.and_true] at h1 h4
 exact⟨h1,rfl,Nat.zero_le _,h4,Nat.zero_le _⟩
end L2
namespace Pm
open PySem L2 PySem.Spec PyProof.Rows
open Tb
def nV (k:Nat):V:=.int (k:Int)
def Zhy (H:Hp)(L:Addr)(rs:List Addr)(f:Nat->List Nat):Prop:=H L=some (.lst (rs.map V.ref))/\∀(i:Nat) r,rs[i]?=some r->Tz H r ((f i).map nV)
theorem V4 {n i:Nat}(h:i<n):ixN n (i:Int)=some i:=by
 unfold ixN
 rw[if_pos (Int.natCast_nonneg _),if_pos (by omega),Zj]
theorem U1 {xs:List Nat}{i:Nat}{y:V}(h:(xs.map nV)[i]?=some y):∃k,xs[i]?=some k/\y=.int (k:Nat):=by
 rw[Zc] at h
 cases e:xs[i]? with
 |none=>rw[e] at h;cases h
 |some k=>rw[e] at h;exact⟨k,rfl,(Option.some.inj h).symm⟩
def Yu (f g:List Nat):List Nat:=g.map fun i=>f.getD i 0
def nI (xs:List Nat):List Int:=xs.map fun k:Nat=>((k:Nat):Int)
theorem VT (xs:List Nat):(nI xs).map V.int=xs.map nV:=by unfold nI;rw[List.map_map];rfl
def ZA (H:Hp)(L:Addr)(bs:List Addr)(yss:List (List Nat)):Prop:=H L=some (.lst (bs.map V.ref))/\bs.length=yss.length/\∀(i:Nat) b,bs[i]?=some b->H b=some (.tup ((yss.getD i []).map nV))
theorem ZA.mono {H H':Hp}{L:Addr}{bs:List Addr}{yss:List (List Nat)}(s:Zv H H')(R:ZA H L bs yss):ZA H' L bs yss:=⟨s _ _ R.1,R.2.1,fun i b hb=>s _ _ (R.2.2 i b hb)⟩
theorem ZA.push {H:Hp}{L:Addr}{bs:List Addr}{yss:List (List Nat)}{b:Addr}{ys:List Nat}(R:ZA H L bs yss)(h:H b=some (.tup (ys.map nV))):ZA (upd H L (.lst (bs.map V.ref++[.ref b]))) L (bs++[b]) (yss++[ys]):=by
 have ne:∀{b ys},H b=some (.tup ys)->upd H L (.lst (bs.map V.ref++[.ref b])) b=some (.tup ys):=fun {b ys} hb=>by
  rw[Zw (fun z=>by rw[z,R.1] at hb;cases hb)]
  exact hb
 refine⟨by rw[Zs,List.map_append];rfl,by rw[Zd,Zd,R.2.1];rfl,fun i c hc=>?_⟩
 have nb:c≠L->upd H L (.lst (bs.map V.ref++[.ref b])) c=H c:=fun z=>Zw z
 by_cases hi:i<bs.length
 ·rw[List.getElem?_append_left hi] at hc
  have:=R.2.2 i c hc
  rw[nb (fun z=>by rw[z,R.1] at this;cases this),Zb,List.getElem?_append_left (by rw[<-R.2.1];exact hi),<-Zb]
  exact this
 ·rw[List.getElem?_append_right (by omega)] at hc
  have e0:i-bs.length=0:=by
   apply Classical.byContradiction
   intro z
   rw[List.getElem?_eq_none (by rw[Zk];omega)] at hc
   cases hc
  rw[e0] at hc
  cases hc
  have:i=yss.length:=by rw[<-R.2.1];omega
  rw[nb (fun z=>by rw[z,R.1] at h;cases h),this,Zb,List.getElem?_append_right (Zq _),Nat.sub_self]
  exact h
theorem JG {K:PySem.W.Frag}{H:Hp}:∀(bs:List Addr) (yss:List (List Nat)),bs.length=yss.length->(∀(j:Nat) b,bs[j]?=some b->H b=some (.tup ((yss.getD j []).map nV)))->Yc K H (bs.map V.ref) (yss.map fun ns=>PyData.tuple ((nI ns).map PyData.int))
 | [],[],_,_=>.nil
 | [],_::_,h,_=>by cases h
 |_::_,[],h,_=>by cases h
 |b::bs,y::yss,h,g=>by
  have hb:=g 0 b rfl
  have hb':H b=some (.tup ((nI y).map V.int)):=by rw[VT];exact hb
  exact .cons (.tup (.of hb') (Yc.ints _)) (JG bs yss (Nat.succ.inj h) fun j b' hj=>g (j+1) b' hj)
theorem U2 {a b:List Nat}:nI a=nI b↔a=b:=by
 constructor
 ·intro h
  unfold nI at h
  exact (List.map_inj_right (fun x y e=>by exact Int.ofNat.inj e)).mp h
 ·intro h;rw[h]
theorem Zc8 (a b:List Nat):PyData.eqv (.tuple ((nI a).map PyData.int)) (.tuple ((nI b).map PyData.int))=decide (a=b):=by
 have:PyData.eqv (.tuple ((nI a).map PyData.int)) (.tuple ((nI b).map PyData.int))=decide (nI a=nI b):=by
  show PyData.eqvAll _ _=_
  exact PySem.W.ked_eqvAll _ _
 rw[this,decide_eq_decide]
 exact U2
theorem Vy (yss:List (List Nat))(o:List Nat):((yss.map fun ns=>PyData.tuple ((nI ns).map PyData.int)).any fun y=>y.eqv (.tuple ((nI o).map PyData.int)))=yss.contains o:=by
 rw[List.any_map,List.contains_eq_any_beq]
 congr 1
 funext y
 show PyData.eqv _ _=(o == y)
 rw[Zc8]
 by_cases h:y=o
 ·rw[decide_eq_true h,h,beq_self_eq_true]
 ·rw[decide_eq_false h]
  exact (beq_eq_false_iff_ne.mpr (fun z=>h z.symm)).symm
def Zab (cur:List Nat):V->V
 | .int z=>nV (cur.getD z.toNat 0)
 |y=>y
def Z7 (srt:List (List Nat)):List (List Nat):=srt.map fun a=>srt.map fun b=>srt.findIdx (· == Yu a b)
theorem ZA.get {H:Hp}{L:Addr}{bs:List Addr}{yss:List (List Nat)}(R:ZA H L bs yss){i:Nat}(hi:i<yss.length):∃b,bs[i]?=some b/\atI (bs.map V.ref) (i:Int)=some (.ref b)/\H b=some (.tup ((yss.getD i []).map nV)):=by
 have hb:i<bs.length:=by rw[R.2.1];exact hi
 have e:bs[i]?=some bs[i]:=Zf hb
 exact⟨_,e,Z8 (by rw[Zc,e];rfl),R.2.2 i _ e⟩
theorem getL {yss:List (List Nat)}{i:Nat}(h:i<yss.length):yss[i]?=some (yss.getD i []):=by
 rw[Zb,Zf h]
 rfl
theorem VW {yss:List (List Nat)}{i:Nat}(h:i<yss.length):yss.getD i []∈yss:=List.mem_of_getElem? (getL h)
theorem Zgl {xs:List Nat}{i:Nat}(h:i<xs.length):atI (xs.map nV) (i:Int)=some (nV (xs.getD i 0)):=Z8 (by rw[Zc,Zf h,Zb,Zf h];rfl)
section
variable {X:Cx}
structure QE (X:Cx)(e:Expr)(t:TE):Prop where
 h:PE X e t
structure QA (X:Cx)(es:List Expr)(t:TA):Prop where
 h:PA X es t
structure QS (X:Cx)(st:Stmt)(t:TS):Prop where
 h:PS X st t
structure QSs (X:Cx)(sts:List Stmt)(t:TS):Prop where
 h:X6 X sts t
theorem Zcv (i:Nat){x:Str}{e:Expr}{te:TE}{pos pos':Pos}(hf:X.fn x=true)(he:QE X e te)(hi:X.N[i]?=some x:=by rfl)(hN:YN X.N=true:=by kernel_rfl)(hx:V7 X.env.scope x=true:=by kernel_rfl)
  (hs:swapsWith e (some (.Name x pos')) pos.line X.env=pure false:=by rfl):QS X (.Assign [.Name x pos'] e pos) (Za6 te (Yf i)):=⟨ZZ i hf he.h hi hN hx hs⟩
theorem YK {st:Stmt}{rest:List Stmt}{t u:TS}(h1:QS X st t)(h2:QSs X rest u):QSs X (st::rest) (Za5 t u):=⟨Zx h1.h h2.h⟩
theorem QSs.out {sts:List Stmt}{t:TS}(h:QSs X sts t):X6 X sts t:=h.h
end
def CT (H:Hp)(c:Addr)(css:List (List Nat)):Prop:=∃rs:List Addr,H c=some (.tup (rs.map V.ref))/\rs.length=css.length/\∀(i:Nat) r,rs[i]?=some r->H r=some (.tup ((css.getD i []).map nV))
theorem CT.mono {H H':Hp}{c:Addr}{css:List (List Nat)}(s:Zv H H')(h:CT H c css):CT H' c css:=by
 obtain⟨rs,h1,h2,h3⟩:=h
 exact⟨rs,s _ _ h1,h2,fun i r hr=>s _ _ (h3 i r hr)⟩
theorem tupK {X:Cx}(K:PySem.W.Frag)(hK:X.K=K:=by rfl):ZR X (.type "tuple") (fun xs H Q=>∃p ys,xs=[.ref p]/\((Wa K H p ys/\∀l,H l=none->Q (.ref l) (upd H l (.tup ys)))\/(WG K H p ys/\Q (.ref p) H))):=hK▸YR
theorem Ze6 (m:Nat):(Yg 0 m).map V.int=(List.range m).map nV:=by
 unfold Yg
 rw[List.map_map]
 refine List.map_congr_left fun i _=>?_
 show V.int (0+(i:Int))=nV i
 rw[Int.zero_add]
 rfl
def Zee (row:List Nat):PyData:=.tuple (row.map fun k:Nat=>PyData.int (k:Int))
def dCs (css:List (List Nat)):PyData:=.tuple (css.map Zee)
theorem ZdC {row:List Nat}(hl:row.length<=60)(h:∀k∈row,k<=1000):Wb 1 60 (Zee row):=by
 have:=Wb.tup (k:=0) (b:=0) (n:=60) (ds:=row.map fun k:Nat=>PyData.int (k:Int)) (by rw[Za];exact hl) fun d hd=>by
  obtain⟨k,hk,rfl⟩:=List.mem_map.mp hd
  exact Y4 (h k hk)
 exact this
theorem VQ {K:PySem.W.Frag}{H:Hp}:∀row:List Nat,Yc K H (row.map nV) (row.map fun k:Nat=>PyData.int (k:Int))
 | []=>.nil
 |k::r=>.cons (.int _) (VQ r)
theorem Ze7 {K:PySem.W.Frag}{H:Hp}{a:Addr}{row:List Nat}(h:H a=some (.tup (row.map nV))):Wu K H (.ref a) (Zee row):=.tup (.of h) (VQ row)
theorem VP {K:PySem.W.Frag}{H:Hp}:∀{rs:List Addr}{css:List (List Nat)},rs.length=css.length->(∀(i:Nat) r,rs[i]?=some r->H r=some (.tup ((css.getD i []).map nV)))->Yc K H (rs.map V.ref) (css.map Zee)
 | [],[],_,_=>.nil
 | [],_::_,h,_=>by cases h
 |_::_,[],h,_=>by cases h
 |r::rs,c::css,h,g=>.cons (Ze7 (g 0 r rfl)) (VP (Nat.succ.inj h) fun i r' hr=>g (i+1) r' hr)
theorem CT.rd {K:PySem.W.Frag}{H:Hp}{c:Addr}{css:List (List Nat)}(h:CT H c css):Wu K H (.ref c) (dCs css):=by
 obtain⟨rs,h1,h2,h3⟩:=h
 exact .tup (.of h1) (VP h2 h3)
end Pm
namespace Pm
inductive W7 (gs:List (List Nat)) (n:Nat):List Nat->Prop where
 |start:W7 gs n (List.range n)
 |step {x g:List Nat} (h:W7 gs n x) (hg:g∈gs):W7 gs n (Yu x g)
structure Xr (gs:List (List Nat))(n:Nat):Prop where
 n1:1<=n
 n24:n<=24
 len:∀g∈gs,g.length=n
 lt:∀g∈gs,∀i∈g,i<n
section
variable {gs:List (List Nat)}{n:Nat}
theorem W7.len (G:Xr gs n){x:List Nat}(h:W7 gs n x):x.length=n:=by
 cases h with
 |start=>exact Zg
 |step h hg=>unfold Yu;rw[Za,G.len _ hg]
theorem W7.lt (G:Xr gs n){x:List Nat}(h:W7 gs n x):∀i∈x,i<n:=by
 induction h with
 |start=>exact fun i hi=>List.mem_range.mp hi
 | @step x g h hg ih=>
  intro i hi
  unfold Yu at hi
  obtain⟨k,hk,rfl⟩:=List.mem_map.mp hi
  have hl:=G.lt g hg k hk
  have hx:=h.len G
  rw[Zb,Zf (by omega)]
  exact ih _ (List.getElem_mem _)
structure QI (gs:List (List Nat))(n:Nat)(fd ln:List (List Nat))(ex:List Nat->Prop):Prop where
 z:List.range n∈fd
 nd:fd.Nodup
 rch:∀x∈fd,W7 gs n x
 sub:∀x∈ln,x∈fd
 cl:∀x∈fd,x∉ln->¬ex x->∀g∈gs,Yu x g∈fd
structure Jp (gs:List (List Nat))(n:Nat)(fd:List (List Nat)):Prop where
 nd:fd.Nodup
 all:∀x,x∈fd↔W7 gs n x
theorem QI.full {fd:List (List Nat)}(I:QI gs n fd [] fun _=>False):Jp gs n fd:=by
 refine⟨I.nd,fun x=>⟨I.rch x,fun h=>?_⟩⟩
 induction h with
 |start=>exact I.z
 |step h hg ih=>exact I.cl _ ih (by simp) (fun z=>z) _ hg
theorem QI.add {fd ln:List (List Nat)}{ex:List Nat->Prop}(I:QI gs n fd ln ex){y:List Nat}(hn:y∉fd)(hr:W7 gs n y):QI gs n (fd++[y]) (ln++[y]) ex:=by
 refine⟨List.mem_append_left _ I.z,?_,fun x hx=>?_,fun x hx=>?_,fun x hx h1 h2 g hg=>?_⟩
 ·rw[List.nodup_append]
  exact⟨I.nd,by simp,fun a ha b hb z=>hn (by rw[List.mem_singleton.mp hb] at z;exact z▸ha)⟩
 ·rcases List.mem_append.mp hx with h|h
  ·exact I.rch x h
  ·rw[List.mem_singleton.mp h];exact hr
 ·rcases List.mem_append.mp hx with h|h
  ·exact List.mem_append_left _ (I.sub x h)
  ·exact List.mem_append_right _ h
 ·rcases List.mem_append.mp hx with h|h
  ·exact List.mem_append_left _ (I.cl x h (fun z=>h1 (List.mem_append_left _ z)) h2 g hg)
  ·exact absurd (List.mem_append_right _ h) h1
theorem ZcQ {α:Type} [DecidableEq α]:∀(l m:List α),l.Nodup->(∀x∈l,x∈m)->l.length<=m.length
 | [],m,_,_=>Nat.zero_le _
 |a::l,m,nd,h=>by
  have nd':=List.nodup_cons.mp nd
  have ha:=h a List.mem_cons_self
  have:=ZcQ l (m.erase a) nd'.2 fun x hx=>(List.mem_erase_of_ne (fun z:x=a=>nd'.1 (z▸hx))).mpr (h x (List.mem_cons_of_mem _ hx))
  rw[List.length_erase_of_mem ha] at this
  have hp:0<m.length:=List.length_pos_of_mem ha
  rw[Zi]
  omega
theorem Jp.most {fd l:List (List Nat)}(F:Jp gs n fd)(nd:l.Nodup)(h:∀x∈l,W7 gs n x):l.length<=fd.length:=ZcQ l fd nd fun x hx=>(F.all x).mpr (h x hx)
theorem Jp.perm {fd fd':List (List Nat)}(F:Jp gs n fd)(F':Jp gs n fd'):List.Perm fd fd':=(List.perm_ext_iff_of_nodup F.nd F'.nd).mpr fun x=>by rw[F.all,F'.all]
def Srt (yss:List (List Nat)):Prop:=(yss.map nI).Pairwise (fun x y=>PyZ.Wh y x=false)
theorem Srt.eq {a b:List (List Nat)}(ha:Srt a)(hb:Srt b)(p:List.Perm a b):a=b:=by
 have:a.map nI=b.map nI:=List.Perm.eq_of_pairwise (le:=fun x y:List Int=>PyZ.Wh y x=false) (fun x y _ _ h1 h2=>PyZ.Vn h2 h1) ha hb (p.map nI)
 exact (List.map_inj_right (fun x y e=>U2.mp e)).mp this
end
end Pm
namespace Pm
open PySem L2 PySem.Spec PyProof.Rows
theorem ZA.updD {H:Hp}{L D:Addr}{bs:List Addr}{yss:List (List Nat)}{kvs:List (List Z6×V)}{o:HO}(R:ZA H L bs yss)(hD:H D=some (.dT kvs)):ZA (upd H D o) L bs yss:=
 ⟨by rw[Zw (fun z=>by rw[<-z,R.1] at hD;cases hD)];exact R.1,R.2.1,fun i b hb=>by have h:=R.2.2 i b hb;rw[Zw (fun z=>by rw[<-z,h] at hD;cases hD)];exact h⟩
theorem ZA.updL {H:Hp}{L D:Addr}{bs:List Addr}{yss:List (List Nat)}{xs:List V}{o:HO}(R:ZA H L bs yss)(ne:L≠D)(hD:H D=some (.lst xs)):ZA (upd H D o) L bs yss:=
 ⟨by rw[Zw ne];exact R.1,R.2.1,fun i b hb=>by have h:=R.2.2 i b hb;rw[Zw (fun z=>by rw[<-z,h] at hD;cases hD)];exact h⟩
theorem ZA.gt9 {H:Hp}{L:Addr}{bs:List Addr}{yss:List (List Nat)}(R:ZA H L bs yss){i:Nat}{y:V}(h:(bs.map V.ref)[i]?=some y):∃b x,y=.ref b/\yss[i]?=some x/\H b=some (.tup (x.map nV)):=by
 rw[Zc] at h
 cases hb:bs[i]? with
 |none=>rw[hb] at h;cases h
 |some b=>
  rw[hb] at h
  cases h
  have hi:=(List.getElem?_eq_some_iff.mp hb).1
  rw[R.2.1] at hi
  have:=R.2.2 i b hb
  rw[Zb,Zf hi] at this
  exact⟨b,yss[i],rfl,Zf hi,this⟩
theorem ZA.tlen {H:Hp}{L:Addr}{bs:List Addr}{yss:List (List Nat)}(R:ZA H L bs yss):(bs.map V.ref).length=yss.length:=by rw[Za,R.2.1]
end Pm
namespace C9
open PySem L2 PySem.Spec PyProof.Rows
open Tb Pm
abbrev JS:Stmt:=top 18
structure ZbW (mg:Str->Option Value):Prop where
 sorted:mg "sorted"=none
 enumerate:mg "enumerate"=none
def Z2 (y:List Nat):List Z6:=kI (nI y)
theorem Xe (y:List Nat):(Z2 y).map kV=y.map nV:=by unfold Z2;rw[Zgr,VT]
theorem Xd {a b:List Nat}(h:Z2 a=Z2 b):a=b:=U2.mp (Zfz h)
structure KP (kvs:List (List Z6×V))(fd:List (List Nat)):Prop where
 keys:kvs.map (·.1)=fd.map Z2
theorem KP.len {kvs:List (List Z6×V)}{fd:List (List Nat)}(h:KP kvs fd):kvs.length=fd.length:=by
 have:=congrArg List.length h.keys
 rwa [Za,Za] at this
theorem KP.some {kvs:List (List Z6×V)}{fd:List (List Nat)}(h:KP kvs fd)(y:List Nat):(We kvs (Z2 y)).isSome=fd.contains y:=by
 rw[<-WT]
 have e:(kvs.any fun kv=>decide (kv.1=Z2 y))=(kvs.map (·.1)).any fun k=>decide (k=Z2 y):=by rw[List.any_map];rfl
 rw[e,h.keys,List.any_map,List.contains_eq_any_beq]
 congr 1
 funext x
 show decide (Z2 x=Z2 y)=(y == x)
 by_cases hx:x=y
 ·rw[hx,beq_self_eq_true];exact decide_eq_true rfl
 ·rw[beq_eq_false_iff_ne.mpr (Ne.symm hx)];exact decide_eq_false fun z=>hx (Xd z)
theorem KP.put {kvs:List (List Z6×V)}{fd:List (List Nat)}(h:KP kvs fd){y:List Nat}(v:V)(hn:y∉fd):KP (Yw kvs (Z2 y) v) (fd++[y]):=by
 have hs:=h.some y
 have hc:fd.contains y=false:=by
  cases hc:fd.contains y with
  |false=>rfl
  |true=>exact absurd (List.contains_iff_mem.mp hc) hn
 rw[hc] at hs
 have hv:We kvs (Z2 y)=none:=by
  cases hv:We kvs (Z2 y) with
  |none=>rfl
  |some x=>rw[hv] at hs;cases hs
 rw[Zcw v hv]
 exact⟨by rw[List.map_append,List.map_append,h.keys];rfl⟩
def XH:Sp:=fun vs H Q _=>∃(x y:Addr) (f g:List Nat),vs=[.ref x,.ref y]/\H x=some (.tup (f.map nV))/\H y=some (.tup (g.map nV))/\g.length<=1000/\(∀i∈g,i<f.length)/\∀r H',Zv H H'->H r=none->H' r=some (.tup ((Yu f g).map nV))->Q (.ref r) H'
theorem Zgm {xs:List Nat}{i:Nat}(h:i<xs.length):atI (xs.map nV) (i:Int)=some (.int (xs.getD i 0:Nat)):=Z8 (by
 rw[Zc,Zf h,Zb,Zf h]
 rfl)
theorem Xj (f g:List Nat):(g.map nV).map (Zab f)=(Yu f g).map nV:=by
 unfold Yu
 rw[List.map_map,List.map_map]
 refine List.map_congr_left fun k _=>?_
 show nV (f.getD (k:Int).toNat 0)=nV (f.getD k 0)
 rw[Zj]
structure OnP (P:Program)(w:World)(K:PySem.W.Frag)(mg:Str->Option Value)(base:Heap)(gs:List (List Nat))(n:Nat)(Ev:Hp->Prop)(f:Addr):Prop where
 mono:∀H H',Zv H H'->Ev H->Ev H'
 fn:∃ps oc od fd sl sp,(∀H,Ev H->H f=some (WM f ⟨oc,od,.func fd,sl⟩))/\ZY P w K mg base Yv 2 f fd ps sp/\Binds K fd ps []/\∀H (x:List Nat) b Q,Ev H->W7 gs n x->H b=some (.tup (x.map nV))->(∀L bs H',Zv H H'->H L=none->ZA H' L bs (gs.map (Yu x))->Q (.ref L) H')->sp [.ref b] H Q E0
def Zca (P:Program)(w:World)(K:PySem.W.Frag)(mg:Str->Option Value)(base:Heap):Sp:=fun vs H Q _=>∃(b f:Addr) (gs:List (List Nat)) (n:Nat) (Ev:Hp->Prop),vs=[.ref b,.ref f,.int 60]/\Xr gs n/\gs.length<=10/\H b=some (.tup ((List.range n).map nV))/\Ev H/\OnP P w K mg base gs n Ev f/\
 (∀L bs zss H',Zv H H'->ZA H' L bs zss->Srt zss->Jp gs n zss->zss.length<=60->Q (.ref L) H')/\∀(fd:List (List Nat)) H',Zv H H'->fd.Nodup->(∀x∈fd,W7 gs n x)->60<fd.length->Q .non H'
theorem Uf {fr:List (List Nat)}{i:Nat}{x y:List Nat}(h:fr[i]?=some x)(hy:y∈fr.drop i):y=x\/y∈fr.drop (i+1):=by
 obtain⟨hl,e⟩:=List.getElem?_eq_some_iff.mp h
 rw[List.drop_eq_getElem_cons hl] at hy
 rcases List.mem_cons.mp hy with z|z
 ·exact .inl (z.trans e)
 ·exact .inr z
section
variable {P:Program}{w:World}{K:PySem.W.Frag}{mg:Str->Option Value}{base:Heap}
theorem Zfm {f:Addr}{fd:FuncData}(F:W8 K "perm_times" "perm_times" Zcm f fd)(T:Bl mg):ZY P w K mg base Yv 1 f fd ["one", "other"] XH:=by
 refine F.ok (FS (N:=["one", "other"])) (fun vs H Q E h=>?_) (fun cdv A outer s H vs Q E hr h=>?_)
 ·obtain⟨x,y,f,g,rfl,_⟩:=h;rfl
 ·obtain⟨x,y,f,g,rfl,hx,hy,gl,glt,q⟩:=h
  refine⟨_,Zy (ZP (ct YR T.tuple (pc (cmp ["place"] [0] ["place", "one"] rfl (itT K (vn 1)) (fun _ _ _ _ _=>gn 0) (fun _ _ _ _ _=>Y6) (fun _ _ _ _ _=>ZO (ixT K) (vn 1) (vn 0) (fun _ _=>rfl))) Zt))),?_⟩
  refine⟨_,rfl,y,rfl,⟨_,.of hy⟩,?_⟩
  refine W4 (WV (K:=K) (.of hy)) [some (.ref x)] rfl (Zab f) (by rw[Za];omega) (fun i z H' hz s R k=>?_) (fun D H' nD s hD=>?_)
  ·obtain⟨c,hc,rfl⟩:=U1 hz
   have hcl:=glt c (List.mem_of_getElem? hc)
   have:=k H' (Zv.refl _)
   have e:Zab f (.int (c:Nat))=.int (f.getD c 0:Nat):=by
    show nV (f.getD (c:Int).toNat 0)=_
    rw[Zj]
    rfl
   rw[e] at this
   exact⟨_,rfl,_,rfl,x,_,_,_,rfl,rfl,.of (s _ _ hx),Zgm hcl,this⟩
  ·rw[Xj] at hD
   refine⟨D,_,rfl,.inl ⟨.of hD,fun r nr=>?_⟩⟩
   exact q r _ (s.trans (Zv.upd nr)) (s.free nr) Zs
theorem Zfl {f:Addr}{fd:FuncData}(F:W8 K "reached" "reached" JS f fd)(T:Bl mg)(T2:ZbW mg):ZY P w K mg base Yv 3 f fd ["start", "onward", "most"] (Zca P w K mg base):=by
 refine F.ok (FS (N:=["start", "onward", "most", "seen", "fresh", "came", "one", "other"])) (fun vs H Q E h=>?_) (fun cdv A outer s H vs Q E hr h=>?_)
 ·obtain⟨b,g,gs,n,Ev,rfl,_⟩:=h;rfl
 ·obtain⟨b0,g,gs,n,Ev,rfl,G,gl,hb0,hEv,O,q1,q2⟩:=h
  have hu:(A.deeper (envOfC "reached" (ZB JS) s.heap.objs.size f cdv)).units+1<cLine:=by have:=hr.un;omega
  refine⟨_,Zx (ZZ 3 rfl (ZcE hu (vn 0) XM))
   (Zx (ZZ 4 rfl (YM (pc (vn 0) Zt)))
   (Zx (J3 PassesOwn.never (Zcx (vn 4) (fun _=>rfl))
    (Zx (ZZ 5 rfl (YM Zt))
    (Zx (Yr PassesOwn.never rfl (itL K (vn 4)) (gn 6)
     (Zx (Yr PassesOwn.never rfl (itL K (ZcG (CX:=Yv) (k:=2) (i:=1) (E:=E0) hr ZS (vn 1) (pc (vn 6) Zt))) (gn 7)
      (Zy (Yn (UU (Zbi hu (vn 7) (vn 3)))
       (Zx (ZaD hu (vn 3) (vn 7) XM (by rfl))
       (Zy (Y5 (Jw PySem.F.plainAttrs_list PySem.F.slot_list_append PySem.F.type_list_append Yi (vn 5) (pc (vn 7) Zt))))) ZU)))
     (Zy (Yn (ZF VS (cb ZbP T.len (pc (vn 3) Zt)) (vn 2) (ZJ _)) (Zy (ZP J8)) ZU))))
    (Zy (ZZ 4 rfl (vn 5))))))
   (Zy (ZP (cb (Uo rfl) T2.sorted (pc (vn 3) Zt)))))),?_⟩
  have sz:(16777216:Nat)=sizeLine:=by decide
  have n1:=G.n1
  have n24:=G.n24
  obtain⟨psO,oc,od,fdO,sl,sp,hF,OkF,Bd,hsp⟩:=O.fn
  intro D nD
  have hb1:=(Zv.upd (H:=H) (o:=.dT []) nD) _ _ hb0
  refine⟨_,rfl,b0,Z2 (List.range n),rfl,by rw[Xe];exact hb1,Zs,?_⟩
  have s1:Zv H (upd (upd H D (.dT [])) D (.dT [(Z2 (List.range n),.bl true)])):=(Zv.upd nD).updr nD
  have hD1:=Zs (H:=upd H D (.dT [])) (a:=D) (o:=.dT [(Z2 (List.range n),.bl true)])
  generalize upd (upd H D (.dT [])) D (.dT [(Z2 (List.range n),.bl true)])=H1 at s1 hD1 ⊢
  have KP0:KP [(Z2 (List.range n),V.bl true)] [List.range n]:=⟨rfl⟩
  refine⟨_,rfl,(by show 1<=sizeLine;decide),fun Ln nL1=>?_⟩
  have s2:=s1.trans (Zv.upd (o:=.lst [.ref b0]) nL1)
  have hD2:=Zv.upd (o:=.lst [.ref b0]) nL1 _ _ hD1
  have hL2:=Zs (H:=H1) (a:=Ln) (o:=.lst [.ref b0])
  generalize upd H1 Ln (.lst [.ref b0])=H2 at s2 hD2 hL2 ⊢
  have TL2:ZA H2 Ln [b0] [List.range n]:=⟨hL2,rfl,fun i b hb=>by
   match i,hb with
   |0,hb=>cases hb;exact s2 _ _ hb0
   |i+1,hb=>cases hb⟩
  have I0:QI gs n [List.range n] [List.range n] fun _=>False:=⟨by simp,by simp,fun x hx=>by rw[List.mem_singleton.mp hx];exact .start,fun x hx=>hx,fun x hx hn=>absurd hx hn⟩
  dsimp only[Yf,Za5]
  refine JO (fun m σ' H'=>∃(kvs:List (List Z6×V)) (fd ln:List (List Nat)) (Fr:Addr) (fs:List Addr) (v5 v6 v7:Option V),σ'=[some (.ref b0),some (.ref g),some (.int 60),some (.ref D),some (.ref Fr),v5,v6,v7]/\Zv H H'/\H' D=some (.dT kvs)/\KP kvs fd/\ZA H' Fr fs ln/\QI gs n fd ln (fun _=>False)/\fd.length<=60/\m=2*(61-fd.length)+ln.length)
   (fun σ' H'=>∃(kvs:List (List Z6×V)) (fd:List (List Nat)) (v4 v5 v6 v7:Option V),σ'=[some (.ref b0),some (.ref g),some (.int 60),some (.ref D),v4,v5,v6,v7]/\Zv H H'/\H' D=some (.dT kvs)/\KP kvs fd/\QI gs n fd [] (fun _=>False)/\fd.length<=60) ?hend ⟨_,_,[List.range n],[List.range n],Ln,[b0],_,_,_,rfl,s2,hD2,KP0,TL2,I0,(by show 1<=60;decide),rfl⟩ ?turn
  case hend=>
   rintro σ' H' ⟨kvs,fd,v4,v5,v6,v7,rfl,sm,hD,hK,I,f60⟩
   have Fl:=I.full
   refine⟨_,rfl,D,kvs,fd.map nI,rfl,.inl hD,by rw[hK.keys,List.map_map];rfl,by rw[Za];omega,fun ys hy z=>?_,fun l as zss nl pz hs hl ha=>?_⟩
   ·obtain⟨x,hx,rfl⟩:=List.mem_map.mp hy
    have:=(I.rch x hx).len G
    have hx0:x=[]:=by
     unfold nI at z
     exact List.map_eq_nil_iff.mp z
    rw[hx0] at this
    simp at this
    omega
   ·obtain⟨ws,hw1,hw2⟩:∃ws:List (List Nat),zss=ws.map nI/\List.Perm ws fd:=by
     refine⟨zss.map fun zs=>zs.map Int.toNat,?_,?_⟩
     ·rw[List.map_map]
      refine (List.map_id' zss).symm.trans (List.map_congr_left fun zs hz=>?_)
      obtain⟨x,hx,rfl⟩:=List.mem_map.mp (pz.mem_iff.mp hz)
      show nI x=nI ((nI x).map Int.toNat)
      unfold nI
      rw[List.map_map,List.map_map]
      refine List.map_congr_left fun k _=>?_
      show (k:Int)=(((k:Int).toNat:Nat):Int)
      rw[Zj]
     ·have:=pz.map fun zs:List Int=>zs.map Int.toNat
      rw[List.map_map] at this
      have e:fd.map ((fun zs:List Int=>zs.map Int.toNat) ∘ nI)=fd:=by
       refine (List.map_congr_left fun x _=>?_).trans (List.map_id' fd)
       show (nI x).map Int.toNat=x
       unfold nI
       rw[List.map_map]
       exact (List.map_congr_left fun k _=>Zj k).trans (List.map_id' x)
      rwa [e] at this
    subst hw1
    have s3:=Zv.upd (H:=H') (o:=.lst (as.map V.ref)) nl
    refine q1 l as ws _ (sm.trans s3) ⟨Zs,by rw[hl,Za],fun i b hb=>?_⟩ hs ⟨hw2.nodup_iff.mpr Fl.nd,fun x=>by rw[hw2.mem_iff];exact Fl.all x⟩ (by rw[hw2.length_eq];exact f60)
    have h1:=s3 _ _ (ha i b hb)
    have hi:=(List.getElem?_eq_some_iff.mp hb).1
    rw[hl,Za] at hi
    rw[Zb,Zc,Zf hi] at h1
    rw[Zb,Zf hi]
    have h1:upd H' l (.lst (as.map V.ref)) b=some (.tup ((nI ws[i]).map V.int)):=h1
    rw[VT] at h1
    exact h1
  case turn=>
   rintro hend m σ' H' ⟨kvs,fd,ln,Fr,fs,v5,v6,v7,rfl,sm,hD,hK,TF,I,f60,hm⟩
   refine⟨_,rfl,_,.inl ⟨_,.of TF.1,rfl⟩,?_⟩
   by_cases hz:ln=[]
   ·subst hz
    have hfs:fs=[]:=List.length_eq_zero_iff.mp TF.2.1
    subst hfs
    exact Wj (by decide) (hend _ _ ⟨kvs,fd,_,v5,v6,v7,rfl,sm,hD,hK,I,f60⟩)
   ·have lpos:0<ln.length:=List.length_pos_iff.mpr hz
    have fne:fs≠[]:=fun z=>by rw[z] at TF;exact hz (List.length_eq_zero_iff.mp TF.2.1.symm)
    refine Yt (by rw[List.isEmpty_map];cases fs with|nil=>exact absurd rfl fne|cons a r=>rfl) ?_
    refine⟨_,fun _ _ z=>z,(by show 0<=sizeLine;decide),fun C nC=>?_⟩
    have sC:=Zv.upd (H:=H') (o:=.lst []) nC
    have nCH:H C=none:=sm.free nC
    have hDC:=sC _ _ hD
    have TFC:=TF.mono sC
    have smC:=sm.trans sC
    have hCC:=Zs (H:=H') (a:=C) (o:=.lst [])
    have CD:D≠C:=fun z=>by rw[z,nC] at hD;cases hD
    have CF:Fr≠C:=fun z=>by have:=TF.1;rw[z,nC] at this;cases this
    have DF:Fr≠D:=fun z=>by have:=TF.1;rw[z,hD] at this;cases this
    generalize upd H' C (.lst [])=HE at hDC TFC smC hCC ⊢
    have IP:QI gs n fd [] fun x=>x∈ln.drop 0:=⟨I.z,I.nd,I.rch,fun x hx=>(by cases hx),fun x hx hn he=>I.cl x hx he (fun z=>z)⟩
    refine⟨_,rfl,Fr,rfl,⟨_,.of TFC.1⟩,?_⟩
    refine W3 (H0:=upd (fun _=>none) Fr (.lst (fs.map V.ref))) (YF (K:=K) (.of Zs)) (fun i τ HH=>∃(kvs':List (List Z6×V)) (fd' cm:List (List Nat)) (cs:List Addr) (w6 w7:Option V),τ=[some (.ref b0),some (.ref g),some (.int 60),some (.ref D),some (.ref Fr),some (.ref C),w6,w7]/\Zv H HH/\HH D=some (.dT kvs')/\KP kvs' fd'/\ZA HH Fr fs ln/\ZA HH C cs cm/\QI gs n fd' cm (fun x=>x∈ln.drop i)/\(∀x∈fd,x∈fd')/\fd'.length=fd.length+cm.length/\fd'.length<=60)
     ⟨_,fd,[],[],_,_,rfl,smC,hDC,hK,TFC,⟨hCC,rfl,fun i b hb=>by cases hb⟩,IP,fun x hx=>hx,rfl,f60⟩ (fun i τ HH h=>by obtain⟨_,_,_,_,_,_,_,_,_,_,ht,_⟩:=h;exact VM ht.1) ?_ ?_
    ·rintro i y τ H8 hy ⟨kvs',fd',cm,cs,w6,w7,rfl,s8,hD8,hK8,TF8,TC8,I8,sub8,e8,f8⟩
     obtain⟨bx,x,rfl,hx,hbx⟩:=TF8.gt9 hy
     have hxl:=I.sub x (List.mem_of_getElem? hx)
     have hxr:=I.rch x hxl
     have hE8:=O.mono _ _ s8 hEv
     refine⟨g,oc,od,fdO,sl,rfl,hF _ hE8,_,rfl,hF _ hE8,psO,sp,OkF,Bd,hsp _ x bx _ hE8 hxr hbx fun L ls H9 s9 nL TL9=>?_⟩
     refine⟨L,rfl,⟨_,.of TL9.1⟩,?_⟩
     have CL:C≠L:=fun z=>by have:=TC8.1;rw[z,nL] at this;cases this
     have DL:D≠L:=fun z=>by rw[z,nL] at hD8;cases hD8
     refine W3 (H0:=upd (fun _=>none) L (.lst (ls.map V.ref))) (YF (K:=K) (.of Zs)) (fun j τ HH=>∃(kvs':List (List Z6×V)) (fd' cm:List (List Nat)) (cs:List Addr) (w7:Option V),τ=[some (.ref b0),some (.ref g),some (.int 60),some (.ref D),some (.ref Fr),some (.ref C),some (.ref bx),w7]/\Zv H HH/\HH D=some (.dT kvs')/\KP kvs' fd'/\ZA HH Fr fs ln/\ZA HH C cs cm/\ZA HH L ls (gs.map (Yu x))/\QI gs n fd' cm (fun x=>x∈ln.drop i)/\(∀x∈fd,x∈fd')/\fd'.length=fd.length+cm.length/\fd'.length<=60+j/\∀y∈(gs.map (Yu x)).take j,y∈fd')
      ⟨_,fd',cm,cs,_,rfl,s8.trans s9,s9 _ _ hD8,hK8,TF8.mono s9,TC8.mono s9,TL9,I8,sub8,e8,f8,fun y hy=>(by cases hy)⟩ (fun j τ HH h=>by obtain⟨_,_,_,_,_,_,_,_,_,_,_,hs,_⟩:=h;exact VM hs.1) ?_ ?_
     ·rintro j y0 τ H5 hy0 ⟨kvs5,fd5,cm5,cs5,w7,rfl,s5,hD5,hK5,TF5,TC5,TL5,I5,sub5,e5,f5,g5⟩
      obtain⟨bt,y,rfl,hy,hbt⟩:=TL5.gt9 hy0
      have hyo:=List.mem_of_getElem? hy
      have hjl:j<gs.length:=by have:=(List.getElem?_eq_some_iff.mp hy).1;rw[Za] at this;exact this
      obtain⟨gg,hgg,rfl⟩:=List.mem_map.mp hyo
      generalize hY:Yu x gg=y at hy hbt
      have hyr:W7 gs n y:=by rw[<-hY];exact .step hxr hgg
      have tk:∀z,z∈(gs.map (Yu x)).take (j+1)->z∈(gs.map (Yu x)).take j\/z=y:=fun z hz=>by
       rw[List.take_add_one,hy] at hz
       rcases List.mem_append.mp hz with h|h
       ·exact .inl h
       ·exact .inr (List.mem_singleton.mp h)
      refine⟨_,rfl,_,rfl,D,_,rfl,VC.t (k:=Z2 y) hD5 (by rw[Xe];exact hbt),_,rfl,?_⟩
      rw[hK5.some]
      refine Yh (fun hn=>?_) (fun hn=>?_)
      ·have hn:y∉fd5:=fun z=>by
        rw[List.contains_iff_mem.mpr z] at hn
        cases hn
       refine⟨_,rfl,_,rfl,D,_,rfl,ZbV.t (k:=Z2 y) hD5 (by rw[Xe];exact hbt) (by rw[hK5.len];omega),?_⟩
       have s6:Zv H (upd H5 D (.dT (Yw kvs5 (Z2 y) (.bl true)))):=s5.updr nD
       have hD6:=Zs (H:=H5) (a:=D) (o:=.dT (Yw kvs5 (Z2 y) (.bl true)))
       have hK6:=hK5.put (.bl true) hn
       have TF6:=TF5.updD (o:=.dT (Yw kvs5 (Z2 y) (.bl true))) hD5
       have TC6:=TC5.updD (o:=.dT (Yw kvs5 (Z2 y) (.bl true))) hD5
       have TL6:=TL5.updD (o:=.dT (Yw kvs5 (Z2 y) (.bl true))) hD5
       have hbt6:upd H5 D (.dT (Yw kvs5 (Z2 y) (.bl true))) bt=some (.tup (y.map nV)):=by rw[Zw (fun z=>by rw[<-z,hbt] at hD5;cases hD5)];exact hbt
       generalize upd H5 D (.dT (Yw kvs5 (Z2 y) (.bl true)))=H6 at s6 hD6 TF6 TC6 TL6 hbt6 ⊢
       have I6:=I5.add hn hyr
       refine⟨_,rfl,.inl ⟨rfl,_,.of TC6.1⟩,_,rfl,C,_,_,rfl,rfl,TC6.1,by rw[Za,TC6.2.1];omega,?_⟩
       refine⟨_,fd5++[y],cm5++[y],cs5++[bt],_,rfl,s6.updr nCH,by rw[Zw CD];exact hD6,hK6,TF6.updL CF TC6.1,TC6.push hbt6,TL6.updL (Ne.symm CL) TC6.1,I6,fun z hz=>List.mem_append_left _ (sub5 z hz),by rw[Zd,Zd];omega,by rw[Zd,Zk];omega,fun z hz=>?_⟩
       rcases tk z hz with h|h
       ·exact List.mem_append_left _ (g5 z h)
       ·rw[h];exact List.mem_append_right _ List.mem_cons_self
      ·have hn:y∈fd5:=by
        cases q:fd5.contains y with
        |true=>exact List.contains_iff_mem.mp q
        |false=>exact absurd (show (!fd5.contains y)=true by rw[q];rfl) (by simpa using hn)
       refine⟨_,fd5,cm5,cs5,_,rfl,s5,hD5,hK5,TF5,TC5,TL5,I5,sub5,e5,by omega,fun z hz=>?_⟩
       rcases tk z hz with h|h
       ·exact g5 z h
       ·rw[h];exact hn
     ·rintro τ H5 ⟨kvs5,fd5,cm5,cs5,w7,rfl,s5,hD5,hK5,TF5,TC5,TL5,I5,sub5,e5,f5,g5⟩
      rw[TL5.tlen,List.take_length] at g5
      refine⟨_,rfl,D,kvs5,rfl,.inl hD5,_,rfl,_,_,rfl,rfl,_,rfl,?_⟩
      rw[hK5.len]
      refine Yh (fun h60=>?_) (fun h60=>?_)
      ·exact q2 fd5 H5 s5 I5.nd I5.rch (by have:=of_decide_eq_true h60;omega)
      have f60':fd5.length<=60:=by have:=of_decide_eq_false (Bool.eq_false_iff.mpr h60);omega
      refine⟨kvs5,fd5,cm5,cs5,_,_,rfl,s5,hD5,hK5,TF5,TC5,⟨I5.z,I5.nd,I5.rch,I5.sub,fun z hz hn he=>?_⟩,sub5,e5,f60'⟩
      by_cases hzx:z=x
      ·rw[hzx];exact fun g hg=>g5 _ (List.mem_map.mpr ⟨g,hg,rfl⟩)
      ·exact I5.cl z hz hn fun hd=>(Uf hx hd).elim hzx he
    ·rintro τ H8 ⟨kvs',fd',cm,cs,w6,w7,rfl,s8,hD8,hK8,TF8,TC8,I8,sub8,e8,f8⟩
     rw[TF8.tlen,List.drop_length] at I8
     refine⟨_,rfl,?_⟩
     refine⟨2*(61-fd'.length)+cm.length,by omega,kvs',fd',cm,C,cs,_,_,_,rfl,s8,hD8,hK8,TC8,⟨I8.z,I8.nd,I8.rch,I8.sub,fun x hx hn _=>I8.cl x hx hn (by simp)⟩,f8,rfl⟩
end
abbrev Zcn:Stmt:=top 19
abbrev Vf:Stmt:=top 20
abbrev ZaC:Stmt:=top 33
theorem ZaZ {J:It}{own:List Str}{caps:List Nat}{te:TE}{σ:L2.St}{H:Hp}{Q:VK}{xs:List V}(S:Xo J H xs)(cs:L2.St)(hcs:XB own caps σ=none::cs)(g:Nat->V)(hz:xs.length<=1000000)
  (hs:∀(i:Nat) x H',xs[i]?=some x->Zv H H'->∀R:VK,(∀H5,Zv H' H5->R (g i) H5)->te (some x::cs) H' R)
  (hd:∀D H',H D=none->Zv H H'->H' D=some (.lst ((List.range xs.length).map g))->Q (.ref D) H'):Xt own caps (Yf 0) Js te σ Q J H:=by
 refine Uk (xs:=xs) (fun D i ys H'=>Zv H H'/\ys=(List.range i).map g) cs hcs hz ?_ ?_ ?_ ?_
 ·rintro D i ys H' hD hD' ⟨s,rfl⟩
  exact⟨fun hi=>⟨S.go i H' s hi,fun x H2 y=>S.yld i H' x H2 s hi y⟩,fun e=>e▸S.stop H' s⟩
 ·intro D hD
  exact⟨Zv.upd hD,rfl⟩
 ·rintro D i x ys H' hD hD' hx ⟨s,rfl⟩ R k
  refine hs i x H' hx s R fun H5 s5=>k _ H5 (s5 _ _ hD') ⟨(s.trans s5).updr hD,?_⟩
  rw[List.range_succ,List.map_append]
  rfl
 ·rintro D ys H' hD hD' hl ⟨s,rfl⟩
  exact hd D H' hD s hD'
def kvF (fd:List (List Nat))(m:Nat):List (List Z6×V):=(List.range m).map fun i=>(Z2 (fd.getD i []),.int (i:Nat))
theorem Zd5 (fd:List (List Nat))(m:Nat):(kvF fd m).length=m:=by unfold kvF;rw[Za,Zg]
theorem Zc4 {fd:List (List Nat)}(nd:fd.Nodup){a b:Nat}(ha:a<fd.length)(hb:b<fd.length)(h:fd.getD a []=fd.getD b []):a=b:=by
 have h1:=getL ha
 have h2:=getL hb
 rw[h,<-h2] at h1
 exact (List.getElem?_inj ha nd).mp h1
theorem Zd4 {fd:List (List Nat)}(nd:fd.Nodup){m:Nat}(hm:m<fd.length):Yw (kvF fd m) (Z2 (fd.getD m [])) (.int (m:Nat))=kvF fd (m+1):=by
 have:(kvF fd m).any (fun kv=>decide (kv.1=Z2 (fd.getD m [])))=false:=by
  rw[Bool.eq_false_iff]
  intro h
  rw[List.any_eq_true] at h
  obtain⟨kv,hkv,e⟩:=h
  obtain⟨i,hi,rfl⟩:=List.mem_map.mp hkv
  have hi:=List.mem_range.mp hi
  have:=Zc4 nd (by omega) hm (Xd (of_decide_eq_true e))
  omega
 unfold Yw
 rw[this]
 unfold kvF
 rw[List.range_succ,List.map_append]
 rfl
theorem ZgC {fd:List (List Nat)}{y:List Nat}(hy:y∈fd):fd.findIdx (· == y)<fd.length/\fd.getD (fd.findIdx (· == y)) []=y:=by
 have hl:fd.findIdx (· == y)<fd.length:=List.findIdx_lt_length.mpr ⟨y,hy,beq_self_eq_true y⟩
 refine⟨hl,?_⟩
 have:=List.findIdx_getElem (p:=(· == y)) (w:=hl)
 rw[Zb,Zf hl]
 exact eq_of_beq this
theorem Zd3 {fd:List (List Nat)}(nd:fd.Nodup){y:List Nat}(hy:y∈fd):We (kvF fd fd.length) (Z2 y)=some (.int (fd.findIdx (· == y):Nat)):=by
 obtain⟨p1,p2⟩:=ZgC hy
 unfold We kvF
 rw[List.find?_map]
 have:(List.range fd.length).find? ((fun kv:List Z6×V=>decide (kv.1=Z2 y)) ∘ fun i:Nat=>((Z2 (fd.getD i []),V.int (i:Nat)):List Z6×V))=some (fd.findIdx (· == y)):=by
  rw[List.find?_range_eq_some]
  refine⟨decide_eq_true (show Z2 (fd.getD (fd.findIdx (· == y)) [])=Z2 y by rw[p2]),List.mem_range.mpr p1,fun j hj=>?_⟩
  rw[Bool.not_eq_true']
  refine decide_eq_false fun h=>?_
  have:=Zc4 nd (by omega) p1 ((Xd h).trans p2.symm)
  omega
 rw[this]
 rfl
theorem Zat {fd:List (List Nat)}{i:Nat}(hi:i<fd.length):(Z7 fd).getD i []=(List.range fd.length).map fun j=>fd.findIdx (· == Yu (fd.getD i []) (fd.getD j [])):=by
 unfold Z7
 rw[Zb,Zc,getL hi]
 show fd.map (fun b=>fd.findIdx (· == Yu (fd.getD i []) b))=_
 refine List.ext_getElem? fun j=>?_
 rw[Zc,Zc]
 by_cases hj:j<fd.length
 ·rw[getL hj,List.getElem?_range hj]
  rfl
 ·rw[List.getElem?_eq_none (by omega),List.getElem?_eq_none (by rw[Zg];omega)]
  rfl
def Zcc:Sp:=fun vs H Q _=>∃(L:Addr) (bs:List Addr) (fd:List (List Nat)),vs=[.ref L]/\ZA H L bs fd/\fd.Nodup/\fd.length<=60/\∀D H',Zv H H'->H D=none->H' D=some (.dT (kvF fd fd.length))->Q (.ref D) H'
def Zb9 (P:Program)(w:World)(K:PySem.W.Frag)(mg:Str->Option Value)(base:Heap):Sp:=fun vs H Q _=>∃(L f:Addr) (bs:List Addr) (fd:List (List Nat)) (n:Nat),vs=[.ref L,.ref f]/\ZA H L bs fd/\fd.Nodup/\fd.length<=60/\(∀x∈fd,x.length=n/\∀i∈x,i<n)/\n<=24/\(∀x∈fd,∀y∈fd,Yu x y∈fd)/\
 (PySem.W.keepIn K (.ref f)=true/\∃fdD ps,ZY P w K mg base Yv 1 f fdD ps XH/\Binds K fdD ps [])/\∀r H',Zv H H'->CT H' r (Z7 fd)->Q (.ref r) H'
def Zeu:Sp:=fun vs H Q _=>∃(L:Addr) (bs:List Addr) (gs:List (List Nat)) (n:Nat),vs=[.ref L]/\ZA H L bs gs/\Xr gs n/\1<=gs.length/\gs.length<=10/\
 (∀L bs zss H',Zv H H'->ZA H' L bs zss->Srt zss->Jp gs n zss->zss.length<=60->Q (.ref L) H')/\∀(fd:List (List Nat)) H',Zv H H'->fd.Nodup->(∀x∈fd,W7 gs n x)->60<fd.length->Q .non H'
theorem UL {H:Hp}{L:Addr}{bs:List Addr}{fd:List (List Nat)}{Q:VK}(R:ZA H L bs fd)(h64:fd.length<64)(hne:∀y∈fd,y≠[])(q:∀D cs zss H',Zv H H'->H D=none->ZA H' D cs zss->Srt zss->List.Perm zss fd->Q (.ref D) H'):Zcu true [.ref L] H Q:=by
 have hl:bs.length=fd.length:=R.2.1
 refine⟨L,bs,fd.map nI,rfl,R.1,by rw[hl,Za],by omega,fun i a ha=>?_,fun D js nD pj hs=>?_⟩
 ·have hi:=(List.getElem?_eq_some_iff.mp ha).1
  have hi':i<fd.length:=by omega
  have h:=R.2.2 i a ha
  refine⟨nI (fd.getD i []),by rw[Zc,getL hi'];rfl,fun z=>?_,?_⟩
  ·refine hne _ (VW hi') ?_
   unfold nI at z
   exact List.map_eq_nil_iff.mp z
  ·show H a=some (.tup ((nI (fd.getD i [])).map V.int))
   rw[VT]
   exact h
 ·have hj:∀j∈js,j<fd.length:=fun j hj=>by
   have:=List.mem_range.mp (pj.mem_iff.mp hj)
   omega
  have s:=Zv.upd (H:=H) (o:=.lst ((js.map fun i=>bs.getD i 0).map V.ref)) nD
  refine q D (js.map fun i=>bs.getD i 0) (js.map fun i=>fd.getD i []) _ s nD ⟨Zs,by rw[Za,Za],fun i b hb=>?_⟩ ?_ ?_
  ·rw[Zc] at hb
   cases hji:js[i]? with
   |none=>rw[hji] at hb;cases hb
   |some j=>
    rw[hji] at hb
    have hb:bs.getD j 0=b:=Option.some.inj hb
    have hjl:=hj j (List.mem_of_getElem? hji)
    have hbj:bs[j]?=some (bs.getD j 0):=by rw[Zb,Zf (show j<bs.length by omega)];rfl
    have:=s _ _ (R.2.2 j _ hbj)
    rw[hb] at this
    rw[Zb (l:=js.map _),Zc,hji]
    exact this
  ·unfold Srt
   rw[List.map_map]
   have e:js.map (nI ∘ fun i=>fd.getD i [])=js.map fun i=>(fd.map nI).getD i []:=List.map_congr_left fun j hjm=>by
    show nI (fd.getD j [])=_
    rw[Zb (l:=fd.map nI),Zc,getL (hj j hjm)]
    rfl
   rw[e]
   exact hs
  ·have:=pj.map fun i=>fd.getD i []
   rw[hl] at this
   have e:(List.range fd.length).map (fun i=>fd.getD i [])=fd:=by
    refine List.ext_getElem? fun i=>?_
    rw[Zc]
    by_cases hi:i<fd.length
    ·rw[List.getElem?_range hi,getL hi];rfl
    ·rw[List.getElem?_eq_none (by rw[Zg];omega),List.getElem?_eq_none (by omega)];rfl
   rwa [e] at this
section
variable {P:Program}{w:World}{K:PySem.W.Frag}{mg:Str->Option Value}{base:Heap}
theorem ZdR {f:Addr}{fd:FuncData}(F:W8 K "numbered" "numbered" Zcn f fd)(T2:ZbW mg):ZY P w K mg base Yv 1 f fd ["things"] Zcc:=by
 refine F.ok (FS (N:=["things", "numbers", "k", "thing"])) (fun vs H Q E h=>?_) (fun cdv A outer s H vs Q E hr h=>?_)
 ·obtain⟨L,bs,fd,rfl,_⟩:=h;rfl
 ·obtain⟨L,bs,fd,rfl,R,nd,f60,q⟩:=h
  have hu:(A.deeper (envOfC "numbered" (ZB Zcn) s.heap.objs.size f cdv)).units+1<cLine:=by have:=hr.un;omega
  refine⟨_,Zx (ZZ 1 rfl ZcD) (Zx (Yr PassesOwn.never rfl (ZeM K T2.enumerate (pc (vn 0) Zt)) (g2 K 2 3 rfl (gn 2) (gn 3)) (Zy (ZaD hu (vn 1) (vn 3) (vn 2) (by rfl)))) (Zy (ZP (vn 1)))),?_⟩
  have sz:(16777216:Nat)=sizeLine:=by decide
  intro D nD
  have s1:=Zv.upd (H:=H) (o:=.dT []) nD
  have hD1:=Zs (H:=H) (a:=D) (o:=.dT [])
  generalize upd H D (.dT [])=H1 at s1 hD1 ⊢
  refine⟨_,rfl,L,rfl,.inl ⟨⟨_,.of (s1 _ _ R.1)⟩,?_⟩⟩
  refine Ua (Zc9 (K:=K) (xs:=bs.map V.ref)) (fun i σ' H'=>∃(v2 v3:Option V),σ'=[some (.ref L),some (.ref D),v2,v3]/\Zv H H'/\H' D=some (.dT (kvF fd i)))
   ⟨_,_,rfl,s1,hD1⟩ (fun i σ' H' h=>by
    obtain⟨_,_,_,sm,_⟩:=h
    exact .of (sm _ _ R.1)) ?_ ?_
  ·rintro i y σ' H3 T' hy ⟨v2,v3,rfl,s3,hD3⟩ nT
   obtain⟨b,x,rfl,hx,hb⟩:=R.gt9 hy
   have hil:i<fd.length:=(List.getElem?_eq_some_iff.mp hx).1
   have s4:=Zv.upd (H:=H3) (o:=.tup [.int (i:Nat),.ref b]) nT
   refine⟨T',_,rfl,.of Zs,rfl,_,_,rfl,_,_,rfl,rfl,?_⟩
   generalize upd H3 T' (.tup [.int (i:Nat),.ref b])=H4 at s4 ⊢
   refine⟨_,rfl,_,rfl,_,rfl,D,_,rfl,ZbV.t (k:=Z2 x) (s4 _ _ hD3) (by rw[Xe];exact s4 _ _ (s3 _ _ hb)) (by rw[Zd5];omega),?_⟩
   refine⟨_,_,rfl,(s3.trans s4).updr nD,?_⟩
   have ex:fd.getD i []=x:=by rw[Zb,hx];rfl
   rw[Zs,<-ex,Zd4 nd hil]
  ·rintro σ' H3 ⟨v2,v3,rfl,s3,hD3⟩
   rw[R.tlen] at hD3
   exact⟨_,rfl,q D H3 s3 nD hD3⟩
theorem ZdO {f:Addr}{fd:FuncData}(F:W8 K "tabled" "tabled" Vf f fd)(T:Bl mg)(GN:Fn P w K mg base Yv 1 "numbered" ["things"] Zcc):ZY P w K mg base Yv 2 f fd ["things", "product"] (Zb9 P w K mg base):=by
 refine F.ok (FS (N:=["things", "product", "numbers", "rows", "a"])) (fun vs H Q E h=>?_) (fun cdv A outer s H vs Q E hr h=>?_)
 ·obtain⟨L,f,bs,fd,n,rfl,_⟩:=h;rfl
 ·obtain⟨L,fp,bs,fd,n,rfl,R,nd,f60,hfd,n24,cl,⟨kp,fdD,psD,OkF,Bd⟩,q⟩:=h
  have hu:(A.deeper (envOfC "tabled" (ZB Vf) s.heap.objs.size f cdv)).units+1<cLine:=by have:=hr.un;omega
  refine⟨_,Zx (ZZ 2 rfl (WS GN hr ZS (pc (vn 0) Zt)))
   (Zx (ZZ 3 rfl (YM Zt))
   (Zx (Yr PassesOwn.never rfl (itL K (vn 0)) (gnf 4 rfl)
    (Zy (Y5 (Jw PySem.F.plainAttrs_list PySem.F.slot_list_append PySem.F.type_list_append Yi (vn 3) (pc (ct (tupK K) T.tuple (pc (cmp ["b"] [2,1,4] ["b", "numbers", "product", "a"] rfl (itL K (vn 0)) (fun _ _ _ _ _=>gn 0) (fun _ _ _ _ _=>Y6)
     (fun _ _ _ _ _=>ZdG hu (vn 1) (ck P w K mg base 2 (vn 2) (pc (vn 3) (pc (vn 0) Zt)) hr) (fun _ _=>rfl))) Zt)) Zt)))))
   (Zy (ZP (ct (tupK K) T.tuple (pc (vn 3) Zt)))))),?_⟩
  have sz:(16777216:Nat)=sizeLine:=by decide
  have bl:=R.tlen
  refine⟨_,rfl,L,bs,fd,rfl,R,nd,f60,fun D H1 s1 nD hD1=>?_⟩
  refine⟨(by show 0<=sizeLine;decide),fun Rw nR=>?_⟩
  have nRH:H Rw=none:=s1.free nR
  have DR:D≠Rw:=fun z=>by rw[z,nR] at hD1;cases hD1
  have s2:=Zv.upd (H:=H1) (o:=.lst []) nR
  have hR2:=Zs (H:=H1) (a:=Rw) (o:=.lst [])
  generalize upd H1 Rw (.lst [])=H2 at s2 hR2 ⊢
  have s12:=s1.trans s2
  refine⟨_,rfl,L,rfl,⟨_,.of (s12 _ _ R.1)⟩,?_⟩
  refine W3 (H0:=H) (YF (K:=K) (.of R.1)) (fun i σ' H'=>∃(rs:List Addr) (v4:Option V),σ'=[some (.ref L),some (.ref fp),some (.ref D),some (.ref Rw),v4]/\Zv H H'/\H' D=some (.dT (kvF fd fd.length))/\ZA H' Rw rs ((Z7 fd).take i))
   ⟨[],_,rfl,s12,s2 _ _ hD1,⟨hR2,rfl,fun i r hr=>by cases hr⟩⟩ (fun i σ' H' h=>by obtain⟨_,_,_,sm,_⟩:=h;exact sm) ?_ ?_
  ·rintro i y σ' H3 hy ⟨rs,v4,rfl,s3,hD3,R3⟩
   obtain⟨b,x,rfl,hx,hb⟩:=R.gt9 hy
   have hil:i<fd.length:=(List.getElem?_eq_some_iff.mp hx).1
   have ox:fd.getD i []=x:=by rw[Zb,hx];rfl
   have hxm:=List.mem_of_getElem? hx
   refine⟨_,rfl,.inl ⟨rfl,_,.of R3.1⟩,_,rfl,L,rfl,⟨_,.of (s3 _ _ R.1)⟩,?_⟩
   refine ZaZ (YF (K:=K) (.of (s3 _ _ R.1))) [some (.ref D),some (.ref fp),some (.ref b)] rfl (fun j=>nV (fd.findIdx (· == Yu x (fd.getD j [])))) (by rw[bl];omega) (fun j y' H4 hy' s4 R' k4=>?_) (fun D4 H4 nD4 s4 hD4=>?_)
   ·obtain⟨c,z,rfl,hz,hc⟩:=R.gt9 hy'
    have hzm:=List.mem_of_getElem? hz
    have oz:fd.getD j []=z:=by rw[Zb,hz];rfl
    have s34:=s3.trans s4
    refine⟨_,rfl,fp,fdD,psD,XH,rfl,kp,OkF,Bd,_,rfl,_,rfl,b,c,x,z,rfl,s34 _ _ hb,s34 _ _ hc,by rw[(hfd z hzm).1];omega,fun k hk=>by rw[(hfd x hxm).1];exact (hfd z hzm).2 k hk,fun r H5 s5 nr hr5=>?_⟩
    have dg:=VC.t (H:=H5) (k:=Z2 (Yu x z)) ((s4.trans s5) _ _ hD3) (by rw[Xe];exact hr5)
    rw[Zd3 nd (cl x hxm z hzm)] at dg
    refine⟨D,_,rfl,dg,?_⟩
    have:=k4 H5 s5
    rw[oz] at this
    exact this
   ·have e:(List.range (bs.map V.ref).length).map (fun j=>nV (fd.findIdx (· == Yu x (fd.getD j []))))=((Z7 fd).getD i []).map nV:=by
     rw[bl,Zat hil,ox,List.map_map]
     rfl
    rw[e] at hD4
    refine⟨D4,_,rfl,.inl ⟨.of hD4,fun z nz=>?_⟩⟩
    have s5:=s4.trans (Zv.upd (H:=H4) (o:=.tup (((Z7 fd).getD i []).map nV)) nz)
    have hz5:=Zs (H:=H4) (a:=z) (o:=.tup (((Z7 fd).getD i []).map nV))
    generalize upd H4 z (.tup (((Z7 fd).getD i []).map nV))=H5 at s5 hz5 ⊢
    have R5:=R3.mono s5
    refine⟨Rw,_,_,rfl,rfl,R5.1,by rw[Za,R5.2.1,List.length_take];omega,?_⟩
    have R6:=R5.push hz5
    have et:(Z7 fd).take i++[(Z7 fd).getD i []]=(Z7 fd).take (i+1):=by
     rw[List.take_add_one,getL (by unfold Z7;rw[Za];exact hil)]
     rfl
    rw[et] at R6
    refine⟨rs++[z],_,rfl,(s3.trans s5).updr nRH,by rw[Zw DR];exact s5 _ _ hD3,R6⟩
  ·rintro σ' H3 ⟨rs,v4,rfl,s3,hD3,R3⟩
   rw[bl,List.take_of_length_le (by unfold Z7;rw[Za];exact Zq _)] at R3
   refine⟨_,rfl,Rw,_,rfl,.inl ⟨.of R3.1,fun r nr=>?_⟩⟩
   have s4:=Zv.upd (H:=H3) (o:=.tup (rs.map V.ref)) nr
   exact q r _ (s3.trans s4) ⟨rs,Zs,R3.2.1,fun i b hb=>s4 _ _ (R3.2.2 i b hb)⟩
end
section
variable {P:Program}{w:World}{K:PySem.W.Frag}{mg:Str->Option Value}{base:Heap}
theorem Zfr {f:Addr}{fd:FuncData}(F:W8 K "_law_closed" "_law_closed" ZaC f fd)(T:Bl mg)(T2:ZbW mg):ZY P w K mg base Yv 1 f fd ["_law_perms"] Zeu:=by
 refine F.ok (FS (N:=["_law_perms", "_law_found", "_law_at", "_law_perm_here", "_law_other"])) (fun vs H Q E h=>?_) (fun cdv A outer s H vs Q E hr h=>?_)
 ·obtain⟨L,bs,gs,n,rfl,_⟩:=h;rfl
 ·obtain⟨L,gbs,gs,n,rfl,R0,G,g1,g10,q1,q2⟩:=h
  refine⟨_,Zx (ZZ 1 rfl (YM (pc (ct (Wr rfl) T.tuple (pc (ct Yp T.range (pc (cb (WL K) T.len (pc (ZO (ixL K) (vn 0) Zu (fun _ _=>rfl)) Zt)) Zt)) Zt)) Zt)))
   (Zx (ZZ 2 rfl Zu)
   (Zx (J3 PassesOwn.never (UT (ZF XO (vn 2) (cb (WL K) T.len (pc (vn 1) Zt)) (ZJ _)) (Vh (ZF XO (cb (WL K) T.len (pc (vn 1) Zt)) Zu (ZJ _)))).pt
   (Zx (Yr PassesOwn.never rfl (itL K (vn 0)) (gn 3)
   (Zx (ZZ 4 rfl (ct (tupK K) T.tuple (pc (cmp ["_law_place"] [1,2] ["_law_place", "_law_found", "_law_at"] rfl (itT K (vn 3)) (fun _ _ _ _ _=>gn 0) (fun _ _ _ _ _=>Y6) (fun _ _ _ _ _=>ZO (ixT K) (ZO (ixL K) (vn 1) (vn 2) (fun _ _=>rfl)) (vn 0) (fun _ _=>rfl))) Zt)))
   (Zy (Yn (ZF (Zgo K hr.units) (vn 4) (vn 1) (by rfl)) (Zy (Y5 (Jw PySem.F.plainAttrs_list PySem.F.slot_list_append PySem.F.type_list_append Yi (vn 1) (pc (vn 4) Zt)))) ZU))))
   (Zy (ZZ 2 rfl (ZX YA (vn 2) Zu)))))
   (Zy (ZP (W1 (ZF XO (cb (WL K) T.len (pc (vn 1) Zt)) Zu (ZJ _)) (cb (Zai true hr.units) T2.sorted (pc (vn 1) Zt)) J8))))),?_⟩
  have sz:(16777216:Nat)=sizeLine:=by decide
  have n1:=G.n1
  have n24:=G.n24
  obtain⟨b0,_,hat0,hb0⟩:=R0.get (i:=0) (by omega)
  have e0:((gs.getD 0 []).map nV).length=n:=by rw[Za];exact G.len _ (VW (by omega))
  refine⟨_,rfl,L,_,_,_,rfl,rfl,.of R0.1,hat0,b0,_,rfl,.inr (.of hb0),_,rfl,fun r0 hr0=>⟨r0,0,_,rfl,Zs,⟨by omega,by omega,by rw[e0];omega,by rw[e0];omega⟩,by rw[e0];omega,fun l hl=>?_⟩⟩
  rw[e0] at hl ⊢
  have ek:((n:Int)-0).toNat=n:=by omega
  rw[ek] at *
  have el:(Yg 0 n).map V.int=(List.range n).map nV:=Ze6 n
  rw[el] at *
  have s1:=(Zv.upd (H:=H) (o:=.rng 0 (n:Int)) hr0).trans (Zv.upd (o:=.tup ((List.range n).map nV)) hl)
  have hl1:=Zs (H:=upd H r0 (.rng 0 (n:Int))) (a:=l) (o:=.tup ((List.range n).map nV))
  generalize upd (upd H r0 (.rng 0 (n:Int))) l (.tup ((List.range n).map nV))=H1 at s1 hl1 ⊢
  refine⟨(by show 1<=sizeLine;decide),fun F0 hF0=>?_⟩
  have s2:=s1.trans (Zv.upd (H:=H1) (o:=.lst [.ref l]) hF0)
  have nF:H F0=none:=s1.free hF0
  have R1:ZA (upd H1 F0 (.lst [.ref l])) F0 [l] [List.range n]:=⟨Zs,rfl,fun i b hb=>by
   match i,hb with
   |0,hb=>cases hb;exact (Zv.upd (H:=H1) (o:=.lst [.ref l]) hF0) _ _ hl1
   |i+1,hb=>cases hb⟩
  generalize upd H1 F0 (.lst [.ref l])=H2 at s2 R1 ⊢
  have LF:L≠F0:=fun z=>by have:=R0.1;rw[z,nF] at this;cases this
  dsimp only[Yf,Za5]
  refine JO (fun m σ' H'=>∃(at':Nat) (bs:List Addr) (fd:List (List Nat)) (v3 v4:Option V),σ'=[some (.ref L),some (.ref F0),some (.int (at':Nat)),v3,v4]/\Zv H H'/\ZA H' F0 bs fd/\QI gs n fd (fd.drop at') (fun _=>False)/\at'<=fd.length/\at'<=61/\fd.length<=75/\m=70-at')
   (fun σ' H'=>∃(at':Nat) (bs:List Addr) (fd:List (List Nat)) (v3 v4:Option V),σ'=[some (.ref L),some (.ref F0),some (.int (at':Nat)),v3,v4]/\Zv H H'/\ZA H' F0 bs fd/\fd.Nodup/\(∀x∈fd,W7 gs n x)/\fd.length<=75/\(fd.length<61->Jp gs n fd)) ?hend ⟨_,0,[l],[List.range n],_,_,rfl,s2,R1,?i0,Nat.zero_le _,Nat.zero_le _,(by show 1<=75;decide),rfl⟩ ?turn
  case i0=>exact⟨by simp,by simp,fun x hx=>by rw[List.mem_singleton.mp hx];exact .start,fun x hx=>hx,fun x hx hn=>absurd hx hn⟩
  case turn=>
   rintro hend m σ' H' ⟨at',bs,fd,v3,v4,rfl,sm,R,I,ha,h61,f75,hm⟩
   have bl:=R.tlen
   refine⟨_,rfl,_,rfl,F0,_,rfl,.inl (.of R.1),_,_,rfl,rfl,_,rfl,?_⟩
   rw[bl]
   refine Yh (fun h1=>?_) (fun h1=>?_)
   ·have hat:at'<fd.length:=by
     have:=of_decide_eq_true h1
     omega
    refine⟨_,rfl,F0,_,rfl,.inl (.of R.1),_,_,rfl,rfl,_,rfl,?_⟩
    rw[bl]
    refine Yh (fun h2=>?_) (fun h2=>?_)
    ·have hlt:fd.length<61:=by
      have:=of_decide_eq_true h2
      omega
     have hcur:=getL hat
     have hcm:=VW hat
     have hcr:=I.rch _ hcm
     have hcl:=hcr.len G
     generalize hcu:fd.getD at' []=cur at *
     refine⟨_,fun _ _ z=>z,_,rfl,L,rfl,⟨_,.of (sm _ _ R0.1)⟩,?_⟩
     refine W3 (H0:=H) (YF (K:=K) (.of R0.1)) (fun i τ HH=>∃(bs':List Addr) (ex:List (List Nat)) (w3 w4:Option V),τ=[some (.ref L),some (.ref F0),some (.int at'),w3,w4]/\Zv H HH/\ZA HH F0 bs' (fd++ex)/\QI gs n (fd++ex) ((fd++ex).drop at') (fun _=>False)/\ex.length<=i/\∀g∈gs.take i,Yu cur g∈fd++ex)
      ⟨bs,[],v3,v4,rfl,sm,by rw[List.append_nil];exact R,by rw[List.append_nil];exact I,Zq _,fun g hg=>by cases hg⟩ (fun i τ HH h=>by obtain⟨_,_,_,_,_,h,_⟩:=h;exact h) ?_ ?_
     ·rintro i y τ HH hy ⟨bs',ex,w3,w4,rfl,sH,R',I',el',g5⟩
      obtain⟨b,gp,rfl,hgi,hb0'⟩:=R0.gt9 hy
      have hgm:=List.mem_of_getElem? hgi
      have hil:i<gs.length:=(List.getElem?_eq_some_iff.mp hgi).1
      have hbH:=sH _ _ hb0'
      have gl:=G.len gp hgm
      have hat2:at'<(fd++ex).length:=by rw[Zd];omega
      have ecur:(fd++ex).getD at' []=cur:=by rw[Zb,List.getElem?_append_left hat,hcur];rfl
      have tk:∀g,g∈gs.take (i+1)->g∈gs.take i\/g=gp:=fun z hz=>by
       rw[List.take_add_one,hgi] at hz
       rcases List.mem_append.mp hz with h|h
       ·exact .inl h
       ·exact .inr (List.mem_singleton.mp h)
      refine⟨_,rfl,b,rfl,⟨_,.of hbH⟩,?_⟩
      refine W4 (WV (.of hbH)) [some (.ref F0),some (.int at')] rfl (Zab cur) (by rw[Za,gl];omega) (fun j x HC hx sC R'' g2=>?_) (fun D HD nD sD hD=>?_)
      ·obtain⟨c,hc,rfl⟩:=U1 hx
       have hck:c<n:=G.lt gp hgm c (List.mem_of_getElem? hc)
       obtain⟨bC,_,hatC,hbC⟩:=(R'.mono sC).get hat2
       rw[ecur] at hbC
       refine⟨_,rfl,_,rfl,F0,_,_,_,rfl,rfl,.of (sC _ _ R'.1),hatC,_,rfl,bC,_,_,_,rfl,rfl,.of hbC,Zgl (by omega),?_⟩
       have:=g2 HC (Zv.refl _)
       have e:Zab cur (.int (c:Nat))=nV (cur.getD c 0):=by
        show nV (cur.getD (c:Int).toNat 0)=_
        rw[Zj]
       rw[e] at this
       exact this
      ·rw[Xj] at hD
       refine⟨D,_,rfl,.inl ⟨.of hD,fun tp ntp=>?_⟩⟩
       have sE:=sD.trans (Zv.upd (o:=.tup ((Yu cur gp).map nV)) ntp)
       have hE:upd HD tp (.tup ((Yu cur gp).map nV)) tp=some (.tup ((Yu cur gp).map nV)):=Zs
       generalize upd HD tp (.tup ((Yu cur gp).map nV))=HE at sE hE ⊢
       have RE:=R'.mono sE
       have hyr:W7 gs n (Yu cur gp):=.step hcr hgm
       generalize hO:Yu cur gp=ot at *
       generalize hZ:fd++ex=zs at *
       have ey:(zs.map fun ns=>PyData.tuple ((nI ns).map PyData.int))=(zs.map nI).map fun ns=>PyData.tuple (ns.map PyData.int):=by rw[List.map_map];rfl
       have zl:=RE.2.1
       have zl2:zs.length=fd.length+ex.length:=by rw[<-hZ,Zd]
       refine⟨_,rfl,_,rfl,F0,_,(zs.map fun ns=>PyData.tuple ((nI ns).map PyData.int)),.tuple ((nI ot).map PyData.int),rfl,.inl (.of RE.1),JG _ _ RE.2.1 RE.2.2,.tup (.of (by rw[VT];exact hE)) (Yc.ints _),by rw[ey];exact Wq _,WQ _,X0 _,_,rfl,?_⟩
       rw[if_pos rfl,Vy]
       refine Yh (fun h2=>?_) (fun h2=>?_)
       ·have h2:zs.contains ot=false:=by simpa using h2
        have hn:ot∉zs:=fun z=>by rw[List.contains_iff_mem.mpr z] at h2;cases h2
        refine⟨_,rfl,.inl ⟨rfl,_,.of RE.1⟩,_,rfl,F0,_,_,rfl,rfl,RE.1,by rw[Za];omega,?_⟩
        have I6:=I'.add hn hyr
        have ed:zs.drop at'++[ot]=(zs++[ot]).drop at':=by rw[List.drop_append_of_le_length (by omega)]
        rw[ed] at I6
        refine⟨bs'++[tp],ex++[ot],_,_,rfl,(sH.trans sE).updr nF,?_,?_,by rw[Zd,Zk];omega,fun g hg=>?_⟩
        ·rw[<-List.append_assoc,hZ];exact RE.push hE
        ·rw[<-List.append_assoc,hZ];exact I6
        ·rw[<-List.append_assoc,hZ]
         rcases tk g hg with h|h
         ·exact List.mem_append_left _ (g5 g h)
         ·rw[h,hO];exact List.mem_append_right _ List.mem_cons_self
       ·have h2:zs.contains ot=true:=by simpa using h2
        have hn:=List.contains_iff_mem.mp h2
        refine⟨bs',ex,_,_,rfl,sH.trans sE,by rw[hZ];exact RE,by rw[hZ];exact I',by omega,fun g hg=>?_⟩
        rw[hZ]
        rcases tk g hg with h|h
        ·exact g5 g h
        ·rw[h,hO];exact hn
     ·rintro τ HH ⟨bs',ex,w3,w4,rfl,sH,R',I',el',g5⟩
      rw[R0.tlen] at el' g5
      rw[List.take_length] at g5
      have hcur2:(fd++ex)[at']?=some cur:=by rw[List.getElem?_append_left hat,hcur]
      refine⟨_,rfl,_,_,rfl,rfl,70-(at'+1),by omega,at'+1,bs',fd++ex,w3,w4,rfl,sH,R',⟨I'.z,I'.nd,I'.rch,fun x hx=>List.mem_of_mem_drop hx,fun x hx hn _=>?_⟩,by rw[Zd];omega,by omega,by rw[Zd];omega,rfl⟩
      by_cases hxc:x=cur
      ·rw[hxc];exact g5
      ·exact I'.cl x hx (fun hd=>(Uf hcur2 hd).elim hxc hn) (fun z=>z)
    ·have hge:¬fd.length<61:=fun z=>h2 (decide_eq_true (by omega))
     exact hend _ _ ⟨at',bs,fd,v3,v4,rfl,sm,R,I.nd,I.rch,f75,fun z=>absurd z hge⟩
   ·have hat:fd.length<=at':=by
     have:=of_decide_eq_false (Bool.eq_false_iff.mpr h1)
     omega
    rw[List.drop_eq_nil_of_le hat] at I
    exact hend _ _ ⟨at',bs,fd,v3,v4,rfl,sm,R,I.nd,I.rch,f75,fun _=>I.full⟩
  case hend=>
   rintro σ' H1 ⟨at',bs,fd,v3,v4,rfl,sm,R,nd,rch,f75,full⟩
   have bl:=R.tlen
   refine⟨_,rfl,F0,_,rfl,.inl (.of R.1),_,_,rfl,rfl,_,rfl,?_⟩
   rw[bl]
   refine Yh (fun h=>?_) (fun h=>?_)
   ·have h:=of_decide_eq_true h
    have Fl:=full (by omega)
    refine⟨_,rfl,UL R (by omega) (fun y hy z=>?_) fun D cs zss H' s' nD R' hs pz=>?_⟩
    ·have:=(rch y hy).len G
     rw[z] at this
     simp at this
     omega
    ·exact q1 D cs zss H' (sm.trans s') R' hs ⟨pz.nodup_iff.mpr Fl.nd,fun x=>by rw[pz.mem_iff];exact Fl.all x⟩ (by rw[pz.length_eq];omega)
   ·have h:=of_decide_eq_false (Bool.eq_false_iff.mpr h)
    exact q2 fd H1 sm nd rch (by omega)
end
end C9
namespace L2
open PySem PySem.Spec PyProof.Rows
section
variable {K:PySem.W.Frag}{x:Str}{C N T U:Addr}{es et:Array DictEntry}{nm q:Str}{bs:List Value}{sn:List Str}{sb:List Value}{ab:Bool}{cl:Option Bool}{dd:Option Addr}{k0 k1 k2 k3 k5:Option Value}{c:Value}{d:Option Addr}{ep:Nat}{sl:Array (Option Value)}
theorem Vz.mk' (a:PySem.W.nsIn K mainGlobals "TableError"=some (some (.ref T)))(l:K.lookup T=some (excClassObj nm q T U bs PyX.VE true sn sb ab cl dd k0 k1 k2 k3 k5 PyX.YE))(n:K.lookup U=some ⟨c,d,.dict et ep,sl⟩)(kp:PySem.W.keepIn K (.ref T)=true)
  (o:(Ym et && Wi et ("__init__" :: (ZH++Z3)))=true):Vz K T U et:=by
 rw[Bool.and_eq_true] at o
 exact⟨.mk' a l n kp o.1,o.2⟩
theorem Yq.mk' (a:PySem.W.nsIn K mainGlobals x=some (some (.ref C)))(l:K.lookup C=some (excClassObj nm q C N bs (.ref T::PyX.VE) true sn sb ab cl dd k0 k1 k2 k3 k5 PyX.YE))(n:K.lookup N=some ⟨c,d,.dict es ep,sl⟩)(kp:PySem.W.keepIn K (.ref C)=true)
  (o:(Ym es && Wi es (ZH++Z3))=true):Yq K x T U et ⟨C,N,es⟩:=by
 rw[Bool.and_eq_true] at o
 exact⟨.mk' a l n kp o.1,o.2⟩
def JE (K:PySem.W.Frag)(x:Str)(T U:Addr)(et:Array DictEntry)(e:Ec):Prop:=Yq K x T U et e/\nsFind e.es "__init__"=none
theorem JE.mk (a:PySem.W.nsIn K mainGlobals x=some (some (.ref C)))(l:K.lookup C=some (excClassObj nm q C N bs (.ref T::PyX.VE) true sn sb ab cl dd k0 k1 k2 k3 k5 PyX.YE))(n:K.lookup N=some ⟨c,d,.dict es ep,sl⟩)(kp:PySem.W.keepIn K (.ref C)=true)
  (o:(Ym es && Wi es (ZH++Z3) && Wi es ["__init__"])=true):JE K x T U et ⟨C,N,es⟩:=by
 rw[Bool.and_eq_true] at o
 exact⟨.mk' a l n kp o.1,ZI o.2 (by simp)⟩
theorem Zbn {K:PySem.W.Frag}{N:Addr}{c:Value}{d:Option Addr}{es:Array DictEntry}{ep:Nat}{sl:Array (Option Value)}(n:K.lookup N=some ⟨c,d,.dict es ep,sl⟩){x:Str}{v:Value}(e:PySem.W.nsIn K N x=some (some v)):nsFind es x=some v:=by
 unfold PySem.W.nsIn at e
 rw[n] at e
 dsimp only at e
 unfold nsFind findBy
 rw[<-Array.find?_toList]
 split at e
 ·rename_i en he;cases e;rw[he];rfl
 ·split at e <;> cases e
def Zel (K:PySem.W.Frag)(x:Str)(T U:Addr)(et:Array DictEntry)(qual:Str)(st:Stmt)(e:Ec):Prop:=Yq K x T U et e/\Ux K e qual st
theorem Zel.mk {qual:Str}{st:Stmt}{f:Addr}{od an:Option Addr}{osl:Array (Option Value)}{kV doc pm cdv ct:Value}(a:PySem.W.nsIn K mainGlobals x=some (some (.ref C)))(l:K.lookup C=some (excClassObj nm q C N bs (.ref T::PyX.VE) true sn sb ab cl dd k0 k1 k2 k3 k5 PyX.YE))
  (n:K.lookup N=some ⟨c,d,.dict es ep,sl⟩) (kp:PySem.W.keepIn K (.ref C)=true) (o:(Ym es && Wi es (ZH++Z3))=true) (ai:PySem.W.nsIn K N "__init__"=some (some (.ref f)))
  (li:K.lookup f=some ⟨.type "function",od,.func (PySem.W.fnOf "__init__" qual (Z0 st) (ZL st) (ZB st) .none kV doc pm an cdv ct),osl⟩) (ci:PySem.W.codeIn K cdv qual=true) (ki:PySem.W.keepIn K (.ref f)=true):Zel K x T U et qual st ⟨C,N,es⟩:=
 ⟨.mk' a l n kp o,.mk (Zbn n ai) li ci ki⟩
end
end L2
namespace C9
open PySem L2 PySem.Spec PyProof.Rows
open Tb
def Zdf:Nat->Str
 |0 => "NoGroup" |1 => "NoTable" |2 => "NoShares" |3 => "NoPerm" |4 => "NoLines" |5 => "NoAlike" |6 => "NoName" |7 => "TooMany" |8 => "NoOrder" |9 => "NoPart" |10 => "NoText" |_ => "NoRow"
structure Cs (K:PySem.W.Frag)(mg:Str->Option Value)(T U:Addr)(et:Array DictEntry)(c:Nat->Ec):Prop where
 tb:Vz K T U et
 ok:∀k,k<12->Yq K (Zdf k) T U et (c k)
 mgT:mg "TableError"=some (.ref T)
 mgC:∀k,k<12->mg (Zdf k)=some (.ref (c k).C)
 inj:∀j k,j<12->k<12->(c j).C=(c k).C->j=k
 neT:∀k,k<12->(c k).C≠T
 pl:∀k,7<=k->k<12->nsFind (c k).es "__init__"=none
abbrev fVE:ExcBaseFacts "ValueError" PyX.YE "ValueError.__init__" PyX.VE:=F.excBase_ValueError
def ZaV (T:Addr)(l:List Addr):Bool:=match l with
 | []=>true
 |a::r=>!(a == T) && !(r.contains a) && ZaV T r
theorem ZaU {T:Addr}:∀{l:List Addr},ZaV T l=true->(∀j k:Nat,∀a:Addr,l[j]?=some a->l[k]?=some a->j=k)/\∀a∈l,a≠T
 | [],_=>⟨fun j k a h=>by simp at h,fun a h=>by cases h⟩
 |b::r,h=>by
  unfold ZaV at h
  simp only[Bool.and_eq_true,Bool.not_eq_true'] at h
  obtain⟨⟨h1,h2⟩,h3⟩:=h
  obtain⟨i1,i2⟩:=ZaU h3
  have nb:b∉r:=fun z=>by
   have:=List.contains_iff_mem.mpr z
   rw[h2] at this;cases this
  refine⟨fun j k a hj hk=>?_,fun a ha=>?_⟩
  ·cases j with
   |zero=>
    cases k with
    |zero=>rfl
    |succ k=>
     have e:b=a:=by simpa using hj
     subst e
     have hk':r[k]?=some b:=by simpa using hk
     exact absurd (List.mem_of_getElem? hk') nb
   |succ j=>
    cases k with
    |zero=>
     have e:b=a:=by simpa using hk
     subst e
     have hj':r[j]?=some b:=by simpa using hj
     exact absurd (List.mem_of_getElem? hj') nb
    |succ k=>rw[i1 j k a (by simpa using hj) (by simpa using hk)]
  ·rcases List.mem_cons.mp ha with rfl|ha
   ·intro z;subst z;simp at h1
   ·exact i2 a ha
def Ut (l:List Ec)(k:Nat):Ec:=l.getD k ⟨0,0,#[]⟩
theorem Vw {l:List Ec}{k:Nat}(h:k<l.length):(l.map Ec.C)[k]?=some (Ut l k).C:=by
 unfold Ut
 rw[Zc,Zb,Zf h]
 rfl
theorem k12 {k:Nat}(h:k<12):k=0\/k=1\/k=2\/k=3\/k=4\/k=5\/k=6\/k=7\/k=8\/k=9\/k=10\/k=11:=by omega
structure BlV (mg:Str->Option Value):Prop where
 ve:mg "ValueError"=none
section
variable {P:Program}{w:World}{K:PySem.W.Frag}{mg:Str->Option Value}{base:Heap}{T U:Addr}{et:Array DictEntry}{c:Nat->Ec}
theorem Cs.kit (S:Cs K mg T U et c){j k:Nat}(hj:j<12)(hk:k<12):PySem.W.kitOne K (.ref (c k).C) (.ref (c j).C)=some (decide (j=k)):=by
 rw[(S.ok k hk).c.kitR (S.ok j hj).c]
 have e1:(Value.ref (c j).C == Value.ref T)=false:=by
  refine Bool.eq_false_iff.mpr fun q=>S.neT j hj (Value.ref.inj (beq_iff_eq.mp q))
 congr 1
 rw[List.contains_cons,List.contains_cons,e1]
 by_cases q:j=k
 ·subst q;simp
 ·have e2:(Value.ref (c j).C == Value.ref (c k).C)=false:=Bool.eq_false_iff.mpr fun z=>q (S.inj j k hj hk (Value.ref.inj (beq_iff_eq.mp z)))
  rw[e2,decide_eq_false q]
  rfl
def Zhj (c:Nat->Ec):List V->Hp->VK->Prop:=fun xs H Q=>∃a k j d,xs=[.ref a,.ref (c j).C]/\k<12/\j<12/\H a=some (XZ a (c k).C d)/\Q (.bl (decide (j=k))) H
theorem isE {X:Cx}(S:Cs K mg T U et c)(hI:K.In base)(hK:X.K=K:=by rfl)(hB:X.base=base:=by rfl):ZR X (.builtin "isinstance") (Zhj c):=by
 subst hK hB
 intro pins s σ H xs us Q I r h
 obtain⟨a,k,j,d,rfl,hk,hj,ha,q⟩:=h
 obtain⟨cd,h1,_⟩:=(S.ok k hk).c.cls
 refine Ur pins s σ H _ us Q I r ⟨a,_,d,_,T,U,_,_,_,cd,_,_,rfl,ha,h1,(S.ok k hk).noC S.tb,(S.ok k hk).two S.tb hI,fun cv rc=>?_,q⟩
 cases (show cv=Value.ref _ from rc)
 exact S.kit hj hk
def Zhh (c:Nat->Ec):List V->Hp->VK->Prop:=fun xs H Q=>∃a k d,xs=[.ref a,.ty "ValueError"]/\k<12/\H a=some (XZ a (c k).C d)/\Q (.bl true) H
theorem isV {X:Cx}(S:Cs K mg T U et c)(hI:K.In base)(hK:X.K=K:=by rfl)(hB:X.base=base:=by rfl):ZR X (.builtin "isinstance") (Zhh c):=by
 subst hK hB
 intro pins s σ H xs us Q I r h
 obtain⟨a,k,d,rfl,hk,ha,q⟩:=h
 obtain⟨cd,h1,_⟩:=(S.ok k hk).c.cls
 refine Ur pins s σ H _ us Q I r ⟨a,_,d,_,T,U,_,_,_,cd,_,_,rfl,ha,h1,(S.ok k hk).noC S.tb,(S.ok k hk).two S.tb hI,fun cv rc=>?_,q⟩
 cases (show cv=Value.type "ValueError" from rc)
 exact (S.ok k hk).c.kitV
theorem Cs.any (S:Cs K mg T U et c){k:Nat}(hk:k<12):∀(js:List Nat) (its:List Value),(∀j∈js,j<12)->ZC (js.map fun j=>V.ref (c j).C) its->PySem.W.kitAny K (.ref (c k).C) its=some (js.any fun j=>decide (j=k))
 | [],its,_,h=>by cases h;rfl
 |j::js,its,hl,h=>by
  cases h with
  |cons r rs=>
   cases (show _=Value.ref (c j).C from r)
   have ih:=S.any hk js _ (fun i hi=>hl i (List.mem_cons_of_mem _ hi)) rs
   have h1:=S.kit (hl j List.mem_cons_self) hk
   unfold PySem.W.kitAny
   rw[h1,List.any_cons]
   by_cases e:j=k
   ·rw[decide_eq_true e];rfl
   ·rw[decide_eq_false e];exact ih
def Zhi (c:Nat->Ec):List V->Hp->VK->Prop:=fun xs H Q=>∃(a:Addr) (k:Nat) (d:Option Addr) (tp:Addr) (js:List Nat),xs=[.ref a,.ref tp]/\k<12/\(∀j∈js,j<12)/\H a=some (XZ a (c k).C d)/\H tp=some (.tup (js.map fun j=>V.ref (c j).C))/\Q (.bl (js.any fun j=>decide (j=k))) H
theorem isT {X:Cx}(S:Cs K mg T U et c)(hI:K.In base)(hK:X.K=K:=by rfl)(hB:X.base=base:=by rfl):ZR X (.builtin "isinstance") (Zhi c):=by
 subst hK hB
 intro pins s σ H xs us Q I r h
 obtain⟨a,k,d,tp,js,rfl,hk,hj,ha,ht,q⟩:=h
 obtain⟨cd,h1,_⟩:=(S.ok k hk).c.cls
 exact ZbR pins s σ H _ us Q I r ⟨a,_,d,_,T,U,_,_,_,cd,tp,_,_,rfl,ha,ht,h1,(S.ok k hk).noC S.tb,(S.ok k hk).two S.tb hI,fun its rv=>S.any hk js its hj rv,q⟩
theorem clv {X:Cx}{x:Str}{C:Addr}{pos:Pos}(hm:X.mg x=some (.ref C))(hg:Z9 X.env.scope x=true:=by kernel_rfl)(hd:(x == ("__debug__":Str))=false:=by kernel_rfl):PE X (.Name x pos) (tC (.ref C)):=Vi (YZ hg) hm rfl hd
theorem Cs.catchR {X:Cx}(S:Cs K mg T U et c)(hI:K.In base){k:Nat}(hk:k<12){i:Nat}{ts:TS}{D:Wx}{d:Option Addr}{H:Hp}(hB:X.base=base)
  (h:∀a,H a=none->ts (ZfF D i) ((noSt X).set i (some (.ref a))) (upd H a (XZ a (c k).C d))):UF X T i ts D (.ref (c k).C) d H:=by
 subst hB
 have two:=(S.ok k hk).two S.tb hI
 refine⟨_,_,_,_,_,_,rfl,two.c.ex,two.t.ex,rfl,?_,h⟩
 rw[List.contains_cons,List.contains_cons]
 simp
end
end C9
namespace C9
open PySem L2 PySem.Spec PyProof.Rows
section
variable {P:Program}{w:World}{K:PySem.W.Frag}{mg:Str->Option Value}{base:Heap}
theorem ZfE (ds:List PyData):PyData.eqv (.list ds) (.list [])=ds.isEmpty:=by
 cases ds with
 |nil=>rfl
 |cons d r=>rfl
theorem Zay {ds:List PyData}(h:∀d∈ds,d.canLay0=true/\d.depth<=10):SeqAt.shaped (.list ds)=true:=by
 have h1:PyData.canLayAll0 ds=true/\PyData.depthAll ds<=10:=by
  induction ds with
  |nil=>exact⟨rfl,Nat.zero_le _⟩
  |cons d r ih=>
   obtain⟨a,b⟩:=ih fun e he=>h e (List.mem_cons_of_mem _ he)
   obtain⟨c,e⟩:=h d List.mem_cons_self
   exact⟨by simp only[PyData.canLayAll0,c,a,Bool.and_self],by simp only[PyData.depthAll];omega⟩
 unfold SeqAt.shaped
 rw[Bool.and_eq_true]
 have h2:(PyData.list ds).depth<=64:=by simp only[PyData.depth];omega
 exact⟨by simp only[PyData.canLay0];exact h1.1,decide_eq_true h2⟩
theorem Xi {α:Type}(p:α->Bool):∀xs:List α,(xs.filter fun y=>!p y).isEmpty=xs.all p
 | []=>rfl
 |x::r=>by
  rw[List.filter_cons,List.all_cons]
  cases p x with
  |true=>simpa using Xi p r
  |false=>rfl
theorem Ub {H:Hp}:∀{xs:List V},(∀y∈xs,El K H y)->∃ds,Yc K H xs ds/\ds.length=xs.length/\∀d∈ds,d.canLay0=true/\d.depth<=10
 | [],_=>⟨[],.nil,rfl,fun d h=>by cases h⟩
 |x::r,h=>by
  obtain⟨ds,a,b,c⟩:=Ub (xs:=r) fun y hy=>h y (List.mem_cons_of_mem _ hy)
  obtain⟨n,d,_,e1,e2⟩:=h x List.mem_cons_self
  refine⟨d::ds,.cons e1 a,by rw[Zi,Zi,b],fun e he=>?_⟩
  rcases List.mem_cons.mp he with rfl|he
  ·exact e2
  ·exact c e he
theorem Xf {α β:Type}{xs:List α}{ys:List β}(h:xs.length=ys.length):xs.isEmpty=ys.isEmpty:=by
 cases xs <;> cases ys <;> first|rfl|cases h
end
theorem Wk (k:Int):∀ns:List Int,inV (.int k) (ns.map V.int)=decide (k∈ns)
 | []=>by simp[inV]
 |n::r=>by
  have ih:=Wk k r
  unfold inV at ih ⊢
  rw[List.map_cons,List.any_cons,ih]
  by_cases e:n=k
  ·subst e
   have:eqV (.int n) (.int n)=true:=by simp[eqV]
   rw[this];simp
  ·have h1:eqV (.int n) (.int k)=false:=by simp[eqV,e]
   have h2:¬k=n:=fun z=>e z.symm
   rw[h1];simp[h2]
theorem ZcA (o:Option (List V)):WZ o=Zft o:=by
 cases o with
 |none=>rfl
 |some xs=>
  simp only[WZ,Zft]
  congr 1
  congr 1
  by_cases hi:xs.all Vr=true
  ·have hx:=WC hi
   have hl:=Jh hi
   generalize XY xs=ns at hx hl
   subst hx
   rw[hi,Bool.true_and]
   rw[Za]
   rw[Bool.eq_iff_iff]
   simp only[Bool.and_eq_true,decide_eq_true_eq,List.all_eq_true]
   have h1:(∀x∈ns.map V.int,Uc (ns.length:Int) x=true)↔∀z∈ns,0<=z/\z<ns.length:=by
    constructor
    ·intro h z hz
     have:=h (.int z) (List.mem_map.mpr ⟨z,hz,rfl⟩)
     simpa [Uc] using this
    ·intro h x hx
     obtain⟨z,hz,rfl⟩:=List.mem_map.mp hx
     simpa [Uc] using h z hz
   rw[h1,ZcB]
   constructor
   ·intro h k hk
    rw[Wk,decide_eq_true_eq]
    exact h k (List.mem_range.mp hk)
   ·intro h k hk
    have:=h k (List.mem_range.mpr hk)
    rw[Wk,decide_eq_true_eq] at this
    exact this
  ·have h1:xs.all (Uc (xs.length:Int))=false:=by
    cases q:xs.all (Uc (xs.length:Int)) with
    |false=>rfl
    |true=>exact absurd (Za1 q) hi
   have h2:xs.all Vr=false:=by simpa using hi
   rw[h1,h2];rfl
theorem Zda {K:PySem.W.Frag}{H:Hp}(i:Int):El K H (.int i):=⟨"int",.int i,⟨.int i,by decide⟩,.int i,rfl,Nat.zero_le _⟩
theorem ZeN {K:PySem.W.Frag}{H:Hp}(b:Bool):El K H (.bl b):=⟨"bool",.bool b,⟨.bl b,by decide⟩,.bl b,rfl,Nat.zero_le _⟩
section
variable {P:Program}{w:World}{K:PySem.W.Frag}{mg:Str->Option Value}{base:Heap}
end
end C9
namespace C9
open PySem L2 PySem.Spec PyProof.Rows
open Tb Pm
abbrev ZeA:Stmt:=top 26
def iV:Option Nat->V
 |some n=>.int (n:Nat)
 |none=>.bl true
def iD:Option Nat->PyData
 |some n=>.int (n:Nat)
 |none=>.bool true
inductive Tg (H:Hp) (p:Addr):V->Option (List (Option Nat))->PyData->Prop where
 |tup {a:Addr}{ps:List (Option Nat)} (h:H a=some (.tup (ps.map iV))) (hl:ps.length<=24) (hs:∀n,some n∈ps->n<=100):Tg H p (.ref a) (some ps) (.tuple (ps.map iD))
 |lst {a:Addr} (h:H a=some (.lst [.int 0,.int 1])) (ne:a≠p):Tg H p (.ref a) none (.list [.int 0,.int 1])
 |non:Tg H p .non none .none
 |str:Tg H p (.str "") none (.str "")
theorem Tg.mono {H H':Hp}{p:Addr}{x:V}{o:Option (List (Option Nat))}{d:PyData}(s:Zv H H')(h:Tg H p x o d):Tg H' p x o d:=by
 cases h with
 |tup h hl hs=>exact .tup (s _ _ h) hl hs
 |lst h ne=>exact .lst (s _ _ h) ne
 |non=>exact .non
 |str=>exact .str
theorem Tg.dr {H H':Hp}{p:Addr}{x:V}{o:Option (List (Option Nat))}{d:PyData}(F:YD H p)(s:Dr p H H')(h:Tg H p x o d):Tg H' p x o d:=by
 cases h with
 |tup h hl hs=>exact .tup (s.tup F h) hl hs
 |lst h ne=>exact .lst (s.keep _ _ h ne) ne
 |non=>exact .non
 |str=>exact .str
theorem Tg.bt {H H':Hp}{p Pt:Addr}{x:V}{o:Option (List (Option Nat))}{d:PyData}{pos:Pos}{qual:Str}(TB:Ja H Pt pos qual)(s:Bt Pt H H')(h:Tg H p x o d):Tg H' p x o d:=by
 cases h with
 |tup h hl hs=>exact .tup (s _ _ h (TB.ne h fun _ z=>by cases z)) hl hs
 |lst h ne=>exact .lst (s _ _ h (TB.ne h fun _ z=>by cases z)) ne
 |non=>exact .non
 |str=>exact .str
theorem UP {K:PySem.W.Frag}{H:Hp}:∀ps:List (Option Nat),Yc K H (ps.map iV) (ps.map iD)
 | []=>.nil
 |none::r=>.cons (.bl _) (UP r)
 |some n::r=>.cons (.int _) (UP r)
theorem Tg.rd {K:PySem.W.Frag}{H:Hp}{p:Addr}{x:V}{o:Option (List (Option Nat))}{d:PyData}(h:Tg H p x o d):Wu K H x d:=by
 cases h with
 |tup h hl hs=>exact .tup (.of h) (UP _)
 |lst h ne=>exact .lst (.of h) (.cons (.int _) (.cons (.int _) .nil))
 |non=>exact .non
 |str=>exact .str _
theorem ZcZ {ps:List (Option Nat)}{y:V}(h:y∈ps.map iV):∃o∈ps,y=iV o:=by
 obtain⟨o,ho,e⟩:=List.mem_map.mp h
 exact⟨o,ho,e.symm⟩
theorem Tg.th {K:PySem.W.Frag}{H:Hp}{p:Addr}{x:V}{o:Option (List (Option Nat))}{d:PyData}(h:Tg H p x o d):Th K H x (o.map fun ps=>ps.map iV):=by
 cases h with
 |tup h hl hs=>
  refine .tup h (by rw[Za];omega) fun y hy=>?_
  obtain⟨o,_,rfl⟩:=ZcZ hy
  cases o with
  |none=>exact ZeN true
  |some n=>exact Zda n
 |lst h ne=>exact .other (n:="list") ⟨.lst h,by decide⟩ (by decide)
 |non=>exact .other (n:="NoneType") ⟨.non,by decide⟩ (by decide)
 |str=>exact .other (n:="str") ⟨.str _,by decide⟩ (by decide)
structure Wc (H:Hp)(p L:Addr)(xs:List V)(os:List (Option (List (Option Nat))))(ds:List PyData):Prop where
 at_:H L=some (.lst xs)
 lo:xs.length=os.length
 ld:xs.length=ds.length
 th:∀(i:Nat) x,xs[i]?=some x->∃o d,os[i]?=some o/\ds[i]?=some d/\Tg H p x o d
theorem Wc.mono {H H':Hp}{p L:Addr}{xs:List V}{os:List (Option (List (Option Nat)))}{ds:List PyData}(s:Zv H H')(h:Wc H p L xs os ds):Wc H' p L xs os ds:=
 ⟨s _ _ h.at_,h.lo,h.ld,fun i x hx=>let ⟨o,d,a,b,c⟩:=h.th i x hx;⟨o,d,a,b,c.mono s⟩⟩
theorem Wc.bt {H H':Hp}{p L Pt:Addr}{xs:List V}{os:List (Option (List (Option Nat)))}{ds:List PyData}{pos:Pos}{qual:Str}(TB:Ja H Pt pos qual)(s:Bt Pt H H')(h:Wc H p L xs os ds):Wc H' p L xs os ds:=
 ⟨s _ _ h.at_ (TB.ne h.at_ fun _ z=>by cases z),h.lo,h.ld,fun i x hx=>let ⟨o,d,a,b,c⟩:=h.th i x hx;⟨o,d,a,b,c.bt TB s⟩⟩
theorem Zcr {K:PySem.W.Frag}{H:Hp}:∀(xs:List V) (ds:List PyData),xs.length=ds.length->(∀(i:Nat) x,xs[i]?=some x->∃d,ds[i]?=some d/\Wu K H x d)->Yc K H xs ds
 | [],[],_,_=>.nil
 | [],_::_,h,_=>by cases h
 |_::_,[],h,_=>by cases h
 |x::xs,d::ds,h,g=>by
  obtain⟨d',h1,h2⟩:=g 0 x rfl
  cases h1
  exact .cons h2 (Zcr xs ds (Nat.succ.inj h) fun i y hy=>g (i+1) y hy)
theorem Wc.rd {K:PySem.W.Frag}{H:Hp}{p L:Addr}{xs:List V}{os:List (Option (List (Option Nat)))}{ds:List PyData}(h:Wc H p L xs os ds):Wu K H (.ref L) (.list ds):=
 .lst (.of h.at_) (Zcr xs ds h.ld fun i x hx=>let ⟨o,d,a,b,c⟩:=h.th i x hx;⟨d,b,c.rd⟩)
def WY (o:Option (List (Option Nat))):Bool:=WZ (o.map fun ps=>ps.map iV)
def Zbu (o:Option (List (Option Nat))):Nat:=match o with|some ps=>ps.length|none=>0
def YX (os:List (Option (List (Option Nat))))(k:Nat):Bool:=WY (os.getD k none) && decide (Zbu (os.getD k none)=Zbu (os.getD 0 none))
def XC (os:List (Option (List (Option Nat)))):Option Nat:=(List.range os.length).find? fun k=>!YX os k
theorem Jm {os:List (Option (List (Option Nat)))}{k:Nat}(hk:k<os.length)(h:YX os k=false)(ha:∀j,j<k->YX os j=true):XC os=some k:=by
 unfold XC
 rw[List.find?_range_eq_some]
 refine⟨by rw[h];rfl,List.mem_range.mpr hk,fun j hj=>?_⟩
 rw[ha j hj]
 rfl
theorem ZbS {os:List (Option (List (Option Nat)))}(ha:∀j,j<os.length->YX os j=true):XC os=none:=by
 unfold XC
 rw[List.find?_eq_none]
 intro j hj
 rw[ha j (List.mem_range.mp hj)]
 decide
theorem ZcY {ps:List (Option Nat)}(h:(ps.map iV).all Vr=true):∃d:List Nat,ps=d.map some:=by
 induction ps with
 |nil=>exact⟨[],rfl⟩
 |cons o r ih=>
  rw[List.map_cons,List.all_cons,Bool.and_eq_true] at h
  obtain⟨d,e⟩:=ih h.2
  cases o with
  |none=>cases h.1
  |some n=>exact⟨n::d,by rw[e];rfl⟩
theorem YG (d:List Nat):(d.map some).map iV=d.map nV:=by rw[List.map_map];rfl
theorem ZaI (d:List Nat):d.map nV=(nI d).map V.int:=(VT d).symm
theorem Xn (d:List Nat):(d.map nV).all Vr=true:=by
 rw[List.all_eq_true]
 intro y hy
 obtain⟨k,_,rfl⟩:=List.mem_map.mp hy
 rfl
theorem Jv:∀(l gs:List Nat),l.Nodup->(∀a∈l,a∈gs)->gs.length<=l.length->List.Perm gs l
 | [],gs,_,_,h=>by
  have:gs=[]:=List.length_eq_zero_iff.mp (Nat.le_zero.mp h)
  rw[this]
 |a::l,gs,nd,hm,h=>by
  have ha:=hm a List.mem_cons_self
  have nd':=List.nodup_cons.mp nd
  have ih:=Jv l (gs.erase a) nd'.2 (fun b hb=>(List.mem_erase_of_ne (fun z:b=a=>nd'.1 (z▸hb))).mpr (hm b (List.mem_cons_of_mem _ hb))) (by rw[List.length_erase_of_mem ha];simp only[Zi] at h;omega)
  exact (List.perm_cons_erase ha).trans (ih.cons a)
theorem YW (ps:List (Option Nat)):WY (some ps)=true↔1<=ps.length/\ps.length<=24/\∃d:List Nat,ps=d.map some/\d.Perm (List.range d.length):=by
 unfold WY
 rw[Option.map_some,ZcA]
 simp only[Zft,Bool.and_eq_true,decide_eq_true_eq,Za]
 constructor
 ·rintro⟨h1,h2,h3,h4⟩
  obtain⟨d,rfl⟩:=ZcY h3
  refine⟨h1,h2,d,rfl,?_⟩
  refine Jv (List.range d.length) d List.nodup_range (fun k hk=>?_) (by rw[Zg];exact Zq _)
  rw[List.all_eq_true] at h4
  have:=h4 k (by rw[Za];exact hk)
  rw[YG,ZaI,Wk] at this
  have:=of_decide_eq_true this
  unfold nI at this
  obtain⟨m,hm,e⟩:=List.mem_map.mp this
  have:m=k:=by omega
  exact this▸hm
 ·rintro⟨h1,h2,d,rfl,hp⟩
  refine⟨h1,h2,by rw[YG];exact Xn d,?_⟩
  rw[List.all_eq_true]
  intro k hk
  rw[Za] at hk
  rw[YG,ZaI,Wk]
  refine decide_eq_true ?_
  unfold nI
  exact List.mem_map.mpr ⟨k,hp.mem_iff.mpr hk,rfl⟩
theorem Uv {os:List (Option (List (Option Nat)))}(h1:1<=os.length)(ha:∀j,j<os.length->YX os j=true):∃gs n,os=gs.map (fun d:List Nat=>some (d.map some))/\Xr gs n:=by
 have each:∀o∈os,∃d:List Nat,o=some (d.map some)/\d.length=Zbu (os.getD 0 none)/\1<=d.length/\d.length<=24/\∀i∈d,i<d.length:=fun o ho=>by
  obtain⟨j,hj⟩:=List.getElem?_of_mem ho
  have hjl:=(List.getElem?_eq_some_iff.mp hj).1
  have h:=ha j hjl
  unfold YX at h
  have e:os.getD j none=o:=by rw[Zb,hj];rfl
  rw[e,Bool.and_eq_true,decide_eq_true_eq] at h
  cases o with
  |none=>cases h.1
  |some ps=>
   obtain⟨h1,h2,d,rfl,hp⟩:=(YW ps).mp h.1
   rw[Za] at h1 h2
   refine⟨d,rfl,?_,h1,h2,fun i hi=>List.mem_range.mp (hp.mem_iff.mp hi)⟩
   rw[<-h.2]
   show d.length=(d.map some).length
   rw[Za]
 obtain⟨gs,hg,hgs⟩:∃gs:List (List Nat),os=gs.map (fun d:List Nat=>some (d.map some))/\∀d∈gs,d.length=Zbu (os.getD 0 none)/\1<=d.length/\d.length<=24/\∀i∈d,i<d.length:=by
  generalize Zbu (os.getD 0 none)=m at each
  clear ha h1
  induction os with
  |nil=>exact⟨[],rfl,fun d hd=>by cases hd⟩
  |cons o r ih=>
   obtain⟨gs,e,h⟩:=ih fun o ho=>each o (List.mem_cons_of_mem _ ho)
   obtain⟨d,rfl,h2⟩:=each o List.mem_cons_self
   refine⟨d::gs,by rw[e];rfl,fun x hx=>?_⟩
   rcases List.mem_cons.mp hx with rfl|hx
   ·exact h2
   ·exact h x hx
 have g1:1<=gs.length:=by rw[hg,Za] at h1;exact h1
 have h0:=hgs _ (VW (show 0<gs.length by omega))
 generalize Zbu (os.getD 0 none)=m at hgs h0
 refine⟨gs,m,hg,by omega,by omega,fun d hd=>(hgs d hd).1,fun d hd i hi=>?_⟩
 have:=hgs d hd
 have:=this.2.2.2 i hi
 omega
def UK (K:PySem.W.Frag)(c:Nat->Ec):Sp:=fun vs H Q E=>∃(p L:Addr) (xs:List V) (os:List (Option (List (Option Nat)))) (ds:List PyData),vs=[.ref L]/\Wc H p L xs os ds/\1<=os.length/\os.length<=10/\((∀j,j<os.length->YX os j=true)->∀H',Zv H H'->Q .non H')/\
 (∀k,XC os=some k->∀dx H',Zv H H'->H' dx=some (exD dx [("number",.int (k:Nat))])->E (.ref (c 3).C) (some dx) H')
theorem ZeT {H:Hp}{a:Addr}{x y:HO}:upd (upd H a x) a y=upd H a y:=by
 funext b
 by_cases h:b=a
 ·subst h;rw[Zs,Zs]
 ·rw[Zw h,Zw h,Zw h]
theorem US {H:Hp}{a dx C:Addr}{f:Str}{y:V}(ha:H a=none)(hd:(upd H a (VF a C none)) dx=none)(hne:dx≠a) :
  Zv H (del (upd (upd (upd H a (VF a C none)) a (VF a C (some dx))) dx (exD dx [(f,y)])) a)/\del (upd (upd (upd H a (VF a C none)) a (VF a C (some dx))) dx (exD dx [(f,y)])) a dx=some (exD dx [(f,y)]):=by
 rw[ZeT]
 rw[Zw hne] at hd
 refine⟨fun r o e=>?_,by rw[Wl hne,Zs]⟩
 have n1:r≠a:=fun q=>by rw[q,ha] at e;cases e
 have n2:r≠dx:=fun q=>by rw[q,hd] at e;cases e
 rw[Wl n1,Zw n2,Zw n1]
 exact e
section
variable {P:Program}{w:World}{K:PySem.W.Frag}{mg:Str->Option Value}{base:Heap}{T U:Addr}{et:Array DictEntry}{c:Nat->Ec}
theorem ZdW {f:Addr}{fd:FuncData}(F:W8 K "ask_perms" "ask_perms" ZeA f fd)(B:Bl mg)(T2:ZbW mg)(S:Cs K mg T U et c)(hI:K.In base)(I0:Zdp P w K mg base (c 3) ["self", "number"] (X9 (c 3).C "number"))
  (GI:Fn P w K mg base Yv 3 "is_perm" ["thing"] (VI K)):ZY P w K mg base (CXE P w) 4 f fd ["perms"] (UK K c):=by
 obtain⟨oc,od,kV,doc,pm,an,cdv,ct,osl,rfl,lk,hcd⟩:=F.ex
 refine Zc3 lk hcd (FS (N:=["perms", "k", "perm"])) (fun vs H Q E h=>?_) fun A outer s H vs Q E hr h=>?_
 ·obtain⟨p,L,xs,os,ds,rfl,_⟩:=h;rfl
 ·obtain⟨p,L,xs,os,ds,rfl,hS,o1,o10,q,qE⟩:=h
  have two:PyX.WF base (c 3).C (c 3).N T U PyX.YE (nsFind (c 3).es) (nsFind et):=(S.ok 3 (by decide)).two S.tb hI
  obtain⟨f0,o0,d0,a0,b0,e0,F0,g0⟩:=I0
  refine⟨_,Zx (Yr PassesOwn.leaving rfl (ZeM K T2.enumerate (pc (vn 0) Zt)) (g2 K 1 2 rfl (gn 1) (gn 2))
   (Zy (Yn (JY (JZ (Wg (WS GI hr ZS (pc (vn 2) Zt)))) (JX (ZF XN (cb (WL K) B.len (pc (vn 2) Zt)) (cb (WL K) B.len (pc (ZO (ixL K) (vn 0) Zu (fun _ _=>rfl)) Zt)) (ZJ _)))).pt
    (Zy (Zbd rfl two a0 b0 e0 fVE F0 (hr.mono (by decide)) g0 (YZ (by kernel_rfl)) (S.mgC 3 (by decide)) (S.ok 3 (by decide)).c.kp (pc (vn 1) Zt) JP (by kernel_rfl))) ZU)))
   (Zy (Yn (ZF XQ (cb (WL K) B.len (pc (vn 0) Zt)) Zu (ZJ _)) Zbc ZU)),?_⟩
  have sz:(16777216:Nat)=sizeLine:=by decide
  have raise:∀(k:Nat) (H':Hp),Zv H H'->XC os=some k->∀a,H' a=none->X9 (c 3).C "number" [.ref a,.int (k:Nat)] (upd H' a (VF a (c 3).C none)) (fun v H2=>v=.non/\∃d,H2 a=some (VF a (c 3).C d)/\E (.ref (c 3).C) d (del H2 a)) (fun _ _ _=>False):=fun k H' sH e a ha=>by
   refine⟨a,_,rfl,Zs,fun dx h1 h2=>⟨rfl,some dx,?_,?_⟩⟩
   ·rw[Zw (Ne.symm h2),Zs]
   ·obtain⟨u1,u2⟩:=US (f:="number") (y:=.int (k:Nat)) ha h1 h2
    exact qE k e dx _ (sH.trans u1) u2
  refine⟨_,rfl,L,rfl,.inl ⟨⟨_,.of hS.at_⟩,?_⟩⟩
  refine Ua (Zc9 (K:=K) (xs:=xs)) (fun i σ' H'=>∃(v1 v2:Option V),σ'=[some (.ref L),v1,v2]/\Zv H H'/\∀j,j<i->YX os j=true)
   ⟨_,_,rfl,Zv.refl _,fun j hj=>absurd hj (Nat.not_lt_zero _)⟩ (fun i σ' H' h=>by
    obtain⟨_,_,_,sm,_⟩:=h
    exact .of (sm _ _ hS.at_)) ?_ ?_
  ·rintro i x σ' H3 T' hx ⟨v1,v2,rfl,s3,hal⟩ nT
   obtain⟨o,d,ho,hd,hT⟩:=hS.th i x hx
   have hil:i<os.length:=(List.getElem?_eq_some_iff.mp ho).1
   have eo:os.getD i none=o:=by rw[Zb,ho];rfl
   have s4:=Zv.upd (H:=H3) (o:=.tup [.int (i:Nat),x]) nT
   refine⟨T',_,rfl,.of Zs,rfl,_,_,rfl,_,_,rfl,rfl,?_⟩
   generalize upd H3 T' (.tup [.int (i:Nat),x])=H4 at s4 ⊢
   have s34:=s3.trans s4
   refine⟨_,rfl,x,_,rfl,(hT.mono s34).th,fun H5 s5=>⟨_,rfl,?_⟩⟩
   have s35:=s34.trans s5
   refine Yh (fun hb=>?_) (fun hb=>?_)
   ·have hb:WY o=false:=by
     unfold WY
     simpa using hb
    have hbad:YX os i=false:=by unfold YX;rw[eo,hb];rfl
    exact⟨_,rfl,(by show 1<=sizeLine;decide),raise i H5 s35 (Jm hil hbad hal)⟩
   ·have hb:WY o=true:=by
     unfold WY
     simpa using hb
    obtain⟨y0,hy0⟩:∃y,xs[0]?=some y:=⟨_,Zf (show 0<xs.length by rw[hS.lo];omega)⟩
    obtain⟨oz,dz,hoz,hdz,hTz⟩:=hS.th 0 y0 hy0
    have ez:os.getD 0 none=oz:=by rw[Zb,hoz];rfl
    have hbz:WY oz=true:=by
     by_cases hi0:i=0
     ·subst hi0
      rw[ho] at hoz
      cases hoz
      exact hb
     ·have:=hal 0 (by omega)
      unfold YX at this
      rw[ez,Bool.and_eq_true] at this
      exact this.1
    cases hT with
    |lst h ne=>cases hb
    |non=>cases hb
    |str=>cases hb
    | @tup a ps h hl hs=>
    cases hTz with
    |lst h ne=>cases hbz
    |non=>cases hbz
    |str=>cases hbz
    | @tup a' ps' h' hl' hs'=>
     refine⟨_,rfl,a,_,rfl,.inr (.of (s35 _ _ h)),_,rfl,L,_,0,_,rfl,rfl,.of (s35 _ _ hS.at_),Z8 (j:=0) hy0,a',_,rfl,.inr (.of (s35 _ _ h')),rfl,_,rfl,?_⟩
     rw[Za,Za]
     refine Yh (fun hlen=>?_) (fun hlen=>?_)
     ·have hne:ps.length≠ps'.length:=fun z=>by rw[z] at hlen;simp at hlen
      have hbad:YX os i=false:=by
       unfold YX
       rw[eo,ez,hb]
       exact decide_eq_false hne
      exact⟨_,rfl,(by show 1<=sizeLine;decide),raise i H5 s35 (Jm hil hbad hal)⟩
     ·have he:ps.length=ps'.length:=by
       by_cases z:ps.length=ps'.length
       ·exact z
       ·exfalso
        apply hlen
        rw[decide_eq_false (fun w=>z (by injection w with w;omega))]
        rfl
      refine⟨_,_,rfl,s35,fun j hj=>?_⟩
      by_cases hji:j=i
      ·subst hji
       unfold YX
       rw[eo,ez,hb]
       exact decide_eq_true he
      ·exact hal j (by omega)
  ·rintro σ' H3 ⟨v1,v2,rfl,s3,hal⟩
   rw[hS.lo] at hal
   refine⟨_,rfl,L,_,rfl,.inl (.of (s3 _ _ hS.at_)),rfl,_,rfl,Wj ?_ (q hal H3 s3)⟩
   intro z
   have z:=of_decide_eq_true z
   injection z with z
   rw[hS.lo] at z
   omega
end
end C9
namespace Pm
section
variable {gs:List (List Nat)}{n:Nat}
theorem ZbT {x:List Nat}(h:x.length=n):Yu x (List.range n)=x:=by
 unfold Yu
 refine List.ext_getElem? fun i=>?_
 rw[Zc]
 by_cases hi:i<n
 ·rw[List.getElem?_range hi,Zf (by omega)]
  show some (x.getD i 0)=_
  rw[Zb,Zf (by omega)]
  rfl
 ·rw[List.getElem?_eq_none (by rw[Zg];omega),List.getElem?_eq_none (by omega)]
  rfl
theorem Zej {x y g:List Nat}(h:∀i∈g,i<y.length):Yu x (Yu y g)=Yu (Yu x y) g:=by
 unfold Yu
 rw[List.map_map]
 refine List.map_congr_left fun i hi=>?_
 show x.getD (y.getD i 0) 0=(y.map fun i=>x.getD i 0).getD i 0
 have:=h i hi
 rw[Zb (l:=y.map _),Zc,Zf this,Zb (l:=y),Zf this]
 rfl
theorem W7.mul (G:Xr gs n){x y:List Nat}(hx:W7 gs n x)(hy:W7 gs n y):W7 gs n (Yu x y):=by
 induction hy with
 |start=>rw[ZbT (hx.len G)];exact hx
 | @step y g hy hg ih=>
  rw[Zej fun i hi=>by rw[hy.len G];exact G.lt g hg i hi]
  exact .step ih hg
end
end Pm
namespace C9
open PySem L2 PySem.Spec PyProof.Rows
open Tb Pm
abbrev XJ:Stmt:=top 27
def JW:Str:=("made_by" ++ ".<locals>.") ++ "<lambda>"
def ZaK:List Stmt->Arguments×Expr×Scope×Pos
 | [_,_,.Assign _ (.Call _ [_,.Lambda a b sc p,_] _ _) _,_,_]=>(a,b,sc,p)
 |_=>(default,.Constant .none 0 ⟨0,0,0,0⟩,default,⟨0,0,0,0⟩)
abbrev Zgq:Arguments:=(ZaK (ZL XJ)).1
abbrev Zgp:Expr:=(ZaK (ZL XJ)).2.1
abbrev ZcT:Scope:=(ZaK (ZL XJ)).2.2.1
abbrev V3:Pos:=(ZaK (ZL XJ)).2.2.2
def EvL (f1 c1:Addr)(cl:List (Str×Addr))(pm ct:Value)(L:Addr)(bs:List Addr)(gs:List (List Nat)):Hp->Prop:=fun H=>H f1=some (WM f1 (V2 JW Zgq Zgp ZcT cl pm c1 ct))/\H c1=some (Wn c1 JW)/\ZA H L bs gs
def Zes (Ev:Hp->Prop)(gs:List (List Nat))(n:Nat):Sp:=fun vs H Q _=>∃(b:Addr) (x:List Nat),vs=[.ref b]/\Ev H/\W7 gs n x/\H b=some (.tup (x.map nV))/\∀L bs H',Zv H H'->H L=none->ZA H' L bs (gs.map (Yu x))->Q (.ref L) H'
theorem ZA.bt9 {H H':Hp}{L Pt:Addr}{bs:List Addr}{yss:List (List Nat)}{pos:Pos}{qual:Str}(TB:Ja H Pt pos qual)(s:Bt Pt H H')(R:ZA H L bs yss):ZA H' L bs yss:=
 ⟨s _ _ R.1 (TB.ne R.1 fun _ z=>by cases z),R.2.1,fun i b hb=>s _ _ (R.2.2 i b hb) (TB.ne (R.2.2 i b hb) fun _ z=>by cases z)⟩
theorem Wc.tups {H:Hp}{p L:Addr}{xs:List V}{os:List (Option (List (Option Nat)))}{ds:List PyData}{gs:List (List Nat)}(h:Wc H p L xs os ds)(e:os=gs.map fun d:List Nat=>some (d.map some)):∃bs,ZA H L bs gs:=by
 have key:∀(i:Nat) x,xs[i]?=some x->∃b,x=.ref b/\H b=some (.tup ((gs.getD i []).map nV)):=fun i x hx=>by
  obtain⟨o,d,ho,hd,hT⟩:=h.th i x hx
  have hi:=(List.getElem?_eq_some_iff.mp ho).1
  rw[e,Za] at hi
  rw[e,Zc,getL hi] at ho
  have ho:some ((gs.getD i []).map some)=o:=Option.some.inj ho
  subst ho
  cases hT with
  |tup h hl hs=>exact⟨_,rfl,by rw[<-YG];exact h⟩
 obtain⟨bs,hb⟩:∃bs:List Addr,xs=bs.map V.ref:=by
  have:∀x∈xs,∃b,x=V.ref b:=fun x hx=>by
   obtain⟨i,hi⟩:=List.getElem?_of_mem hx
   obtain⟨b,e,_⟩:=key i x hi
   exact⟨b,e⟩
  clear key h
  induction xs with
  |nil=>exact⟨[],rfl⟩
  |cons x r ih=>
   obtain⟨bs,e⟩:=ih fun y hy=>this y (List.mem_cons_of_mem _ hy)
   obtain⟨b,rfl⟩:=this x List.mem_cons_self
   exact⟨b::bs,by rw[e];rfl⟩
 subst hb
 refine⟨bs,h.at_,by have:=h.lo;rw[Za] at this;rw[this,e,Za],fun i b hbi=>?_⟩
 obtain⟨b',e1,e2⟩:=key i (.ref b) (by rw[Zc,hbi];rfl)
 cases e1
 exact e2
def Xw (os:List (Option (List (Option Nat))))(gs:List (List Nat))(n:Nat):Prop:=os=gs.map (fun d:List Nat=>some (d.map some))/\Xr gs n/\∀j,j<os.length->YX os j=true
def X8 (K:PySem.W.Frag)(Pm:Addr)(c:Nat->Ec):Sp:=fun vs H Q E=>∃(p L:Addr) (xs:List V) (os:List (Option (List (Option Nat)))) (ds:List PyData),vs=[.ref L]/\Wc H p L xs os ds/\1<=os.length/\os.length<=10/\Ja H Pm V3 JW/\
 (∀gs n zss r a l bs H',Xw os gs n->Jp gs n zss->Srt zss->zss.length<=60->Bt Pm H H'->Ja H' Pm V3 JW->H' r=some (.tup [.ref a,.ref l])->CT H' a (Z7 zss)->ZA H' l bs zss->Q (.ref r) H')/\
 (∀gs n (fd:List (List Nat)) H',Xw os gs n->fd.Nodup->(∀x∈fd,W7 gs n x)->60<fd.length->Bt Pm H H'->Ja H' Pm V3 JW->E (.ref (c 7).C) none H')/\
 (∀k,XC os=some k->∀dx H',Bt Pm H H'->Ja H' Pm V3 JW->H' dx=some (exD dx [("number",.int (k:Nat))])->E (.ref (c 3).C) (some dx) H')
section
variable {P:Program}{w:World}{K:PySem.W.Frag}{mg:Str->Option Value}{base:Heap}{T U:Addr}{et:Array DictEntry}{c:Nat->Ec}
theorem Zf9:Xq ["one", "perms"] ["one"] ["perms"] ZcT:=⟨rfl,rfl,rfl,by decide +kernel,by decide +kernel,rfl,by decide +kernel,by decide +kernel,by decide +kernel⟩
theorem Zfo {f1 c1 L:Addr}{cl:List (Str×Addr)}{pm ct:Value}{bs:List Addr}{gs:List (List Nat)}{n:Nat}(C:VD base cl ["perms"] [.ref L])(G:Xr gs n)(g10:gs.length<=10)(GP:Fn P w K mg base Yv 1 "perm_times" ["one", "other"] XH) :
  ZY P w K mg base Yv 2 f1 (PySem.W.kla_fn "<lambda>" JW Zgq Zgp ZcT cl pm (.ref c1) ct) ["one"] (Zes (EvL f1 c1 cl pm ct L bs gs) gs n):=by
 refine ZfC Zf9 C (fun vs H Q E h=>?_) (fun vs s H Q E hok h=>?_) (fun A outer s H vs Q E hr h=>?_)
 ·obtain⟨a,x,rfl,_⟩:=h;rfl
 ·obtain⟨a,x,rfl,e,_⟩:=h
  exact⟨⟨_,_,_,Zaa hok e.1⟩,Zef hok e.2.1⟩
 ·obtain⟨b,x,rfl,e,hx,hb,q⟩:=h
  obtain⟨_,_,R⟩:=e
  refine⟨_,cmp ["perm"] [0] ["perm", "one"] rfl (itL K (vn 1)) (fun _ _ _ _ _=>gn 0) (fun _ _ _ _ _=>Y6) (fun _ _ _ _ _=>WS GP hr ZS (pc (vn 1) (pc (vn 0) Zt))),?_⟩
  have xl:=hx.len G
  have n24:=G.n24
  refine⟨_,rfl,L,rfl,⟨_,.of R.1⟩,?_⟩
  refine Uk (xs:=bs.map V.ref) (fun D i ys H'=>Zv H H'/\∃cs:List Addr,ys=cs.map V.ref/\cs.length=i/\∀(j:Nat) c,cs[j]?=some c->H' c=some (.tup ((Yu x (gs.getD j [])).map nV))) [some (.ref b)] rfl (by rw[R.tlen];omega) ?_ ?_ ?_ ?_
  ·rintro D i ys H' hD hD' ⟨s',_⟩
   have S:=YF (K:=K) (H:=H) (.of R.1)
   exact⟨fun hi=>⟨S.go i H' s' hi,fun x H2 y=>S.yld i H' x H2 s' hi y⟩,fun e=>e▸S.stop H' s'⟩
  ·intro D hD
   exact⟨Zv.upd hD,[],rfl,rfl,fun j c hc=>by cases hc⟩
  ·rintro D i y ys H' hD hD' hy ⟨s',cs,rfl,cl',hc⟩ R' k
   obtain⟨bg,gg,rfl,hgi,hbg⟩:=R.gt9 hy
   have hgm:=List.mem_of_getElem? hgi
   have eg:gs.getD i []=gg:=by rw[Zb,hgi];rfl
   refine⟨_,rfl,_,rfl,b,bg,x,gg,rfl,s' _ _ hb,s' _ _ hbg,by rw[G.len gg hgm];omega,fun i hi=>by rw[xl];exact G.lt gg hgm i hi,fun r H5 s5 nr hr5=>?_⟩
   refine k _ H5 (s5 _ _ hD') ⟨(s'.trans s5).updr hD,cs++[r],by rw[List.map_append];rfl,by rw[Zd,cl'];rfl,fun j c' hj=>?_⟩
   by_cases hji:j<cs.length
   ·rw[List.getElem?_append_left hji] at hj
    have h1:=s5 _ _ (hc j c' hj)
    rw[Zw (fun z=>by rw[z,s5 _ _ hD'] at h1;cases h1)]
    exact h1
   ·rw[List.getElem?_append_right (by omega)] at hj
    have hj0:j-cs.length=0:=by
     apply Classical.byContradiction
     intro z
     rw[List.getElem?_eq_none (by rw[Zk];omega)] at hj
     cases hj
    rw[hj0] at hj
    cases hj
    have:j=i:=by omega
    rw[this,eg,Zw (fun z=>by rw[z,s5 _ _ hD'] at hr5;cases hr5)]
    exact hr5
  ·rintro D ys H' hD hD' hl ⟨s',cs,rfl,cl',hc⟩
   rw[R.tlen] at cl'
   refine q D cs H' s' hD ⟨hD',by rw[cl',Za],fun i c' hi=>?_⟩
   have hil:i<gs.length:=by rw[<-cl'];exact (List.getElem?_eq_some_iff.mp hi).1
   have:=hc i c' hi
   rw[Zb (l:=gs.map _),Zc,getL hil]
   exact this
theorem ZdS {f cc Pm:Addr}{fd:FuncData}{tk:Tok}(F:W8 K "made_by" "made_by" XJ f fd)(hcv:fd.code=.ref cc)(hc:PySem.W.codeHdIn K cc Pm=true)(Bm:Jr base mg)(B:Bl mg)(hM:mg "MOST_THINGS"=some (.int 60 tk))(S:Cs K mg T U et c)(hI:K.In base)
  (GA:Fn P w K mg base (CXE P w) 4 "ask_perms" ["perms"] (UK K c)) (GP:∀base',Fn P w K mg base' Yv 1 "perm_times" ["one", "other"] XH) (GR:∀base',Fn P w K mg base' Yv 3 "reached" ["start", "onward", "most"] (Zca P w K mg base')) (GT':Fn P w K mg base Yv 2 "tabled" ["things", "product"] (Zb9 P w K mg base)) :
  ZY P w K mg base (CXE P w) 5 f fd ["perms"] (X8 K Pm c):=by
 obtain⟨oc,od,kV,doc,pm,an,cdv,ct0,osl,rfl,lk,hcd⟩:=F.ex
 have e:cdv=.ref cc:=hcv
 subst e
 obtain⟨fP,fdP,OkP,hmP,kpP,bdP⟩:=id (GP base)
 refine Zc3 lk hcd (FS (N:=["perms", "stay", "found"])) (fun vs H Q E h=>?_) fun A outer s H vs Q E hr h=>?_
 ·obtain⟨p,L,xs,os,ds,rfl,_⟩:=h;rfl
 ·obtain⟨p,L,xs,os,ds,rfl,hS,o1,o10,TB,qA,qB,qC⟩:=h
  have two:PyX.WF base (c 7).C (c 7).N T U PyX.YE (nsFind (c 7).es) (nsFind et):=(S.ok 7 (by decide)).two S.tb hI
  refine⟨_,Zx (Y5 (WS GA hr UW (pc (vn 0) Zt)))
   (Zx (ZZ 1 rfl (ct (Wr rfl) B.tuple (pc (ct Yp B.range (pc (cb (WL K) B.len (pc (ZO (ixL K) (vn 0) Zu (fun _ _=>rfl)) Zt)) Zt)) Zt)))
   (Zx (ZZ 2 rfl (ZcF GR hr ZS (pc (vn 1) (pc (Zff rfl hc Bm rfl (Zfu (by kernel_rfl))) (pc (Zgv hM) Zt)))))
   (Zx (Yn (UU (ZcJ (vn 2))) (Zy (Zbe rfl two (S.pl 7 (by decide) (by decide)) fVE (YZ (by kernel_rfl)) (S.mgC 7 (by decide)) (S.ok 7 (by decide)).c.kp (pc YL Zt) JP (by kernel_rfl))) ZU)
   (Zy (ZP (Ys (pc (WS GT' hr ZS (pc (vn 2) (pc (Zhu hmP) Zt))) (pc (vn 2) Zt)))))))),?_⟩
  have sz:(16777216:Nat)=sizeLine:=by decide
  refine⟨_,rfl,p,L,xs,os,ds,rfl,hS,o1,o10,fun hok H1 s1=>?_,fun k hk dx H1 s1 hdx=>qC k hk dx H1 (.of s1) (TB.mono s1) hdx⟩
  obtain⟨gs,n,hos,G⟩:=Uv o1 hok
  have IG:Xw os gs n:=⟨hos,G,hok⟩
  have g1:1<=gs.length:=by rw[hos,Za] at o1;exact o1
  have g10:gs.length<=10:=by rw[hos,Za] at o10;exact o10
  obtain⟨bs,R⟩:=hS.tups hos
  have R1:=R.mono s1
  have TB1:=TB.mono s1
  have n1:=G.n1
  have n24:=G.n24
  obtain⟨b0,_,hat0,hb0⟩:=R1.get (i:=0) (by omega)
  have e0:((gs.getD 0 []).map nV).length=n:=by rw[Za];exact G.len _ (VW (by omega))
  refine⟨_,rfl,L,_,_,_,rfl,rfl,.of R1.1,hat0,b0,_,rfl,.inr (.of hb0),_,rfl,fun r0 hr0=>⟨r0,0,_,rfl,Zs,⟨by omega,by omega,by rw[e0];omega,by rw[e0];omega⟩,by rw[e0];omega,fun l hl=>?_⟩⟩
  rw[e0] at hl ⊢
  have ek:((n:Int)-0).toNat=n:=by omega
  rw[ek] at *
  have el:(Yg 0 n).map V.int=(List.range n).map nV:=Ze6 n
  rw[el] at *
  have s2:=(Zv.upd (H:=H1) (o:=.rng 0 (n:Int)) hr0).trans (Zv.upd (o:=.tup ((List.range n).map nV)) hl)
  have hl2:=Zs (H:=upd H1 r0 (.rng 0 (n:Int))) (a:=l) (o:=.tup ((List.range n).map nV))
  generalize upd (upd H1 r0 (.rng 0 (n:Int))) l (.tup ((List.range n).map nV))=H2 at s2 hl2 ⊢
  have TB2:=TB1.mono s2
  refine⟨_,rfl,TB2,fun f1 c1 ct cl pm' H3 C nf bt tb hf hc1=>?_⟩
  have R3:=ZA.bt9 TB2 bt (R1.mono s2)
  have hl3:H3 l=some (.tup ((List.range n).map nV)):=bt _ _ hl2 (TB2.ne hl2 fun _ z=>by cases z)
  have bH:Bt Pm H H3:=fun b o e nn=>bt b o (s2 b o (s1 b o e)) nn
  intro base' Wd
  have ca:VD base' cl ["perms"] [.ref L]:=by
   have on:∀x c,cl.lookup x=some c->x = "perms":=fun x c h=>by
    have h:=C.only x c h
    rcases List.mem_cons.mp h with h|h
    ·cases h
    rcases List.mem_cons.mp h with h|h
    ·cases h;rfl
    ·cases h
   refine⟨rfl,fun i x v hx hv=>?_,fun x c h=>?_,fun x y c h1 h2=>?_⟩
   ·match i,hx,hv with
    |0,hx,hv=>
     cases hx
     cases hv
     obtain⟨c2,h⟩:=C.all ("perms",.free) (by decide) rfl
     obtain⟨u,a1,a2⟩:=Wd.cells 0 "perms" (.ref L) c2 rfl rfl (.inr (.inl rfl)) (C.cells _ _ h) (.inl rfl) rfl
     exact⟨c2,u,h,a1,a2⟩
    |i+1,hx,hv=>cases hx
   ·rw[on x c h];simp
   ·rw[on x c h1,on y c h2]
  have hEv:EvL f1 c1 cl pm' ct L bs gs H3:=⟨hf,hc1,R3⟩
  have mul:=fun {x y}=>W7.mul (x:=x) (y:=y) G
  refine⟨l,f1,gs,n,EvL f1 c1 cl pm' ct L bs gs,rfl,G,g10,hl3,hEv,⟨fun H H' s h=>⟨s _ _ h.1,s _ _ h.2.1,h.2.2.mono s⟩,_,_,_,_,_,Zes (EvL f1 c1 cl pm' ct L bs gs) gs n,fun H h=>h.1,Zfo ca G g10 (GP base'),.all fun us hl=>?_,fun H x b Q h hx hb k=>⟨b,x,rfl,h,hx,hb,k⟩⟩,fun L4 bs4 zss H4 s4 R4 hs Fl z60=>?_,fun fd4 H4 s4 nd rc f60=>?_⟩
  ·match us,hl with | [_],_=>rfl
  ·refine⟨_,rfl,_,rfl,Wj (by rw[decide_eq_false (fun z=>nomatch z)];decide) ?_⟩
   have zl:∀x∈zss,x.length=n/\∀i∈x,i<n:=fun x hx=>⟨((Fl.all x).mp hx).len G,((Fl.all x).mp hx).lt G⟩
   refine⟨_,rfl,L4,fP,bs4,zss,n,rfl,R4,Fl.nd,z60,zl,n24,fun x hx y hy=>(Fl.all _).mpr (mul ((Fl.all x).mp hx) ((Fl.all y).mp hy)),⟨kpP,fdP,_,OkP,bdP⟩,fun r5 H5 s5 C5=>?_⟩
   refine⟨_,rfl,(by show 2<=sizeLine;decide),fun r nr=>?_⟩
   have s6:=s5.trans (Zv.upd (H:=H5) (o:=.tup [.ref r5,.ref L4]) nr)
   exact qA gs n zss r r5 L4 bs4 _ IG Fl hs z60 (bH.trans (.of (s4.trans s6))) (tb.mono (s4.trans s6)) Zs (C5.mono (Zv.upd nr)) (R4.mono s6)
  ·refine⟨_,rfl,_,rfl,Yt (by decide) ?_⟩
   exact⟨(by show 1<=sizeLine;decide),qB gs n fd4 H4 IG nd rc f60 (bH.trans (.of s4)) (tb.mono s4)⟩
end
end C9
namespace L2
open PySem PySem.Spec PyProof.Rows
def Zg7 (base:Heap)(ta:TE)(f:Str):TE:=fun σ H Q=>ta σ H fun x H1=>∃a C dx fs y N T U nid mN mT,x=.ref a/\H1 a=some (XZ a C (some dx))/\H1 dx=some (exD dx fs)/\dx≠a/\
 PyX.WF base C N T U nid mN mT/\NoR mN mT f/\fs.lookup f=some y/\Q y H1
theorem Zfd {X:Cx}{e:Expr}{ta:TE}{f:Str}{pos:Pos}(base:Heap)(he:PE X e ta)(hb:attributeBase e f X.env (eval e X.env)=eval e X.env)(hB:X.base=base:=by rfl):PE X (.Attribute e f pos) (Zg7 base ta f):=by
 subst hB
 exact Zgj he hb
end L2
namespace C9
open PySem L2 PySem.Spec PyProof.Rows
open Tb Pm
abbrev Zev:Stmt:=top 35
def ZfH (zss:List (List Nat)):PyData:=.tuple [dCs (Z7 zss),.list (zss.map fun ns=>PyData.tuple ((nI ns).map PyData.int))]
inductive Xs (os:List (Option (List (Option Nat)))):PyData->Prop where
 |perm {k:Nat} (h:XC os=some k):Xs os (.tuple [.str "perm",.int (k:Nat)])
 |many {gs:List (List Nat)}{n:Nat}{fd:List (List Nat)} (h:Xw os gs n) (nd:fd.Nodup) (rc:∀x∈fd,W7 gs n x) (hl:60<fd.length):Xs os (.tuple [.str "many",.int 0])
 |ans {gs:List (List Nat)}{n:Nat}{zss:List (List Nat)} (h:Xw os gs n) (Fl:Jp gs n zss) (hs:Srt zss) (hl:zss.length<=60):Xs os (ZfH zss)
theorem Xw.bad {os:List (Option (List (Option Nat)))}{gs:List (List Nat)}{n:Nat}(h:Xw os gs n):XC os=none:=ZbS h.2.2
theorem Xw.un {os:List (Option (List (Option Nat)))}{gs gs':List (List Nat)}{n n':Nat}(o1:1<=os.length)(h:Xw os gs n)(h':Xw os gs' n'):gs=gs'/\n=n':=by
 obtain⟨e,G,_⟩:=h
 obtain⟨e',G',_⟩:=h'
 have eg:gs=gs':=by
  rw[e] at e'
  refine (List.map_inj_right (fun x y h=>?_)).mp e'
  have h:=Option.some.inj h
  exact (List.map_inj_right (fun a b e=>Option.some.inj e)).mp h
 subst eg
 have hl:1<=gs.length:=by rw[e,Za] at o1;exact o1
 have hm:=VW (show 0<gs.length by omega)
 exact⟨rfl,(G.len _ hm).symm.trans (G'.len _ hm)⟩
def Zav (K:PySem.W.Frag)(Pm:Addr):Sp:=fun vs H Q _=>∃(p L:Addr) (xs:List V) (os:List (Option (List (Option Nat)))) (ds:List PyData),vs=[.ref L]/\Wc H p L xs os ds/\1<=os.length/\os.length<=10/\Ja H Pm V3 JW/\
 ∀r d H',Bt Pm H H'->Ja H' Pm V3 JW->Xs os d->Wu K H' (.ref r) d->Q (.ref r) H'
section
variable {P:Program}{w:World}{K:PySem.W.Frag}{mg:Str->Option Value}{base:Heap}{T U:Addr}{et:Array DictEntry}{c:Nat->Ec}
theorem UR {H:Hp}{r a l:Addr}{bs:List Addr}{zss:List (List Nat)}(hr:H r=some (.tup [.ref a,.ref l]))(C:CT H a (Z7 zss))(R:ZA H l bs zss):Wu K H (.ref r) (ZfH zss):=
 .tup (.of hr) (.cons C.rd (.cons (.lst (.of R.1) (JG _ _ R.2.1 R.2.2)) .nil))
theorem ZdN {f Pm:Addr}{fd:FuncData}(F:W8 K "_law_told" "_law_told" Zev f fd)(B:Bl mg)(V0:BlV mg)(S:Cs K mg T U et c)(hI:K.In base)(GM:Fn P w K mg base (CXE P w) 5 "made_by" ["perms"] (X8 K Pm c)) :
  ZY P w K mg base Yv 6 f fd ["_law_some_here"] (Zav K Pm):=by
 refine F.ok (FS (N:=["_law_some_here", "_law_told_here", "e", "_law_others"])) (fun vs H Q E h=>?_) (fun cdv A outer s H vs Q E hr h=>?_)
 ·obtain⟨p,L,xs,os,ds,rfl,_⟩:=h;rfl
 ·obtain⟨p,L,xs,os,ds,rfl,hS,o1,o10,TB,q⟩:=h
  refine⟨_,Zx (ZZ 1 rfl (Ys (pc YL (pc J8 Zt))))
   (Zx (Zfa (fun D pins=>Zy (ZZ 1 rfl (WS GM hr (UV (i:=2) (Ya (by kernel_rfl)) rfl (Yl (by kernel_rfl)) (YZ (by kernel_rfl)) S.mgT (by kernel_rfl) rfl rfl
    (fun a=>Zx (ZZ 3 rfl (cb (isT S hI) B.isi (pc (vn 2) (pc (Ys (pc (clv (S.mgC 5 (by decide))) (pc (clv (S.mgC 0 (by decide))) (pc (clv (S.mgC 4 (by decide))) (pc (clv (S.mgC 6 (by decide))) (pc (clv (S.mgC 8 (by decide))) (pc (clv (S.mgC 9 (by decide))) (pc (clv (S.mgC 11 (by decide))) (pc (clv (S.mgC 2 (by decide))) Zt))))))))) Zt))))
     (Zx (ZZ 3 rfl (ZeE (vn 3) (ZeE (cb (isT S hI) B.isi (pc (vn 2) (pc (Ys (pc (clv (S.mgC 1 (by decide))) (pc (clv (S.mgC 10 (by decide))) Zt))) Zt))) (WJ (ZcC (cb (isV S hI) B.isi (pc (vn 2) (pc (tyv "ValueError" V0.ve) Zt))))))))
     (Zx (ZZ 1 rfl (Ys (pc YL (pc J8 Zt))))
     (Zy (Yn (UT (ZF XN (cb (isE S hI) B.isi (pc (vn 2) (pc (clv (S.mgC 3 (by decide))) Zt))) (cb (isE S hI) B.isi (pc (vn 2) (pc (clv (S.mgC 7 (by decide))) Zt))) (ZJ _)) (Vh (JZ (Wg (vn 3))))).pt
      (Zy (ZZ 1 rfl (W1 (Wg (cb (isE S hI) B.isi (pc (vn 2) (pc (clv (S.mgC 3 (by decide))) Zt)))) (Ys (pc YL (pc (Zfd base (vn 2) (by rfl)) Zt))) (Ys (pc YL (pc Zu Zt)))))) ZU)))))) (pc (vn 0) Zt)))))
   (Zy (ZP (vn 1)))),?_⟩
  refine⟨(by show 2<=sizeLine;decide),fun t0 n0=>?_⟩
  have s0:=Zv.upd (H:=H) (o:=.tup [.str "none",.non]) n0
  generalize upd H t0 (.tup [.str "none",.non])=H0 at s0 ⊢
  refine⟨_,rfl,p,L,xs,os,ds,rfl,hS.mono s0,o1,o10,TB.mono s0,fun gs n zss r a l bs H' IG Fl hs z60 bt tb hr' hC hT=>?_,fun gs n fd H' IG nd rc h60 bt tb=>S.catchR hI (by decide) rfl fun b hb=>?_,fun k hk dx H' bt tb hdx=>S.catchR hI (by decide) rfl fun b hb=>?_⟩
  ·exact⟨_,rfl,q r _ H' (Bt.trans (.of s0) bt) tb (.ans IG Fl hs z60) (UR hr' hC hT)⟩
  ·have s1:=Zv.upd (o:=XZ b (c 7).C none) hb
   have hB:upd H' b (XZ b (c 7).C none) b=some (XZ b (c 7).C none):=Zs
   generalize upd H' b (XZ b (c 7).C none)=H2 at hB s1 ⊢
   refine⟨_,rfl,(by show 8<=sizeLine;decide),fun tp ntp=>?_⟩
   have s2:=Zv.upd (o:=.tup [V.ref (c 5).C,V.ref (c 0).C,V.ref (c 4).C,V.ref (c 6).C,V.ref (c 8).C,V.ref (c 9).C,V.ref (c 11).C,V.ref (c 2).C]) ntp
   refine⟨b,7,none,tp,[5,0,4,6,8,9,11,2],rfl,by decide,by decide,s2 _ _ hB,Zs,?_⟩
   refine⟨_,rfl,_,rfl,Wj (by decide) ⟨_,rfl,(by show 2<=sizeLine;decide),fun tp2 ntp2=>?_⟩⟩
   have s3:=Zv.upd (o:=.tup [V.ref (c 1).C,V.ref (c 10).C]) ntp2
   have hB3:=s3 _ _ (s2 _ _ hB)
   refine⟨b,7,none,tp2,[1,10],rfl,by decide,by decide,hB3,Zs,_,rfl,Wj (by decide) ⟨_,rfl,b,7,none,rfl,by decide,hB3,_,rfl,?_⟩⟩
   have s13:=s1.trans (s2.trans s3)
   generalize upd (upd H2 tp (.tup [V.ref (c 5).C,V.ref (c 0).C,V.ref (c 4).C,V.ref (c 6).C,V.ref (c 8).C,V.ref (c 9).C,V.ref (c 11).C,V.ref (c 2).C])) tp2 (.tup [V.ref (c 1).C,V.ref (c 10).C])=H5 at s13 hB3 ⊢
   refine⟨(by show 2<=sizeLine;decide),fun t1 nt1=>?_⟩
   have s4:=Zv.upd (H:=H5) (o:=.tup [.str "other",.non]) nt1
   have hB4:=s4 _ _ hB3
   generalize upd H5 t1 (.tup [.str "other",.non])=H6 at s4 hB4 ⊢
   refine⟨_,rfl,b,7,3,none,rfl,by decide,by decide,hB4,_,rfl,b,7,7,none,rfl,by decide,by decide,hB4,rfl,_,rfl,Yt (by decide) ⟨_,rfl,_,rfl,Yt (by decide) ?_⟩⟩
   refine⟨_,rfl,b,7,3,none,rfl,by decide,by decide,hB4,_,rfl,Wj (by decide) ⟨(by show 2<=sizeLine;decide),fun t2 nt2=>⟨_,rfl,?_⟩⟩⟩
   have s5:=s13.trans (s4.trans (Zv.upd (H:=H6) (o:=.tup [.str "many",.int 0]) nt2))
   exact q t2 _ _ (Bt.trans (Bt.trans (.of s0) bt) (.of s5)) (tb.mono s5) (.many IG nd rc h60) (.tup (.of Zs) (.cons (.str _) (.cons (.int _) .nil)))
  ·have two:PyX.WF base (c 3).C (c 3).N T U PyX.YE (nsFind (c 3).es) (nsFind et):=(S.ok 3 (by decide)).two S.tb hI
   have nr:∀{f:Str},f∈Z3->NoR (nsFind (c 3).es) (nsFind et) f:=fun hf=>(S.ok 3 (by decide)).noR S.tb hf
   have ne:dx≠b:=fun z=>by rw[z,hb] at hdx;cases hdx
   have s1:=Zv.upd (o:=XZ b (c 3).C (some dx)) hb
   have hB:upd H' b (XZ b (c 3).C (some dx)) b=some (XZ b (c 3).C (some dx)):=Zs
   have hX:=s1 _ _ hdx
   generalize upd H' b (XZ b (c 3).C (some dx))=H2 at hB hX s1 ⊢
   refine⟨_,rfl,(by show 8<=sizeLine;decide),fun tp ntp=>?_⟩
   have s2:=Zv.upd (o:=.tup [V.ref (c 5).C,V.ref (c 0).C,V.ref (c 4).C,V.ref (c 6).C,V.ref (c 8).C,V.ref (c 9).C,V.ref (c 11).C,V.ref (c 2).C]) ntp
   refine⟨b,3,some dx,tp,[5,0,4,6,8,9,11,2],rfl,by decide,by decide,s2 _ _ hB,Zs,?_⟩
   refine⟨_,rfl,_,rfl,Wj (by decide) ⟨_,rfl,(by show 2<=sizeLine;decide),fun tp2 ntp2=>?_⟩⟩
   have s3:=Zv.upd (o:=.tup [V.ref (c 1).C,V.ref (c 10).C]) ntp2
   have hB3:=s3 _ _ (s2 _ _ hB)
   have hX3:=s3 _ _ (s2 _ _ hX)
   refine⟨b,3,some dx,tp2,[1,10],rfl,by decide,by decide,hB3,Zs,_,rfl,Wj (by decide) ⟨_,rfl,b,3,some dx,rfl,by decide,hB3,_,rfl,?_⟩⟩
   have s13:=s1.trans (s2.trans s3)
   generalize upd (upd H2 tp (.tup [V.ref (c 5).C,V.ref (c 0).C,V.ref (c 4).C,V.ref (c 6).C,V.ref (c 8).C,V.ref (c 9).C,V.ref (c 11).C,V.ref (c 2).C])) tp2 (.tup [V.ref (c 1).C,V.ref (c 10).C])=H5 at s13 hB3 hX3 ⊢
   refine⟨(by show 2<=sizeLine;decide),fun t1 nt1=>?_⟩
   have s4:=Zv.upd (H:=H5) (o:=.tup [.str "other",.non]) nt1
   have hB4:=s4 _ _ hB3
   have hX4:=s4 _ _ hX3
   generalize upd H5 t1 (.tup [.str "other",.non])=H6 at s4 hB4 hX4 ⊢
   refine⟨_,rfl,b,3,3,some dx,rfl,by decide,by decide,hB4,_,rfl,b,3,7,some dx,rfl,by decide,by decide,hB4,rfl,_,rfl,Yt (by decide) ⟨_,rfl,_,rfl,Yt (by decide) ?_⟩⟩
   refine⟨_,rfl,b,3,3,some dx,rfl,by decide,by decide,hB4,_,rfl,Yt (by decide) ⟨_,rfl,b,_,dx,_,_,_,T,U,_,_,_,rfl,hB4,hX4,ne,two,nr (by decide),rfl,(by show 2<=sizeLine;decide),fun t2 nt2=>⟨_,rfl,?_⟩⟩⟩
   have s5:=s13.trans (s4.trans (Zv.upd (H:=H6) (o:=.tup [.str "perm",.int (k:Nat)]) nt2))
   exact q t2 _ _ (Bt.trans (Bt.trans (.of s0) bt) (.of s5)) (tb.mono s5) (.perm hk) (.tup (.of Zs) (.cons (.str _) (.cons (.int _) .nil)))
end
end C9
namespace PyY
open PySem
open AutoSeq1 (wpAny_loadPart')
section
variable {prog:Program}{w:World}{A:Around}{E:Value->Shared->Prop}{s:Shared}
end
end PyY
namespace L2
open PySem PySem.Spec PyProof.Rows
section
variable {X:Cx}{pins:List (Addr×Obj)}{σ:St}{H:Hp}{s:Shared}
end
section
variable {X:Cx}
end
end L2
namespace PyZ
open PySem PySem.Spec PyProof.Rows
variable {prog:Program}{w:World}{A:Around}{E:Value->Shared->Prop}{s:Shared}
theorem Ul {l:Addr}{vs:List Value}{Q:List Value->Shared->Prop}(hl:IsTup s.heap l vs.toArray)(hsz:vs.length<=sizeLine)
  (h:Q vs {s with heap:=(s.heap.push (seqObj "list" #[] 0)).update s.heap.objs.size (Obj.mapSeq (· ++ vs.toArray))}):wpAny (model prog w) A (collect (.ref l)) Q E s:=by
 obtain⟨o,ho,hc,n,hd⟩:=hl
 have ho':(s.heap.push (seqObj "list" #[] 0)).get? l=some o:=Zn _ ho
 unfold collect
 refine Zl (wpAny_runValue (codeAny_builtin entry_proto_collect' ?_))
 show wpAny _ _ (do again (.builtin "list.__iadd__" ⟨[<-newList [],.ref l],[]⟩)) _ _ s
 refine Zl (wpAny_newList (Zm ⟨Code.quiet_builtin _ (by decide +kernel),codeAny_builtin entry_list_iadd' ?_⟩))
 show wpAny _ _ (Builtin.List.listExtendWith (.ref s.heap.objs.size) (.ref l) (.ref s.heap.objs.size)) _ _ {s with heap:=s.heap.push (seqObj "list" #[] 0)}
 unfold Builtin.List.listExtendWith
 refine Zl (wpAny_typeOf (T:="tuple") ⟨o,ho',hc⟩ ?_)
 have ht:(Value.type "tuple" == Value.type "tuple")=true:=by rfl
 rw[if_pos (by rw[ht];simp)]
 refine Zl (listItems_at ho' hd ?_)
 refine Zl (listItems_at (xs:=#[]) (n:=0) (Zo _ rfl) rfl ?_)
 rw[if_neg (by simp)]
 refine Zl (listUpdate_at (xs:=#[]) (n:=0) (Zo _ rfl) rfl ?_ (Nat.zero_le _) (by show (#[]++vs.toArray).size<=sizeLine+1;simp only[Array.size_append,Zh,List.length_nil];omega))
 refine Zm ?_
 show wpAny (model prog w) A (load s.heap.objs.size >>= _) Q E {s with heap:=(s.heap.push (seqObj "list" #[] 0)).update s.heap.objs.size (Obj.mapSeq (· ++ vs.toArray))}
 refine Zl (wpAny_load (get?_update_seq (Zo _ rfl) _) ?_)
 show wpAny _ _ (pure ((#[]:Array Value)++vs.toArray).toList) Q E _
 rw[show ((#[]:Array Value)++vs.toArray).toList=vs by simp]
 exact Zm h
theorem Vd {l:Addr}{vs:List Value}{ns:List Int}{Q:Value->Shared->Prop}(hl:IsTup s.heap l vs.toArray)(hI:IntsAre vs ns)(h64:vs.length<64)
  (h:∀(out:Array Value) (ns':List Int),IntsAre out.toList ns'->ns'.Perm ns->ns'.Pairwise (· ≤ ·)->Q (.ref (s.heap.objs.size+1)) {s with heap:=sortedAll s.heap vs out}) :
  wpAny (model prog w) A (call (.builtin "sorted") [.ref l]) Q E s:=by
 have szl:(16777216:Nat)=sizeLine:=by decide
 refine Calls.call_function_entry kind_sorted plain_sorted entry_sorted (args_sorted1 _) ?_
 unfold Builtin.«sorted»
 refine Zl (m:=checkCount "sorted" 1 1 _) (Zm ?_)
 refine Zl (Ul hl (by omega) ?_)
 refine Zl (wpAny_newList ?_)
 have hsz:((s.heap.push (seqObj "list" #[] 0)).update s.heap.objs.size (Obj.mapSeq (· ++ vs.toArray))).objs.size=s.heap.objs.size+1:=by
  rw[Heap.size_update,size_push']
 have hoL:(((s.heap.push (seqObj "list" #[] 0)).update s.heap.objs.size (Obj.mapSeq (· ++ vs.toArray))).push (seqObj "list" vs.toArray 0)).get? (s.heap.objs.size+1)=some (seqObj "list" vs.toArray 0):=by
  rw[<-hsz];exact Zo _ rfl
 show wpAny _ _ _ _ _ {s with heap:=((s.heap.push (seqObj "list" #[] 0)).update s.heap.objs.size (Obj.mapSeq (· ++ vs.toArray))).push (seqObj "list" vs.toArray 0)}
 rw[hsz]
 refine Zl (wpAny_holding (wpAny_call_entry slot_list_sort ⟨_,hoL,rfl⟩ entry_list_sort (list_sort_tree hoL hI h64 fun out ns' a1 a2 a3=>⟨_,rfl,?_⟩) (args_list_sort _)))
 exact Zm ⟨_,rfl,h out ns' a1 a2 a3⟩
end PyZ
namespace L2
open PySem PySem.Spec PyProof.Rows
section
variable {X:Cx}
theorem Um (K:PySem.W.Frag)(hK:X.K=K:=by rfl):ZR X (.builtin "sorted") (fun xs H Q=>∃(a:Addr) (ns:List Int),xs=[.ref a]/\WG K H a (ns.map V.int)/\ns.length<64/\∀l ns',H l=none->List.Perm ns' ns->ns'.Pairwise (· ≤ ·)->Q (.ref l) (upd H l (.lst (ns'.map V.int)))):=by
 subst hK
 intro pins s σ H xs us Q I r h
 obtain⟨a,ns,rfl,hq,h64,q⟩:=h
 obtain⟨u,rfl,ru⟩:=vals1 r
 cases ru
 obtain⟨its,rv,p,hz⟩:=I.tuple hq
 have hl:its.length=ns.length:=by rw[<-rv.length,Za]
 have szl:(16777216:Nat)=sizeLine:=by decide
 refine PyZ.Vd p (ns:=ns) (Vs rv) (by omega) fun out ns' h1 h2 h3=>?_
 obtain⟨e1,he⟩:=sortedAll_at s.heap its out
 have old:∀b o,s.heap.get? b=some o->(sortedAll s.heap its out).get? b=some o:=fun b o e=>sortedAll_old e
 generalize sortedAll s.heap its out=h' at he old ⊢
 have hle:s.heap.objs.size<=s.heap.objs.size+1:=Nat.le_succ _
 generalize s.heap.objs.size+1=D at he hle ⊢
 have fin:=q D ns' (I.hok.fresh hle) h2 h3
 have I':Inv X pins σ (upd H D (.lst (ns'.map V.int))) {s with heap:=h',toks:=s.toks}:=I.laid (a:=D) (o:=.lst (ns'.map V.int)) (t':=s.toks) old hle ⟨by rw[Za,h2.length_eq];omega,out.toList,e1,Zar h1,by simpa using he⟩
 exact⟨.ref D,_,I',rfl,fin⟩
end
end L2
namespace C9
open PySem L2 PySem.Spec PyProof.Rows
open Tb Pm
abbrev Zgc:Stmt:=top 34
theorem eqK {X:Cx}(K:PySem.W.Frag)(hu:X.A.units+64<cLine)(hK:X.K=K:=by rfl):Jb X (compareOp .Eq) (fun x y H Q=>∃dx dy,Wu K H x dx/\Wu K H y dy/\SeqAt.shaped dx=true/\SeqAt.shaped dy=true/\Q (.bl (PyData.eqv dx dy)) H):=hK▸Zfj hu
theorem neC {X:Cx}(K:PySem.W.Frag)(hu:X.A.units+64<cLine)(hK:X.K=K:=by rfl):Jb X (compareOp .NotEq) (fun x y H Q=>∃dx dy,Wu K H x dx/\Wu K H y dy/\SeqAt.shaped dx=true/\SeqAt.shaped dy=true/\Q (.bl (!PyData.eqv dx dy)) H):=hK▸Zfi hu
theorem Zaz (ns:List Int):SeqAt.shaped (.list (ns.map PyData.int))=true:=Zay fun d hd=>by
 obtain⟨k,_,rfl⟩:=List.mem_map.mp hd
 exact⟨rfl,Nat.zero_le _⟩
theorem ZgD (a b:List Int):PyData.eqv (.list (a.map PyData.int)) (.list (b.map PyData.int))=decide (a=b):=by
 show PyData.eqvAll _ _=_
 exact PySem.W.ked_eqvAll _ _
theorem Za9 {d:List Nat}{ns:List Int}(p:List.Perm ns (nI d))(h:ns.Pairwise (· ≤ ·)):ns=(List.range d.length).map (fun x:Nat=>(x:Int))↔d.Perm (List.range d.length):=by
 constructor
 ·intro e
  rw[e] at p
  have:=p.symm.map Int.toNat
  unfold nI at this
  rw[List.map_map,List.map_map] at this
  have e1:d.map (Int.toNat ∘ fun k:Nat=>((k:Nat):Int))=d:=(List.map_congr_left fun k _=>Zj k).trans (List.map_id' d)
  have e2:(List.range d.length).map (Int.toNat ∘ fun x:Nat=>(x:Int))=List.range d.length:=(List.map_congr_left fun k _=>Zj k).trans (List.map_id' _)
  rwa [e1,e2] at this
 ·intro hp
  refine List.Perm.eq_of_pairwise (le:=fun a b:Int=>a<=b) (fun a b _ _ h1 h2=>by omega) h ?_ (p.trans (hp.map fun k:Nat=>((k:Nat):Int)))
  rw[List.pairwise_map]
  exact List.Pairwise.imp (fun h=>by omega) List.pairwise_lt_range
def Zce (K:PySem.W.Frag):Sp:=fun vs H Q _=>∃(p L:Addr) (xs:List V) (os:List (Option (List (Option Nat)))) (ds:List PyData),vs=[.ref L]/\Wc H p L xs os ds/\1<=os.length/\os.length<=10/\∀r d H',Zv H H'->Xs os d->Wu K H' (.ref r) d->Q (.ref r) H'
section
variable {P:Program}{w:World}{K:PySem.W.Frag}{mg:Str->Option Value}{base:Heap}
theorem Zfq {f:Addr}{fd:FuncData}(F:W8 K "_law_due" "_law_due" Zgc f fd)(T:Bl mg)(T2:ZbW mg)(GCl:Fn P w K mg base Yv 1 "_law_closed" ["_law_perms"] Zeu):ZY P w K mg base Yv 2 f fd ["_law_some_here"] (Zce K):=by
 refine F.ok (FS (N:=["_law_some_here", "_law_k", "_law_thing", "_law_good", "_law_things", "_law_rows", "_law_one"])) (fun vs H Q E h=>?_) (fun cdv A outer s H vs Q E hr h=>?_)
 ·obtain⟨p,L,xs,os,ds,rfl,_⟩:=h;rfl
 ·obtain⟨p,L,xs,os,ds,rfl,hS,o1,o10,q⟩:=h
  refine⟨_,Zx (Yr PassesOwn.never rfl (Zcp T.range (pc (cb (WL K) T.len (pc (vn 0) Zt)) Zt)) (gn 1)
   (Zx (ZZ 2 rfl (ZO (ixL K) (vn 0) (vn 1) (fun _ _=>rfl)))
   (Zx (ZZ 3 rfl (Jf (cb (ZfB K "tuple") T.isi (pc (vn 2) (pc (tyv "tuple" T.tuple) Zt))) (WJ (VR ZcK ZcK Zu (cb (WL K) T.len (pc (vn 2) Zt)) Zu))))
   (Zx (Yn (Wg (vn 3)) (Zy (ZZ 3 rfl (Vj (eqK K hr.units) (cmp ["_law_one"] [] ["_law_one"] rfl (itT K (vn 2)) (fun _ _ _ _ _=>gn 0) (fun _ _ _ _ _=>ZdE (JY (Wg (cb (ZfB K "bool") (by exact T.isi) (pc (vn 0) (pc (tyv "bool" (by exact T.bool)) Zt)))) (JX (JZ (Wg (cb (ZfB K "int") (by exact T.isi) (pc (vn 0) (pc (tyv "int" (by exact T.int)) Zt))))))).pt) (fun _ _ _ _ _=>vn 0)) (YM Zt) (ZJ _)))) ZU)
   (Zy (Yn (JY (JZ (Wg (vn 3))) (JY (ZF XN (cb (WL K) T.len (pc (vn 2) Zt)) (cb (WL K) T.len (pc (ZO (ixL K) (vn 0) Zu (fun _ _=>rfl)) Zt)) (ZJ _)) (JX (ZF (neC K hr.units) (cb (Um K) T2.sorted (pc (vn 2) Zt)) (ct (YS rfl) T.list (pc (ct Yp T.range (pc (cb (WL K) T.len (pc (vn 2) Zt)) Zt)) Zt)) (ZJ _))))).pt (Zy (ZP (Ys (pc YL (pc (vn 1) Zt))))) ZU))))))
   (Zx (ZZ 4 rfl (WS GCl hr ZS (pc (vn 0) Zt)))
   (Zx (Yn (UU (ZcJ (vn 4))) (Zy (ZP (Ys (pc YL (pc Zu Zt))))) ZU)
   (Zx (ZZ 5 rfl (YM Zt))
   (Zx (Yr PassesOwn.never rfl (itL K (vn 4)) (gnf 6 rfl)
   (Zy (Y5 (Jw PySem.F.plainAttrs_list PySem.F.slot_list_append PySem.F.type_list_append Yi (vn 5) (pc (ct (tupK K) T.tuple (pc (cmp ["_law_other"] [4,6] ["_law_other", "_law_things", "_law_one"] rfl (itL K (vn 4)) (fun _ _ _ _ _=>gn 0) (fun _ _ _ _ _=>Y6) (fun _ _ _ _ _=>Zfg K PySem.F.plainAttrs_list PySem.F.slot_list_index PySem.F.type_list_index (Zho K hr.units) (vn 1) (pc (ct (tupK K) (by exact T.tuple) (pc (cmp ["_law_place"] [2] ["_law_place", "_law_one"] rfl (itT K (vn 0)) (fun _ _ _ _ _=>gn 0) (fun _ _ _ _ _=>Y6) (fun _ _ _ _ _=>ZO (ixT K) (vn 1) (vn 0) (fun _ _=>rfl))) Zt)) Zt))) Zt)) Zt)))))
   (Zy (ZP (Ys (pc (ct (tupK K) T.tuple (pc (vn 5) Zt)) (pc (vn 4) Zt))))))))),?_⟩
  have sz:(16777216:Nat)=sizeLine:=by decide
  have xl:=hS.lo
  refine⟨_,rfl,L,_,rfl,.inl (.of hS.at_),_,rfl,by rw[xl];omega,by rw[xl];omega,?_⟩
  rw[xl,Zj]
  refine Y0 (fun i σ' H'=>∃(v1 v2 v3:Option V),σ'=[some (.ref L),v1,v2,v3,none,none,none]/\Zv H H'/\∀j,j<i->YX os j=true) ⟨_,_,_,rfl,Zv.refl _,fun j hj=>absurd hj (Nat.not_lt_zero _)⟩ ?_ ?_
  ·rintro i σ' H1 hi ⟨v1,v2,v3,rfl,s1,hal⟩
   rw[show (0:Int)+(i:Int)=(i:Int) by omega]
   have bad:∀H',Zv H H'->YX os i=false->2<=sizeLine/\∀r,H' r=none->Q (.ref r) (upd H' r (.tup [.str "perm",.int (i:Nat)])):=fun H' sH hb=>⟨by decide,fun r nr=>q r _ _ (sH.trans (Zv.upd nr)) (.perm (Jm hi hb hal)) (.tup (.of Zs) (.cons (.str _) (.cons (.int _) .nil)))⟩
   have hx:xs[i]?=some (xs[i]'(by omega)):=Zf (by omega)
   obtain⟨o,d,ho,hd,hT⟩:=hS.th i _ hx
   generalize xs[i]'(by omega)=x at hx hT
   have eo:os.getD i none=o:=by rw[Zb,ho];rfl
   have hT1:=hT.mono s1
   obtain⟨n,hk,ht⟩:=(hT1.th (K:=K)).kd
   refine⟨_,rfl,_,rfl,L,_,_,_,rfl,rfl,.of (s1 _ _ hS.at_),Z8 hx,?_⟩
   refine⟨_,rfl,x,n,rfl,hk,_,rfl,?_⟩
   rw[ht]
   cases hT1 with
   |lst h ne=>
    have hb:YX os i=false:=by unfold YX;rw[eo];rfl
    exact Wj (by decide) ⟨_,rfl,_,rfl,Wj (by decide) ⟨_,rfl,_,rfl,Yt (by decide) (Yt (by decide) ⟨_,rfl,bad H1 s1 hb⟩)⟩⟩
   |non=>
    have hb:YX os i=false:=by unfold YX;rw[eo];rfl
    exact Wj (by decide) ⟨_,rfl,_,rfl,Wj (by decide) ⟨_,rfl,_,rfl,Yt (by decide) (Yt (by decide) ⟨_,rfl,bad H1 s1 hb⟩)⟩⟩
   |str=>
    have hb:YX os i=false:=by unfold YX;rw[eo];rfl
    exact Wj (by decide) ⟨_,rfl,_,rfl,Wj (by decide) ⟨_,rfl,_,rfl,Yt (by decide) (Yt (by decide) ⟨_,rfl,bad H1 s1 hb⟩)⟩⟩
   | @tup a ps h hl hs=>
    have okF:WY (some ps)=false->YX os i=false:=fun z=>by unfold YX;rw[eo,z];rfl
    refine Yt rfl ?_
    refine⟨_,rfl,a,_,rfl,.inr (.of h),_,_,rfl,rfl,_,rfl,?_⟩
    refine Yh (fun h1=>?_) (fun h1=>?_)
    rotate_left
    ·have hz:¬ 1<=ps.length:=fun z=>h1 (decide_eq_true (by rw[Za];omega))
     have hb:YX os i=false:=okF (Bool.eq_false_iff.mpr fun z=>hz ((YW ps).mp z).1)
     exact⟨_,rfl,_,rfl,Wj (by decide) ⟨_,rfl,_,rfl,Yt (by decide) (Yt (by decide) ⟨_,rfl,bad H1 s1 hb⟩)⟩⟩
    have p1:1<=ps.length:=by have:=of_decide_eq_true h1;rw[Za] at this;omega
    refine⟨_,_,rfl,rfl,?_⟩
    have e24:decide (((ps.map iV).length:Int)<=24)=true:=decide_eq_true (by rw[Za];omega)
    refine⟨_,rfl,_,rfl,Yt e24 ?_⟩
    have he:∀y∈ps.map iV,El K H1 y:=fun y hy=>by
     obtain⟨o,_,rfl⟩:=ZcZ hy
     cases o with
     |none=>exact ZeN true
     |some n=>exact Zda n
    refine⟨_,rfl,a,rfl,⟨_,.of h⟩,?_⟩
    refine ZbJ (WV (WG.of h)) [] rfl (fun y=>!Vr y) (fun y=>y) (by rw[Za];omega) ?_ ?_
    ·intro j y H' hy s R R' ga gb
     obtain⟨n',d,hk',_⟩:=(he y (List.mem_of_getElem? hy)).mono s
     have e:=kd_whole hk'
     unfold UA at e
     refine⟨_,rfl,y,n',rfl,hk',_,rfl,?_⟩
     refine Yh (fun b1=>?_) (fun b1=>?_)
     ·rw[b1] at e
      have e':Vr y=false:=by rw[<-e];simp
      exact Yt rfl ⟨_,rfl,ga (by simp[e']) H' (Zv.refl _)⟩
     ·have b1:JC n' "bool"=false:=by simpa using b1
      rw[b1] at e
      refine⟨_,rfl,y,n',rfl,hk',_,rfl,?_⟩
      refine Yh (fun b2=>?_) (fun b2=>?_)
      ·have b2:JC n' "int"=false:=by simpa using b2
       have e':Vr y=false:=by rw[<-e,b2];rfl
       exact⟨_,rfl,ga (by simp[e']) H' (Zv.refl _)⟩
      ·have b2:JC n' "int"=true:=by simpa using b2
       have e':Vr y=true:=by rw[<-e,b2];rfl
       exact gb (by simp[e']) H' (Zv.refl _)
    intro D H2 hD s2 hD'
    refine⟨by decide,fun e0 he0=>?_⟩
    have s3:Zv H1 (upd H2 e0 (.lst [])):=s2.trans (Zv.upd he0)
    have hD3:=Zv.upd (o:=.lst []) he0 _ _ hD'
    have he3:=Zs (H:=H2) (a:=e0) (o:=.lst [])
    generalize upd H2 e0 (.lst [])=H3 at s3 hD3 he3 ⊢
    have s13:=s1.trans s3
    obtain⟨ds',r1,r2,r3⟩:=Ub (K:=K) (H:=H3) (xs:=((ps.map iV).filter fun y=>!Vr y).map fun y=>y) fun y hy=>by
     rw[List.map_id'] at hy
     exact (he y (List.mem_filter.mp hy).1).mono s3
    refine⟨_,_,.lst (.of hD3) r1,.lst (.of he3) .nil,Zay r3,rfl,?_⟩
    have hem:ds'.isEmpty=(ps.map iV).all Vr:=by
     rw[Xf r2,List.map_id']
     exact Xi Vr _
    rw[ZfE,hem]
    refine⟨_,rfl,_,rfl,?_⟩
    refine Yh (fun h3=>?_) (fun h3=>?_)
    ·have h3:(ps.map iV).all Vr=false:=by simpa using h3
     have hb:YX os i=false:=okF (Bool.eq_false_iff.mpr fun z=>by
      obtain⟨_,_,d,rfl,_⟩:=(YW ps).mp z
      rw[YG,Xn] at h3
      cases h3)
     exact Yt (by decide) ⟨_,rfl,bad H3 s13 hb⟩
    have h3:(ps.map iV).all Vr=true:=by simpa using h3
    obtain⟨dd,rfl⟩:=ZcY h3
    have h0:=s3 _ _ h
    obtain⟨y0,hy0⟩:∃y,xs[0]?=some y:=⟨_,Zf (show 0<xs.length by omega)⟩
    obtain⟨oz,dz,hoz,hdz,hTz⟩:=hS.th 0 y0 hy0
    have ez:os.getD 0 none=oz:=by rw[Zb,hoz];rfl
    have hTz3:=hTz.mono s13
    obtain⟨a',ps',rfl,rfl,h'⟩:∃a' ps',y0=.ref a'/\oz=some ps'/\H3 a'=some (.tup (ps'.map iV)):=by
     by_cases hi0:i=0
     ·subst hi0
      rw[hx] at hy0
      cases hy0
      rw[ho] at hoz
      cases hoz
      exact⟨a,_,rfl,rfl,h0⟩
     ·have:=hal 0 (by omega)
      unfold YX at this
      rw[ez,Bool.and_eq_true] at this
      have hbz:=this.1
      cases hTz3 with
      |lst h ne=>cases hbz
      |non=>cases hbz
      |str=>cases hbz
      | @tup a' ps' h' hl' hs'=>exact⟨a',ps',rfl,rfl,h'⟩
    refine⟨_,rfl,a,_,rfl,.inr (.of h0),_,rfl,L,_,0,_,rfl,rfl,.of (s13 _ _ hS.at_),Z8 (j:=0) hy0,a',_,rfl,.inr (.of h'),rfl,_,rfl,?_⟩
    rw[Za,Za,Za]
    refine Yh (fun hlen=>?_) (fun hlen=>?_)
    ·have hne:dd.length≠ps'.length:=fun z=>by rw[z] at hlen;simp at hlen
     have hb:YX os i=false:=by
      unfold YX
      rw[eo,ez,Bool.and_eq_false_iff]
      exact .inr (decide_eq_false (by show ¬(dd.map some).length=ps'.length;rw[Za];exact hne))
     exact Yt (by decide) ⟨_,rfl,bad H3 s13 hb⟩
    have hle:dd.length=ps'.length:=by
     by_cases z:dd.length=ps'.length
     ·exact z
     ·exfalso
      apply hlen
      rw[decide_eq_false (fun w=>z (by injection w with w;omega))]
      rfl
    have hlt:(dd.map some).length<=24:=hl
    rw[Za] at hlt
    have ha3:H3 a=some (.tup ((nI dd).map V.int)):=by rw[VT,<-YG];exact h0
    have nl2:(nI dd).length=dd.length:=by unfold nI;rw[Za]
    refine⟨_,rfl,a,nI dd,rfl,.of ha3,by omega,fun l ns' nl pp psd=>?_⟩
    have s4:=Zv.upd (H:=H3) (o:=.lst (ns'.map V.int)) nl
    have hl4:=Zs (H:=H3) (a:=l) (o:=.lst (ns'.map V.int))
    generalize upd H3 l (.lst (ns'.map V.int))=H4 at s4 hl4 ⊢
    refine⟨_,rfl,a,_,rfl,.inr (.of (s4 _ _ ha3)),_,rfl,fun R nR=>?_⟩
    rw[Za,nl2]
    have s5:=s4.trans (Zv.upd (H:=H4) (o:=.rng 0 (dd.length:Nat)) nR)
    have hl5:=Zv.upd (o:=.rng 0 (dd.length:Nat)) nR _ _ hl4
    have hR5:=Zs (H:=H4) (a:=R) (o:=.rng 0 (dd.length:Nat))
    generalize upd H4 R (.rng 0 (dd.length:Nat))=H5 at s5 hl5 hR5 ⊢
    refine⟨R,0,_,rfl,hR5,⟨by omega,by omega,by omega,by omega⟩,by omega,fun l2 nl2'=>?_⟩
    have er:Yg 0 ((dd.length:Nat)-0:Int).toNat=(List.range dd.length).map fun x:Nat=>(x:Int):=by
     rw[show ((dd.length:Nat)-0:Int).toNat=dd.length by omega]
     unfold Yg
     exact List.map_congr_left fun k _=>Int.zero_add _
    rw[er]
    have s6:=s5.trans (Zv.upd (H:=H5) (o:=.lst (((List.range dd.length).map fun x:Nat=>(x:Int)).map V.int)) nl2')
    have hl6:=Zv.upd (o:=.lst (((List.range dd.length).map fun x:Nat=>(x:Int)).map V.int)) nl2' _ _ hl5
    have h26:=Zs (H:=H5) (a:=l2) (o:=.lst (((List.range dd.length).map fun x:Nat=>(x:Int)).map V.int))
    generalize upd H5 l2 (.lst (((List.range dd.length).map fun x:Nat=>(x:Int)).map V.int))=H6 at s6 hl6 h26 ⊢
    have s16:=s13.trans s6
    refine⟨_,_,.lst (.of hl6) (Yc.ints _),.lst (.of h26) (Yc.ints _),Zaz _,Zaz _,_,rfl,?_⟩
    rw[ZgD]
    have key:=Za9 pp psd
    refine Yh (fun hne=>?_) (fun hne=>?_)
    ·have hnp:¬dd.Perm (List.range dd.length):=fun z=>by
      rw[decide_eq_true (key.mpr z)] at hne
      cases hne
     have hb:YX os i=false:=okF (Bool.eq_false_iff.mpr fun z=>by
      obtain⟨_,_,d',e',hp'⟩:=(YW _).mp z
      have:dd=d':=(List.map_inj_right (fun a b e=>Option.some.inj e)).mp e'
      exact hnp (this▸hp'))
     exact⟨_,rfl,bad H6 s16 hb⟩
    ·have hp:dd.Perm (List.range dd.length):=by
      refine key.mp ?_
      by_cases z:ns'=(List.range dd.length).map fun x:Nat=>(x:Int)
      ·exact z
      ·exfalso
       apply hne
       rw[decide_eq_false z]
       rfl
     refine⟨_,_,_,rfl,s16,fun j hj=>?_⟩
     by_cases hji:j=i
     ·subst hji
      unfold YX
      rw[eo,ez,Bool.and_eq_true]
      exact⟨(YW _).mpr ⟨p1,hl,dd,rfl,hp⟩,decide_eq_true (by show (dd.map some).length=ps'.length;rw[Za];exact hle)⟩
     ·exact hal j (by omega)
  ·rintro σ' H1 ⟨v1,v2,v3,rfl,s1,hal⟩
   obtain⟨gs,n,hos,G⟩:=Uv o1 hal
   have IG:Xw os gs n:=⟨hos,G,hal⟩
   have g1:1<=gs.length:=by rw[hos,Za] at o1;exact o1
   have g10:gs.length<=10:=by rw[hos,Za] at o10;exact o10
   obtain⟨bs,R⟩:=hS.tups hos
   refine⟨_,rfl,L,bs,gs,n,rfl,R.mono s1,G,g1,g10,fun Lz zb zss H2 s2 Rz hs Fl z60=>?_,fun fd H2 s2 nd rc f60=>?_⟩
   ·refine⟨_,rfl,_,rfl,Wj (by rw[decide_eq_false (fun z=>nomatch z)];decide) ?_⟩
    refine⟨(by show 0<=sizeLine;decide),fun Rw nR=>?_⟩
    have s3:=Zv.upd (H:=H2) (o:=.lst []) nR
    have hR3:=Zs (H:=H2) (a:=Rw) (o:=.lst [])
    generalize upd H2 Rw (.lst [])=H3 at s3 hR3 ⊢
    have s13:=(s1.trans s2).trans s3
    have bl:=Rz.tlen
    have n24:=G.n24
    refine⟨_,rfl,Lz,rfl,⟨_,.of (s3 _ _ Rz.1)⟩,?_⟩
    refine W3 (H0:=H2) (YF (K:=K) (.of Rz.1)) (fun i σ' H'=>∃(rs:List Addr) (v6:Option V),σ'=[some (.ref L),v1,v2,v3,some (.ref Lz),some (.ref Rw),v6]/\Zv H2 H'/\ZA H' Rw rs ((Z7 zss).take i))
     ⟨[],_,rfl,s3,⟨hR3,rfl,fun i r hr=>by cases hr⟩⟩ (fun i σ' H' h=>by obtain⟨_,_,_,sm,_⟩:=h;exact sm) ?_ ?_
    ·rintro i y σ' H4 hy ⟨rs,v6,rfl,s4,R4⟩
     obtain⟨b,x,rfl,hx,hb⟩:=Rz.gt9 hy
     have hil:i<zss.length:=(List.getElem?_eq_some_iff.mp hx).1
     have ox:zss.getD i []=x:=by rw[Zb,hx];rfl
     have hxm:=List.mem_of_getElem? hx
     have xlen:=((Fl.all x).mp hxm).len G
     refine⟨_,rfl,.inl ⟨rfl,_,.of R4.1⟩,_,rfl,Lz,rfl,⟨_,.of (s4 _ _ Rz.1)⟩,?_⟩
     refine ZaZ (YF (K:=K) (.of (s4 _ _ Rz.1))) [some (.ref Lz),some (.ref b)] rfl (fun j=>nV (zss.findIdx (· == Yu x (zss.getD j [])))) (by rw[bl];omega) (fun j y' H5 hy' s5 R' k5=>?_) (fun D5 H5 nD5 s5 hD5=>?_)
     ·obtain⟨cz,z,rfl,hz,hcz⟩:=Rz.gt9 hy'
      have hzm:=List.mem_of_getElem? hz
      have oz:zss.getD j []=z:=by rw[Zb,hz];rfl
      have zr:=(Fl.all z).mp hzm
      have s45:=s4.trans s5
      have hcz5:=s45 _ _ hcz
      refine⟨_,rfl,.inl ⟨rfl,_,.of (s45 _ _ Rz.1)⟩,_,rfl,cz,rfl,⟨_,.of hcz5⟩,?_⟩
      refine W4 (WV (.of hcz5)) [some (.ref b)] rfl (Zab x) (by rw[Za,zr.len G];omega) (fun m w HC hw sC R'' ga=>?_) (fun D HD nD sD hD=>?_)
      ·obtain⟨cc,hcc,rfl⟩:=U1 hw
       have hck:cc<n:=zr.lt G cc (List.mem_of_getElem? hcc)
       have:=ga HC (Zv.refl _)
       have e:Zab x (.int (cc:Nat))=.int (x.getD cc 0:Nat):=by
        show nV (x.getD (cc:Int).toNat 0)=_
        rw[Zj]
        rfl
       rw[e] at this
       exact⟨_,rfl,_,rfl,b,_,_,_,rfl,rfl,.of ((s45.trans sC) _ _ hb),Zgm (by omega),this⟩
      ·rw[Xj] at hD
       refine⟨D,_,rfl,.inl ⟨.of hD,fun tp ntp=>?_⟩⟩
       have sE:=sD.trans (Zv.upd (o:=.tup ((Yu x z).map nV)) ntp)
       have hE:upd HD tp (.tup ((Yu x z).map nV)) tp=some (.tup ((Yu x z).map nV)):=Zs
       generalize upd HD tp (.tup ((Yu x z).map nV))=HE at sE hE ⊢
       have RE:=Rz.mono (s45.trans sE)
       have mo:Yu x z∈zss:=(Fl.all _).mpr (((Fl.all x).mp hxm).mul G zr)
       have ey:(zss.map fun ns=>PyData.tuple ((nI ns).map PyData.int))=(zss.map nI).map fun ns=>PyData.tuple (ns.map PyData.int):=by rw[List.map_map];rfl
       obtain⟨fl,_⟩:=ZgC mo
       refine⟨Lz,_,(zss.map fun ns=>PyData.tuple ((nI ns).map PyData.int)),.tuple ((nI (Yu x z)).map PyData.int),_,zss.findIdx (· == Yu x z),rfl,rfl,RE.1,JG _ _ RE.2.1 RE.2.2,.tup (.of (by rw[VT];exact hE)) (Yc.ints _),by rw[ey];exact Wq _,WQ _,X0 _,by rw[Za];exact fl,fun d hd=>?_,fun m d hm hd=>?_,?_⟩
       ·rw[Zc,Zf fl] at hd
        cases hd
        rw[Zc8]
        exact decide_eq_true (eq_of_beq (List.findIdx_getElem (p:=(· == Yu x z)) (w:=fl)))
       ·have hm':m<zss.length:=by omega
        rw[Zc,Zf hm'] at hd
        cases hd
        rw[Zc8]
        have hne:=List.not_of_lt_findIdx (p:=(· == Yu x z)) (xs:=zss) hm
        exact decide_eq_false (beq_eq_false_iff_ne.mp (by simpa using hne))
       ·have:=k5 HE sE
        rw[oz] at this
        exact this
     ·have e:(List.range (zb.map V.ref).length).map (fun j=>nV (zss.findIdx (· == Yu x (zss.getD j []))))=((Z7 zss).getD i []).map nV:=by
       rw[bl,Zat hil,ox,List.map_map]
       rfl
      rw[e] at hD5
      refine⟨D5,_,rfl,.inl ⟨.of hD5,fun z nz=>?_⟩⟩
      have s6:=s5.trans (Zv.upd (H:=H5) (o:=.tup (((Z7 zss).getD i []).map nV)) nz)
      have hz6:=Zs (H:=H5) (a:=z) (o:=.tup (((Z7 zss).getD i []).map nV))
      generalize upd H5 z (.tup (((Z7 zss).getD i []).map nV))=H6 at s6 hz6 ⊢
      have R6:=R4.mono s6
      refine⟨Rw,_,_,rfl,rfl,R6.1,by rw[Za,R6.2.1,List.length_take];omega,?_⟩
      have R7:=R6.push hz6
      have et:(Z7 zss).take i++[(Z7 zss).getD i []]=(Z7 zss).take (i+1):=by
       rw[List.take_add_one,getL (by unfold Z7;rw[Za];exact hil)]
       rfl
      rw[et] at R7
      exact⟨rs++[z],_,rfl,(s4.trans s6).updr nR,R7⟩
    ·rintro σ' H4 ⟨rs,v6,rfl,s4,R4⟩
     rw[bl,List.take_of_length_le (by unfold Z7;rw[Za];exact Zq _)] at R4
     refine⟨_,rfl,Rw,_,rfl,.inl ⟨.of R4.1,fun r nr=>?_⟩⟩
     have s5:=Zv.upd (H:=H4) (o:=.tup (rs.map V.ref)) nr
     have C5:CT (upd H4 r (.tup (rs.map V.ref))) r (Z7 zss):=⟨rs,Zs,R4.2.1,fun i b hb=>s5 _ _ (R4.2.2 i b hb)⟩
     generalize upd H4 r (.tup (rs.map V.ref))=H5 at s5 C5 ⊢
     refine⟨_,rfl,(by show 2<=sizeLine;decide),fun r2 nr2=>?_⟩
     have s6:=Zv.upd (H:=H5) (o:=.tup [.ref r,.ref Lz]) nr2
     exact q r2 _ _ ((s1.trans s2).trans ((s4.trans s5).trans s6)) (.ans IG Fl hs z60) (UR Zs (C5.mono s6) (Rz.mono ((s4.trans s5).trans s6)))
   ·refine⟨_,rfl,_,rfl,Yt (by decide) ?_⟩
    exact⟨(by show 2<=sizeLine;decide),fun r nr=>q r _ _ ((s1.trans s2).trans (Zv.upd nr)) (.many IG nd rc f60) (.tup (.of Zs) (.cons (.str _) (.cons (.int _) .nil)))⟩
end
end C9
namespace L2
open PySem PySem.Spec PyProof.Rows
section
variable {X:Cx}{pos:Pos}
theorem Zhl (i j:Nat){x y:Str}{a b:Expr}{ta:TA}{px py pt:Pos}{kt k2 pt2}(hc:X.calm=true)(ha:PA X [a,b] ta)(hN:YN X.N=true:=by kernel_rfl)(hi:X.N[i]?=some x:=by rfl)(hj:X.N[j]?=some y:=by rfl)(hij:i≠j:=by decide)
  (hx:X.env.scope.names.lookup x=some .local:=by rfl) (hy:X.env.scope.names.lookup y=some .local:=by rfl)
  (hw:swappedStores [.Tuple [.Name x px,.Name y py] kt pt] (.Tuple [a,b] k2 pt2) X.env=pure (some [x,y]):=by rfl)
  (hs:swapsWithSole [.Tuple [.Name x px,.Name y py] kt pt] (.Tuple [a,b] k2 pt2) pos.line X.env=pure false:=by rfl) :
  PS X (.Assign [.Tuple [.Name x px,.Name y py] kt pt] (.Tuple [a,b] k2 pt2) pos) (ZfY i j ta):=Zfc hc (Ya hN) hi hj hij hx hy ha hw hs
end
end L2
namespace C9
open PySem L2 PySem.Spec PyProof.Rows
open Tb Pm
abbrev Zgb:Stmt:=top 32
abbrev Zew:Stmt:=top 36
theorem Zad {xs:List V}{b:Nat}(h:b<=xs.length):Y1 xs none (some (b:Int))=xs.take b:=by
 unfold Y1
 rw[HT.Vg,HT.VN,List.drop_zero,Nat.sub_zero,Nat.min_eq_left h]
theorem ZfI {xs:List V}{b:Nat}(h:b<=xs.length):Y1 xs (some (b:Int)) none=xs.drop b:=by
 unfold Y1
 rw[HT.Vg,HT.VN,Nat.min_eq_left h,List.take_of_length_le (by rw[List.length_drop];omega)]
def Uy (n:Nat)(ys:List V):Prop:=∀y∈ys,∃k:Nat,k<n/\y=.int (k:Nat)
theorem Uy.nats {n:Nat}:∀{ys:List V},Uy n ys->∃ns:List Nat,ys=ns.map nV/\∀k∈ns,k<n
 | [],_=>⟨[],rfl,fun k hk=>by cases hk⟩
 |y::ys,h=>by
  obtain⟨ns,e,hn⟩:=Uy.nats fun z hz=>h z (List.mem_cons_of_mem _ hz)
  obtain⟨k,hk,rfl⟩:=h y List.mem_cons_self
  refine⟨k::ns,by rw[e];rfl,fun m hm=>?_⟩
  rcases List.mem_cons.mp hm with rfl|hm
  ·exact hk
  ·exact hn m hm
theorem Uy.set {n:Nat}{ys:List V}{i k:Nat}(h:Uy n ys)(hk:k<n):Uy n (ys.set i (.int (k:Nat))):=fun y hy=>by
 rcases List.mem_or_eq_of_mem_set hy with h1|h1
 ·exact h y h1
 ·exact⟨k,hk,h1⟩
def X5 (H:Hp)(p L:Addr)(xs:List V):Prop:=H L=some (.lst xs)/\∀x∈xs,∃o d,Tg H p x o d
theorem X5.at {H:Hp}{p L:Addr}{xs:List V}(h:X5 H p L xs):∃os ds,Wc H p L xs os ds:=by
 have:∀ys:List V,(∀x∈ys,∃o d,Tg H p x o d)->∃(os:List (Option (List (Option Nat)))) (ds:List PyData),ys.length=os.length/\ys.length=ds.length/\∀(i:Nat) x,ys[i]?=some x->∃o d,os[i]?=some o/\ds[i]?=some d/\Tg H p x o d:=fun ys=>by
  induction ys with
  |nil=>intro _;exact⟨[],[],rfl,rfl,fun i x hx=>by cases hx⟩
  |cons y ys ih=>
   intro hh
   obtain⟨os,ds,h1,h2,h3⟩:=ih fun z hz=>hh z (List.mem_cons_of_mem _ hz)
   obtain⟨o,d,hT⟩:=hh y List.mem_cons_self
   refine⟨o::os,d::ds,by rw[Zi,Zi,h1],by rw[Zi,Zi,h2],fun i x hx=>?_⟩
   cases i with
   |zero=>cases hx;exact⟨o,d,rfl,rfl,hT⟩
   |succ i=>exact h3 i x hx
 obtain⟨os,ds,h1,h2,h3⟩:=this xs h.2
 exact⟨os,ds,h.1,h1,h2,h3⟩
def Zet:Sp:=fun vs H Q _=>∃(p:Addr) (n:Nat),vs=[.ref p,.int (n:Nat)]/\YD H p/\1<=n/\n<=24/\∀a H' (ns:List Nat),Dr p H H'->H' a=some (.tup (ns.map nV))->ns.length=n->(∀y∈ns,y<n)->Q (.ref a) H'
def Zaw:Sp:=fun vs H Q _=>∃(p:Addr),vs=[.ref p]/\YD H p/\∀L xs H',Dr p H H'->X5 H' p L xs->1<=xs.length->xs.length<=10->Q (.ref L) H'
section
variable {P:Program}{w:World}{K:PySem.W.Frag}{mg:Str->Option Value}{base:Heap}
theorem Zfp {f:Addr}{fd:FuncData}(F:W8 K "_law_few" "_law_few" Zgb f fd)(T:Bl mg)(GD:Fn P w K mg base Yv 1 "_law_draw" ["_law_feed_here", "_law_many"] Va):ZY P w K mg base Yv 2 f fd ["_law_feed_here", "_law_many"] Zet:=by
 refine F.ok (FS (N:=["_law_feed_here", "_law_many", "_law_found", "_law_k", "_law_a", "_law_b"])) (fun vs H Q E h=>?_) (fun cdv A outer s H vs Q E hr h=>?_)
 ·obtain⟨p,n,rfl,_⟩:=h;rfl
 ·obtain⟨p,n,rfl,Fd,n1,n24,q⟩:=h
  refine⟨_,Zx (ZZ 2 rfl (ct (YS rfl) T.list (pc (ct Yp T.range (pc (vn 1) Zt)) Zt)))
   (Zx (Yr PassesOwn.never rfl (Zcp T.range (pc (ZX YA Zu (WS GD hr ZS (pc (vn 0) (pc Zu Zt)))) Zt)) (gn 3)
   (Zx (Zhl 4 5 rfl (pc (WS GD hr ZS (pc (vn 0) (pc (vn 1) Zt))) (pc (WS GD hr ZS (pc (vn 0) (pc (vn 1) Zt))) Zt)))
   (Zy (J4 (Ys (pc (ZO (ixL K) (vn 2) (vn 5) (fun _ _=>rfl)) (pc (ZO (ixL K) (vn 2) (vn 4) (fun _ _=>rfl)) Zt))) (Zcz rfl (WX (Je (vn 2) (vn 4) YT) (WX (Je (vn 2) (vn 5) YT) ZaE)))))))
   (Zy (ZP (ct (tupK K) T.tuple (pc (vn 2) Zt))))),?_⟩
  have sz:(16777216:Nat)=sizeLine:=by decide
  refine⟨_,rfl,n,rfl,fun r0 hr0=>⟨r0,0,n,rfl,Zs,⟨by omega,by omega,by omega,by omega⟩,by omega,fun l hl0=>?_⟩⟩
  have el:(Yg 0 ((n:Int)-0).toNat).map V.int=(List.range n).map nV:=by
   rw[show ((n:Int)-0).toNat=n by omega]
   exact Ze6 n
  rw[el]
  have s1:=(Zv.upd (H:=H) (o:=.rng 0 (n:Int)) hr0).trans (Zv.upd (o:=.lst ((List.range n).map nV)) hl0)
  have hl1:=Zs (H:=upd H r0 (.rng 0 (n:Int))) (a:=l) (o:=.lst ((List.range n).map nV))
  have nlH:H l=none:=(Zv.upd (H:=H) (o:=.rng 0 (n:Int)) hr0).free hl0
  generalize upd (upd H r0 (.rng 0 (n:Int))) l (.lst ((List.range n).map nV))=H1 at s1 hl1 ⊢
  have F1:=Fd.mono s1
  have nlp:l≠p:=fun z=>by obtain⟨q0,ns,i,j,k,Fa⟩:=Fd;have:=Fa.hp;rw[<-z,nlH] at this;cases this
  have A0:Uy n ((List.range n).map nV):=fun y hy=>by
   obtain⟨k,hk,rfl⟩:=List.mem_map.mp hy
   exact⟨k,List.mem_range.mp hk,rfl⟩
  refine⟨_,rfl,p,2,rfl,F1,by decide,by decide,fun r2 H2 b0 b1 d2=>?_⟩
  refine⟨_,_,rfl,rfl,_,rfl,by omega,by omega,?_⟩
  refine Y0 (fun i σ' H'=>∃(v3 v4 v5:Option V) (ys:List V),σ'=[some (.ref p),some (.int (n:Nat)),some (.ref l),v3,v4,v5]/\Dr p H H'/\H' l=some (.lst ys)/\ys.length=n/\Uy n ys) ⟨_,_,_,_,rfl,Dr.pre s1 d2,d2.keep _ _ hl1 nlp,by rw[Za,Zg],A0⟩ ?_ ?_
  ·rintro i σ' H3 hi ⟨v3,v4,v5,ys,rfl,d3,hl3,yl,A3⟩
   have F3:=d3.feed Fd
   refine⟨_,rfl,_,rfl,p,_,rfl,F3,by omega,Wz (by omega) (by omega),fun ra H4 a0 a1 d4=>?_⟩
   have F4:=d4.feed F3
   refine⟨_,rfl,_,rfl,p,_,rfl,F4,by omega,Wz (by omega) (by omega),fun rb H5 c0 c1 d5=>?_⟩
   obtain⟨ka,rfl⟩:=Int.eq_ofNat_of_zero_le a0
   obtain⟨kb,rfl⟩:=Int.eq_ofNat_of_zero_le c0
   have hl5:=d5.keep _ _ (d4.keep _ _ hl3 nlp) nlp
   have d35:=(d3.trans d4).trans d5
   have hka:ka<ys.length:=by omega
   have hkb:kb<ys.length:=by omega
   have ga:ys[ka]?=some ys[ka]:=Zf hka
   have gb:ys[kb]?=some ys[kb]:=Zf hkb
   obtain⟨ya,hya,ea⟩:=A3 _ (List.mem_of_getElem? ga)
   obtain⟨yb,hyb,eb⟩:=A3 _ (List.mem_of_getElem? gb)
   rw[ea] at ga
   rw[eb] at gb
   refine⟨_,_,rfl,?_⟩
   refine⟨_,rfl,_,rfl,l,_,_,_,rfl,rfl,.of hl5,Z8 gb,_,rfl,_,rfl,l,_,_,_,rfl,rfl,.of hl5,Z8 ga,(by show 2<=sizeLine;decide),fun tp ntp=>?_⟩
   have s6:=Zv.upd (H:=H5) (o:=.tup [.int (yb:Nat),.int (ya:Nat)]) ntp
   have ht6:=Zs (H:=H5) (a:=tp) (o:=.tup [.int (yb:Nat),.int (ya:Nat)])
   have hl6:=s6 _ _ hl5
   have d6:=d35.same s6
   generalize upd H5 tp (.tup [.int (yb:Nat),.int (ya:Nat)])=H6 at s6 ht6 hl6 d6 ⊢
   have ltp:tp≠l:=fun z=>by rw[z,hl6] at ht6;cases ht6
   refine⟨tp,_,rfl,.of ht6,rfl,_,_,rfl,_,rfl,_,rfl,l,_,_,ka,rfl,rfl,hl6,V4 hka,?_⟩
   refine⟨_,_,rfl,_,rfl,_,rfl,l,_,_,kb,rfl,rfl,Zs,V4 (by rw[List.length_set];exact hkb),rfl,?_⟩
   exact⟨_,_,_,_,rfl,(d6.updN nlH).updN nlH,Zs,by rw[List.length_set,List.length_set];exact yl,(A3.set hyb).set hya⟩
  ·rintro σ' H3 ⟨v3,v4,v5,ys,rfl,d3,hl3,yl,A3⟩
   obtain⟨ns,rfl,hn⟩:=A3.nats
   refine⟨_,rfl,l,_,rfl,.inl ⟨.of hl3,fun r nr=>?_⟩⟩
   exact q r _ ns (d3.same (Zv.upd nr)) Zs (by rw[Za] at yl;exact yl) hn
end
section
variable {X:Cx}
theorem Yd:QA X [] Zf0:=⟨Zt⟩
theorem WI {e:Expr}{t:TE}(h:PE X e t):QE X e t:=⟨h⟩
theorem YJ {e:Expr}{es:List Expr}{te:TE}{t:TA}(h:QE X e te)(r:QA X es t)(hs:YO e=true:=by rfl):QA X (e::es) (Zb4 te t):=⟨pc h.h r.h hs⟩
theorem XE {es:List Expr}{t:TA}{pos:Pos}(h:QA X es t):QE X (.List es pos) (Zf2 t):=⟨YM h.h⟩
theorem WH {es:List Expr}{t:TA}{k:Nat}{pos:Pos}(h:QA X es t):QE X (.Tuple es k pos) (ZfV t):=⟨Ys h.h⟩
theorem Zg5 {c:Expr}{a b:List Stmt}{tc:TT}{t u:TS}{pos:Pos}(hc:PT X c tc)(ha:QSs X a t)(hb:X6 X b u):QS X (.If c a b pos) (Zf3 tc t u):=⟨Yn hc ha.h hb⟩
theorem Zb1 {st:Stmt}{t:TS}(h1:QS X st t):QSs X [st] t:=⟨Zy h1.h⟩
end
theorem YD.ne_none {p l:Addr}{H:Hp}(F:YD H p)(h:H l=none):l≠p:=fun z=>by
 obtain⟨q,ns,i,j,k,Fa⟩:=F
 have:=Fa.hp
 rw[<-z,h] at this
 cases this
theorem X5.mono {H H':Hp}{p L:Addr}{xs:List V}(s:Zv H H')(h:X5 H p L xs):X5 H' p L xs:=⟨s _ _ h.1,fun x hx=>let ⟨o,d,t⟩:=h.2 x hx;⟨o,d,t.mono s⟩⟩
theorem X5.dr {H H':Hp}{p L:Addr}{xs:List V}(F:YD H p)(s:Dr p H H')(ne:L≠p)(h:X5 H p L xs):X5 H' p L xs:=⟨s.keep _ _ h.1 ne,fun x hx=>let ⟨o,d,t⟩:=h.2 x hx;⟨o,d,t.dr F s⟩⟩
def SmT (H:Hp)(xs:List V):Prop:=∀x∈xs,∃(a:Addr) (ns:List Nat),x=.ref a/\H a=some (.tup (ns.map nV))/\ns.length<=24/\∀k∈ns,k<=100
theorem Zas {H:Hp}{p a:Addr}{ns:List Nat}(h:H a=some (.tup (ns.map nV)))(hl:ns.length<=24)(hs:∀k∈ns,k<=100):∃o d,Tg H p (.ref a) o d:=⟨_,_,.tup (ps:=ns.map some) (by rw[YG];exact h) (by rw[Za];exact hl) fun n hn=>by
 obtain⟨k,hk,e⟩:=List.mem_map.mp hn
 cases e
 exact hs _ hk⟩
theorem SmT.tg {H:Hp}{p:Addr}{xs:List V}(h:SmT H xs):∀x∈xs,∃o d,Tg H p x o d:=fun x hx=>by
 obtain⟨a,ns,rfl,h1,h2,h3⟩:=h x hx
 exact Zas h1 h2 h3
theorem SmT.dr {H H':Hp}{p:Addr}{xs:List V}(F:YD H p)(s:Dr p H H')(h:SmT H xs):SmT H' xs:=fun x hx=>by
 obtain⟨a,ns,rfl,h1,h2⟩:=h x hx
 exact⟨a,ns,rfl,s.tup F h1,h2⟩
theorem SmT.push {H:Hp}{L a:Addr}{xs ys:List V}{ns:List Nat}(h:SmT H xs)(hL:H L=some (.lst ys))(ha:H a=some (.tup (ns.map nV)))(hl:ns.length<=24)(hs:∀k∈ns,k<=100){o:HO}:SmT (upd H L o) (xs++[.ref a]):=fun x hx=>by
 rcases List.mem_append.mp hx with hx|hx
 ·obtain⟨b,ms,rfl,h1,h2⟩:=h x hx
  exact⟨b,ms,rfl,by rw[Zw (fun z=>by rw[z,hL] at h1;cases h1)];exact h1,h2⟩
 ·rw[List.mem_singleton.mp hx]
  exact⟨a,ns,rfl,by rw[Zw (fun z=>by rw[z,hL] at ha;cases ha)];exact ha,hl,hs⟩
theorem ZaH {n:Nat}{ns:List Int}(h:∀y∈ns,0<=y/\y<n):∃ms:List Nat,ns.map V.int=ms.map nV/\ms.length=ns.length/\∀k∈ms,k<n:=by
 refine⟨ns.map Int.toNat,?_,by rw[Za],fun k hk=>?_⟩
 ·rw[List.map_map]
  refine List.map_congr_left fun y hy=>?_
  show V.int y=V.int ((y.toNat:Nat):Int)
  rw[Int.toNat_of_nonneg (h y hy).1]
 ·obtain⟨y,hy,rfl⟩:=List.mem_map.mp hk
  have:=h y hy
  omega
section
variable {P:Program}{w:World}{K:PySem.W.Frag}{mg:Str->Option Value}{base:Heap}
theorem ZdP {f:Addr}{fd:FuncData}(F:W8 K "_law_some" "_law_some" Zew f fd)(T:Bl mg)(GD:Fn P w K mg base Yv 1 "_law_draw" ["_law_feed_here", "_law_many"] Va)(GFw:Fn P w K mg base Yv 2 "_law_few" ["_law_feed_here", "_law_many"] Zet)(GPm:Fn P w K mg base Yv 2 "_law_perm" ["_law_feed_here", "_law_many"] Zcb) :
  ZY P w K mg base Yv 3 f fd ["_law_feed_here"] Zaw:=by
 refine F.ok (FS (N:=["_law_feed_here", "_law_many", "_law_some_here", "_law_k", "_law_odd", "_law_at"])) (fun vs H Q E h=>?_) (fun cdv A outer s H vs Q E hr h=>?_)
 ·obtain⟨p,rfl,_⟩:=h;rfl
 ·obtain⟨p,rfl,Fd,q⟩:=h
  refine⟨_,QSs.out (YK ⟨ZZ 1 rfl (ZX YA Zu (WS GD hr ZS (pc (vn 0) (pc Zu Zt))))⟩
   (YK (Zcv 2 rfl (XE Yd))
   (YK ⟨Yr PassesOwn.never rfl (Zcp T.range (pc (ZX YA Zu (WS GD hr ZS (pc (vn 0) (pc Zu Zt)))) Zt)) (gn 3)
   (Zy (Y5 (Jw PySem.F.plainAttrs_list PySem.F.slot_list_append PySem.F.type_list_append Yi (vn 2) (pc (W1 (ZF VS (WS GD hr ZS (pc (vn 0) (pc Zu Zt))) Zu (ZJ _)) (WS GFw hr ZS (pc (vn 0) (pc (vn 1) Zt))) (WS GPm hr ZS (pc (vn 0) (pc (vn 1) Zt)))) Zt))))⟩
   (YK (Zg5 (ZF XQ (WS GD hr ZS (pc (vn 0) (pc Zu Zt))) Zu (ZJ _)) (YK (Zcv 4 rfl (XE (YJ (WH (YJ (WI Zu) Yd)) (YJ (WH (YJ (WI Zu) (YJ (WI Zu) Yd))) (YJ (WH (YJ (WI XM) (YJ (WI Zu) Yd))) (YJ (WH (YJ (WI Zu) (YJ (WI Zu) Yd))) (YJ (XE (YJ (WI Zu) (YJ (WI Zu) Yd))) (YJ (WI J8) (YJ (WI YL) (YJ (WH Yd) (YJ (WI (WS GPm hr ZS (pc (vn 0) (pc (ZX YA Zu (WS GD hr ZS (pc (vn 0) (pc Zu Zt)))) Zt)))) Yd)))))))))))
   (YK ⟨ZZ 5 rfl (WS GD hr ZS (pc (vn 0) (pc (ZX YA (cb (WL K) T.len (pc (vn 2) Zt)) Zu) Zt)))⟩
   (Zb1 ⟨ZZ 2 rfl (ZX Vl (ZX Vl (W0 JF (vn 2) JI (JH (vn 5))) (YM (pc (ZO (ixL K) (vn 4) (WS GD hr ZS (pc (vn 0) (pc Zu Zt))) (fun _ _=>rfl)) Zt))) (W0 JF (vn 2) (JH (vn 5)) JI))⟩))) ZU)
   (Zb1 ⟨ZP (W1 (ZF XQ (WS GD hr ZS (pc (vn 0) (pc Zu Zt))) Zu (ZJ _)) (ZX Vl (vn 2) (W0 JF (vn 2) JI (JH Zu))) (vn 2))⟩))))),?_⟩
  have sz:(16777216:Nat)=sizeLine:=by decide
  refine⟨_,rfl,p,8,rfl,Fd,by decide,by decide,fun r1 H1 b0 b1 d1=>?_⟩
  obtain⟨rn,rfl⟩:=Int.eq_ofNat_of_zero_le b0
  have F1:=d1.feed Fd
  have ec:(1:Int)+(rn:Int)=((rn+1:Nat):Int):=by push_cast;omega
  refine⟨_,_,rfl,rfl,?_⟩
  refine⟨(by show 0<=sizeLine;decide),fun L0 nL0=>?_⟩
  have sL:=Zv.upd (H:=H1) (o:=.lst []) nL0
  have hL:=Zs (H:=H1) (a:=L0) (o:=.lst [])
  have nLp:L0≠p:=F1.ne_none nL0
  generalize upd H1 L0 (.lst [])=H2 at sL hL ⊢
  have F2:=F1.mono sL
  refine⟨_,rfl,p,3,rfl,F2,by decide,by decide,fun r3 H3 c0 c1 d3=>?_⟩
  obtain⟨rm,rfl⟩:=Int.eq_ofNat_of_zero_le c0
  refine⟨_,_,rfl,rfl,_,rfl,by omega,by omega,?_⟩
  have ecm:((1:Int)+(rm:Int)).toNat=rm+1:=by omega
  rw[ecm]
  have hrn:rn<8:=by omega
  have hrm:rm<3:=by omega
  have nLH:True:=trivial
  have d13:Dr p H H3:=(d1.same sL).trans d3
  have e1:V.int ((1:Int)+(rn:Int))=V.int ((rn+1:Nat):Int):=congrArg V.int ec
  refine Y0 (fun i σ' H'=>∃(v3:Option V) (xs:List V),σ'=[some (.ref p),some (.int ((rn+1:Nat):Int)),some (.ref L0),v3,none,none]/\Dr p H1 H'/\H' L0=some (.lst xs)/\SmT H' xs/\xs.length=i) ⟨none,[],by rw[<-e1];rfl,(Dr.of sL).trans d3,d3.keep _ _ hL nLp,(fun x hx=>by cases hx),rfl⟩ ?_ ?_
  ·rintro i σ' H4 hi ⟨v3,xs,rfl,d4,hL4,T4,xl⟩
   have F4:=d4.feed F1
   have fin:∀(a:Addr) (ns:List Nat) (H6:Hp),Dr p H4 H6->H6 a=some (.tup (ns.map nV))->ns.length=rn+1->(∀k∈ns,k<rn+1)->∃p_1 ys y,V.ref L0=V.ref p_1/\[V.ref a]=[y]/\H6 p_1=some (.lst ys)/\ys.length<sizeLine/\∃(v3:Option V) (xs:List V),[some (.ref p),some (.int ((rn+1:Nat):Int)),some (.ref L0),some (V.int (0+(i:Int))),none,none]=[some (.ref p),some (.int ((rn+1:Nat):Int)),some (.ref L0),v3,none,none]/\Dr p H1 (upd H6 p_1 (.lst (ys++[y])))/\(upd H6 p_1 (.lst (ys++[y]))) L0=some (.lst xs)/\SmT (upd H6 p_1 (.lst (ys++[y]))) xs/\xs.length=i+1:=fun a ns H6 d6 ha hl hk=>by
    have hL6:=d6.keep _ _ hL4 nLp
    have T6:=T4.dr F4 d6
    exact⟨L0,_,_,rfl,rfl,hL6,by omega,_,_,rfl,(d4.trans d6).updN nL0,Zs,T6.push hL6 ha (by omega) (fun k hkm=>by have:=hk k hkm;omega),by rw[Zd,xl];rfl⟩
   refine⟨_,rfl,.inl ⟨rfl,_,.of hL4⟩,_,rfl,p,3,rfl,F4,by decide,by decide,fun r5 H5 x0 x1 d5=>?_⟩
   have F5:=d5.feed F4
   refine⟨_,_,rfl,rfl,_,rfl,?_⟩
   refine Yh (fun _=>?_) (fun _=>?_)
   ·refine⟨_,rfl,_,rfl,p,rn+1,rfl,F5,by omega,by omega,fun a H6 ns d6 ha hl hk=>?_⟩
    exact fin a ns H6 (d5.trans d6) ha hl hk
   ·refine⟨_,rfl,_,rfl,p,rn+1,rfl,F5,by omega,fun a H6 ns d6 ha hl hk=>?_⟩
    obtain⟨ms,e,ml,mk⟩:=ZaH hk
    rw[e] at ha
    exact fin a ms H6 (d5.trans d6) ha (by omega) mk
  ·rintro σ' H4 ⟨v3,xs,rfl,d4,hL4,T4,xl⟩
   have F4:=d4.feed F1
   have d14:=d1.trans d4
   have SM4:X5 H4 p L0 xs:=⟨hL4,T4.tg⟩
   refine⟨_,rfl,p,4,rfl,F4,by decide,by decide,fun r5 H5 x0 x1 d5=>?_⟩
   have F5:=d5.feed F4
   have SM5:=X5.dr F4 d5 nLp SM4
   have d15:=d14.trans d5
   refine⟨rfl,_,rfl,?_⟩
   refine Yh (fun _=>?_) (fun _=>?_)
   ·skip
    refine⟨(by show 1<=sizeLine;decide),fun t1 nt1=>?_⟩
    have St1:=Zv.upd (H:=H5) (o:=.tup [.int 0]) nt1
    have ht1:=Zs (H:=H5) (a:=t1) (o:=.tup [.int 0])
    generalize upd H5 t1 (.tup [.int 0])=G1 at St1 ht1  ⊢
    refine⟨(by show 2<=sizeLine;decide),fun t2 nt2=>?_⟩
    have St2:=Zv.upd (H:=G1) (o:=.tup [.int 1,.int 1]) nt2
    have ht2:=Zs (H:=G1) (a:=t2) (o:=.tup [.int 1,.int 1])
    have ht1:=St2 _ _ ht1
    generalize upd G1 t2 (.tup [.int 1,.int 1])=G2 at St2 ht2 ht1 ⊢
    refine⟨(by show 2<=sizeLine;decide),fun t3 nt3=>?_⟩
    have St3:=Zv.upd (H:=G2) (o:=.tup [.bl true,.int 0]) nt3
    have ht3:=Zs (H:=G2) (a:=t3) (o:=.tup [.bl true,.int 0])
    have ht1:=St3 _ _ ht1
    have ht2:=St3 _ _ ht2
    generalize upd G2 t3 (.tup [.bl true,.int 0])=G3 at St3 ht3 ht1 ht2 ⊢
    refine⟨(by show 2<=sizeLine;decide),fun t4 nt4=>?_⟩
    have St4:=Zv.upd (H:=G3) (o:=.tup [.int 0,.int 2]) nt4
    have ht4:=Zs (H:=G3) (a:=t4) (o:=.tup [.int 0,.int 2])
    have ht1:=St4 _ _ ht1
    have ht2:=St4 _ _ ht2
    have ht3:=St4 _ _ ht3
    generalize upd G3 t4 (.tup [.int 0,.int 2])=G4 at St4 ht4 ht1 ht2 ht3 ⊢
    refine⟨(by show 2<=sizeLine;decide),fun l5 nl5=>?_⟩
    have Sl5:=Zv.upd (H:=G4) (o:=.lst [.int 0,.int 1]) nl5
    have hl5:=Zs (H:=G4) (a:=l5) (o:=.lst [.int 0,.int 1])
    have ht1:=Sl5 _ _ ht1
    have ht2:=Sl5 _ _ ht2
    have ht3:=Sl5 _ _ ht3
    have ht4:=Sl5 _ _ ht4
    generalize upd G4 l5 (.lst [.int 0,.int 1])=G5 at Sl5 hl5 ht1 ht2 ht3 ht4 ⊢
    refine⟨(by show 0<=sizeLine;decide),fun t8 nt8=>?_⟩
    have St8:=Zv.upd (H:=G5) (o:=.tup []) nt8
    have ht8:=Zs (H:=G5) (a:=t8) (o:=.tup [])
    have ht1:=St8 _ _ ht1
    have ht2:=St8 _ _ ht2
    have ht3:=St8 _ _ ht3
    have ht4:=St8 _ _ ht4
    have hl5:=St8 _ _ hl5
    generalize upd G5 t8 (.tup [])=G6 at St8 ht8 ht1 ht2 ht3 ht4 hl5 ⊢
    have sG:Zv H5 G6:=St1.trans (St2.trans (St3.trans (St4.trans (Sl5.trans St8))))
    have l5p:l5≠p:=fun z=>by
     obtain⟨q0,ns0,i0,j0,k0,Fa⟩:=F5.mono sG
     have:=Fa.hp
     rw[<-z,hl5] at this
     cases this
    have FG:=F5.mono sG
    have SMG:=SM5.mono sG
    refine⟨_,rfl,_,rfl,p,8,rfl,FG,by decide,by decide,fun r7 H7 y0 y1 d7=>?_⟩
    obtain⟨r7n,rfl⟩:=Int.eq_ofNat_of_zero_le y0
    have ec7:(1:Int)+(r7n:Int)=((r7n+1:Nat):Int):=by push_cast;omega
    have F7:=d7.feed FG
    refine⟨_,_,rfl,rfl,p,r7n+1,by rw[<-ec7];rfl,F7,by omega,fun a8 H8 ns8 d8 ha8 hl8 hk8=>?_⟩
    obtain⟨ms8,e8,ml8,mk8⟩:=ZaH hk8
    rw[e8] at ha8
    have d78:=d7.trans d8
    have F8:=d8.feed F7
    have SM8:=X5.dr FG d78 nLp SMG
    have TO:∀x∈[V.ref t1,V.ref t2,V.ref t3,V.ref t4,V.ref l5,V.non,V.str "",V.ref t8,V.ref a8],∃o d,Tg H8 p x o d:=fun x hx=>by
     have T1:Tg H8 p (.ref t1) (some [some 0]) _:=.tup (d78.tup FG ht1) (by decide) (by simp)
     have T2:Tg H8 p (.ref t2) (some [some 1,some 1]) _:=.tup (d78.tup FG ht2) (by decide) (by simp)
     have T3:Tg H8 p (.ref t3) (some [none,some 0]) _:=.tup (d78.tup FG ht3) (by decide) (by simp)
     have T4:Tg H8 p (.ref t4) (some [some 0,some 2]) _:=.tup (d78.tup FG ht4) (by decide) (by simp)
     have T8:Tg H8 p (.ref t8) (some []) _:=.tup (d78.tup FG ht8) (by decide) (by simp)
     rcases List.mem_cons.mp hx with rfl|hx
     ·exact⟨_,_,T1⟩
     rcases List.mem_cons.mp hx with rfl|hx
     ·exact⟨_,_,T2⟩
     rcases List.mem_cons.mp hx with rfl|hx
     ·exact⟨_,_,T3⟩
     rcases List.mem_cons.mp hx with rfl|hx
     ·exact⟨_,_,T4⟩
     rcases List.mem_cons.mp hx with rfl|hx
     ·exact⟨_,_,.lst (d78.keep _ _ hl5 l5p) l5p⟩
     rcases List.mem_cons.mp hx with rfl|hx
     ·exact⟨_,_,.non⟩
     rcases List.mem_cons.mp hx with rfl|hx
     ·exact⟨_,_,.str⟩
     rcases List.mem_cons.mp hx with rfl|hx
     ·exact⟨_,_,T8⟩
     ·rw[List.mem_singleton.mp hx]
      exact Zas ha8 (by omega) fun k hk=>by have:=mk8 k hk;omega
    generalize hO:[V.ref t1,V.ref t2,V.ref t3,V.ref t4,V.ref l5,V.non,V.str "",V.ref t8,V.ref a8]=od at TO
    have ol:od.length=9:=by rw[<-hO];rfl
    refine⟨(by show 9<=sizeLine;decide),fun Lo nLo=>?_⟩
    rw[hO]
    have Lop:Lo≠p:=F8.ne_none nLo
    have SLo:=Zv.upd (H:=H8) (o:=.lst od) nLo
    have hLo:=Zs (H:=H8) (a:=Lo) (o:=.lst od)
    have SML:=SM8.mono SLo
    have FL:=F8.mono SLo
    have SO:X5 (upd H8 Lo (.lst od)) p Lo od:=⟨hLo,fun x hx=>let ⟨o,d,t⟩:=TO x hx;⟨o,d,t.mono SLo⟩⟩
    generalize upd H8 Lo (.lst od)=HL at SLo hLo SML FL SO ⊢
    have dL:Dr p H HL:=((d15.same sG).trans d78).same SLo
    refine⟨_,rfl,_,rfl,L0,_,rfl,.inl (.of SML.1),_,_,rfl,rfl,p,_,rfl,FL,by omega,Wz (by omega) (by omega),fun ra HA z0 z1 dA=>?_⟩
    obtain⟨at',rfl⟩:=Int.eq_ofNat_of_zero_le z0
    have hat:at'<=xs.length:=by omega
    have FA:=dA.feed FL
    have SMA:=X5.dr FL dA nLp SML
    have SOA:=X5.dr FL dA Lop SO
    have ddA:=dL.trans dA
    refine⟨_,rfl,_,rfl,_,rfl,L0,_,rfl,.of SMA.1,fun c1 nc1=>?_⟩
    have e1c:Y1 xs none (some (at':Int))=xs.take at':=Zad hat
    rw[e1c]
    have s1c:=Zv.upd (H:=HA) (o:=.lst (xs.take at')) nc1
    have h1c:=Zs (H:=HA) (a:=c1) (o:=.lst (xs.take at'))
    have c1p:c1≠p:=FA.ne_none nc1
    have FB:=FA.mono s1c
    have SMB:=SMA.mono s1c
    have SOB:=SOA.mono s1c
    generalize upd HA c1 (.lst (xs.take at'))=HB at s1c h1c FB SMB SOB ⊢
    refine⟨_,rfl,_,rfl,p,9,rfl,FB,by decide,by decide,fun rx HC w0 w1 dC=>?_⟩
    obtain⟨kx,rfl⟩:=Int.eq_ofNat_of_zero_le w0
    have FC:=dC.feed FB
    have SMC:=X5.dr FB dC nLp SMB
    have SOC:=X5.dr FB dC Lop SOB
    have h1C:=dC.keep _ _ h1c c1p
    have hkx:od[kx]?=some (od[kx]'(by omega)):=Zf (by omega)
    have TX:=SOC.2 _ (List.mem_of_getElem? hkx)
    generalize od[kx]'(by omega)=xo at hkx TX
    refine⟨Lo,_,_,_,rfl,rfl,.of SOC.1,Z8 hkx,(by show 1<=sizeLine;decide),fun c2 nc2=>?_⟩
    have s2c:=Zv.upd (H:=HC) (o:=.lst [xo]) nc2
    have h2c:=Zs (H:=HC) (a:=c2) (o:=.lst [xo])
    have h1D:=s2c _ _ h1C
    generalize upd HC c2 (.lst [xo])=HD at s2c h2c h1D ⊢
    refine⟨c1,c2,_,_,rfl,rfl,h1D,h2c,by rw[List.length_take,Zk];omega,fun c3 nc3=>?_⟩
    have s3c:=s2c.trans (Zv.upd (H:=HD) (o:=.lst (xs.take at'++[xo])) nc3)
    have h3c:=Zs (H:=HD) (a:=c3) (o:=.lst (xs.take at'++[xo]))
    generalize upd HD c3 (.lst (xs.take at'++[xo]))=HE at s3c h3c ⊢
    refine⟨_,rfl,_,rfl,_,rfl,L0,_,rfl,.of (s3c _ _ SMC.1),fun c4 nc4=>?_⟩
    have e4c:Y1 xs (some (at':Int)) none=xs.drop at':=ZfI hat
    rw[e4c]
    have s4c:=s3c.trans (Zv.upd (H:=HE) (o:=.lst (xs.drop at')) nc4)
    have h4c:=Zs (H:=HE) (a:=c4) (o:=.lst (xs.drop at'))
    have h3F:=Zv.upd (o:=.lst (xs.drop at')) nc4 _ _ h3c
    generalize upd HE c4 (.lst (xs.drop at'))=HF at s4c h4c h3F ⊢
    have lXS:(xs.take at'++[xo]++xs.drop at').length=xs.length+1:=by rw[Zd,Zd,List.length_take,List.length_drop,Zk];omega
    refine⟨c3,c4,_,_,rfl,rfl,h3F,h4c,by rw[<-Zd,lXS];omega,fun L9 nL9=>?_⟩
    have s9c:=s4c.trans (Zv.upd (H:=HF) (o:=.lst (xs.take at'++[xo]++xs.drop at')) nL9)
    have h9c:=Zs (H:=HF) (a:=L9) (o:=.lst (xs.take at'++[xo]++xs.drop at'))
    have FF9:=FC.mono s9c
    have SM9':X5 (upd HF L9 (.lst (xs.take at'++[xo]++xs.drop at'))) p L9 (xs.take at'++[xo]++xs.drop at'):=⟨h9c,fun x hx=>by
     rcases List.mem_append.mp hx with h|h
     ·rcases List.mem_append.mp h with h|h
      ·obtain⟨o,d,t⟩:=SMC.2 x (List.mem_of_mem_take h);exact⟨o,d,t.mono s9c⟩
      ·rw[List.mem_singleton.mp h];obtain⟨o,d,t⟩:=TX;exact⟨o,d,t.mono s9c⟩
     ·obtain⟨o,d,t⟩:=SMC.2 x (List.mem_of_mem_drop h);exact⟨o,d,t.mono s9c⟩⟩
    have dd9':Dr p H (upd HF L9 (.lst (xs.take at'++[xo]++xs.drop at'))):=((ddA.same s1c).trans dC).same s9c
    have L9p:L9≠p:=fun z=>by
     obtain⟨q0,ns0,i0,j0,k0,Fa⟩:=FC.mono s4c
     have:=Fa.hp
     rw[<-z,nL9] at this
     cases this
    generalize hXS:xs.take at'++[xo]++xs.drop at'=ws at *
    generalize upd HF L9 (.lst ws)=H99 at FF9 SM9' dd9' ⊢
    have lL:(ws).length<=4:=by omega
    refine⟨_,rfl,p,5,rfl,FF9,by decide,by decide,fun r9 H9 b9 c9 d9=>?_⟩
    have SM9:=X5.dr FF9 d9 L9p SM9'
    have dd9:=dd9'.trans d9
    refine⟨rfl,_,rfl,?_⟩
    refine Yh (fun hz=>?_) (fun hz=>?_)
    ·refine⟨_,rfl,_,rfl,_,rfl,L9,_,rfl,.of SM9.1,fun c nc=>?_⟩
     have sc:=Zv.upd (H:=H9) (o:=.lst (Y1 (ws) none (some 1))) nc
     have hc:=Zs (H:=H9) (a:=c) (o:=.lst (Y1 (ws) none (some 1)))
     have SMc:=SM9.mono sc
     generalize upd H9 c (.lst (Y1 (ws) none (some 1)))=H10 at sc hc SMc ⊢
     have ec:Y1 (ws) none (some 1)=(ws).take 1:=Zad (b:=1) (by omega)
     rw[ec] at hc
     refine⟨L9,c,_,_,rfl,rfl,SMc.1,hc,by rw[List.length_take];omega,fun l2 nl2=>?_⟩
     have s2:=Zv.upd (H:=H10) (o:=.lst (ws++(ws).take 1)) nl2
     refine q l2 (ws++(ws).take 1) _ (dd9.same (sc.trans s2)) ⟨Zs,fun x hx=>?_⟩ (by rw[Zd];omega) (by rw[Zd,List.length_take];omega)
     rcases List.mem_append.mp hx with h|h
     ·obtain⟨o,d,hT⟩:=SMc.2 x h;exact⟨o,d,hT.mono s2⟩
     ·obtain⟨o,d,hT⟩:=SMc.2 x (List.mem_of_mem_take h);exact⟨o,d,hT.mono s2⟩
    ·exact⟨_,rfl,q L9 ws H9 dd9 SM9 (by omega) (by omega)⟩
   ·skip
    have lL:(xs).length<=4:=by omega
    refine⟨_,rfl,p,5,rfl,F5,by decide,by decide,fun r9 H9 b9 c9 d9=>?_⟩
    have SM9:=X5.dr F5 d9 nLp SM5
    have dd9:=d15.trans d9
    refine⟨rfl,_,rfl,?_⟩
    refine Yh (fun hz=>?_) (fun hz=>?_)
    ·refine⟨_,rfl,_,rfl,_,rfl,L0,_,rfl,.of SM9.1,fun c nc=>?_⟩
     have sc:=Zv.upd (H:=H9) (o:=.lst (Y1 (xs) none (some 1))) nc
     have hc:=Zs (H:=H9) (a:=c) (o:=.lst (Y1 (xs) none (some 1)))
     have SMc:=SM9.mono sc
     generalize upd H9 c (.lst (Y1 (xs) none (some 1)))=H10 at sc hc SMc ⊢
     have ec:Y1 (xs) none (some 1)=(xs).take 1:=Zad (b:=1) (by omega)
     rw[ec] at hc
     refine⟨L0,c,_,_,rfl,rfl,SMc.1,hc,by rw[List.length_take];omega,fun l2 nl2=>?_⟩
     have s2:=Zv.upd (H:=H10) (o:=.lst (xs++(xs).take 1)) nl2
     refine q l2 (xs++(xs).take 1) _ (dd9.same (sc.trans s2)) ⟨Zs,fun x hx=>?_⟩ (by rw[Zd];omega) (by rw[Zd,List.length_take];omega)
     rcases List.mem_append.mp hx with h|h
     ·obtain⟨o,d,hT⟩:=SMc.2 x h;exact⟨o,d,hT.mono s2⟩
     ·obtain⟨o,d,hT⟩:=SMc.2 x (List.mem_of_mem_take h);exact⟨o,d,hT.mono s2⟩
    ·exact⟨_,rfl,q L0 xs H9 dd9 SM9 (by omega) (by omega)⟩
end
end C9
namespace Pm
def mkP (gs:List (List Nat)):List (Nat×Nat)->List (List Nat)->List (List Nat)
 | [],acc=>acc
 |(i,j)::r,acc=>mkP gs r (acc++[Yu (acc.getD i []) (gs.getD j [])])
def okP (g:Nat):List (Nat×Nat)->Nat->Bool
 | [],_=>true
 |(i,j)::r,m=>decide (i<m) && (decide (j<g) && okP g r (m+1))
theorem Vm {gs:List (List Nat)}{n:Nat}:∀(ps:List (Nat×Nat)) (acc:List (List Nat)),(∀x∈acc,W7 gs n x)->okP gs.length ps acc.length=true->∀x∈mkP gs ps acc,W7 gs n x
 | [],acc,h,_,x,hx=>h x hx
 |(i,j)::r,acc,h,ok,x,hx=>by
  unfold okP at ok
  rw[Bool.and_eq_true,Bool.and_eq_true,decide_eq_true_eq,decide_eq_true_eq] at ok
  refine Vm r _ (fun y hy=>?_) (by rw[Zd];exact ok.2.2) x hx
  rcases List.mem_append.mp hy with hy|hy
  ·exact h y hy
  ·rw[List.mem_singleton.mp hy]
   exact .step (h _ (VW ok.1)) (VW ok.2.1)
def gA:List (List Nat):=[[1,2,3,4,0],[1,2,0,3,4]]
def gB:List (List Nat):=[[1,2,3,4,0],[1,2,0,3,4],[1,0,2,3,4]]
def pA:List (Nat×Nat):=[(0,0),(0,1),(1,0),(1,1),(2,0),(2,1),(3,0),(3,1),(4,0),(4,1),(5,0),(5,1),(6,0),(7,0),(7,1),(8,0),(8,1),(9,0),(9,1),(10,0),(11,0),(12,0),(12,1),(13,0),(13,1),(14,1),(15,0),(16,1),(17,0),(18,0),(19,0),(19,1),(20,0),(20,1),(21,0),(21,1),(22,1),(25,0),(25,1),(26,0),(27,1),(28,0),(28,1),(29,1),(30,0),(30,1),(34,0),(36,0),(37,1),(38,1),(40,1),(41,0),(41,1),(44,0),(47,1),(48,1),(51,0),(51,1),(54,1)]
def pB:List (Nat×Nat):=[(0,0),(0,1),(0,2),(1,0),(1,1),(1,2),(2,0),(2,1),(2,2),(3,0),(3,1),(4,0),(4,1),(4,2),(5,0),(5,1),(5,2),(6,0),(6,1),(7,0),(7,1),(8,0),(9,0),(10,0),(10,1),(12,0),(12,1),(12,2),(13,0),(13,1),(13,2),(14,0),(14,1),(15,0),(15,1),(16,0),(17,0),(18,0),(18,1),(20,0),(20,2),(21,0),(21,1),(21,2),(22,0),(22,1),(23,0),(23,1),(24,1),(26,1),(26,2),(27,0),(27,2),(28,0),(29,1),(30,0),(31,0),(32,0),(32,1),(34,0)]
def fA:List (List Nat):=mkP gA pA [List.range 5]
def fB:List (List Nat):=mkP gB pB [List.range 5]
theorem Zb7 {gs:List (List Nat)}{n:Nat}:∀x∈[List.range n],W7 gs n x:=fun x hx=>by rw[List.mem_singleton.mp hx];exact .start
theorem ZaR:Jp gA 5 fA:=by
 have cl:(fA.all fun x=>gA.all fun g=>fA.contains (Yu x g))=true:=by decide +kernel
 have nd:fA.Nodup:=by decide +kernel
 have z:fA.contains (List.range 5)=true:=by decide +kernel
 refine⟨nd,fun x=>⟨Vm pA _ Zb7 (by decide +kernel) x,fun h=>?_⟩⟩
 induction h with
 |start=>exact List.contains_iff_mem.mp z
 | @step y g hy hg ih=>
  rw[List.all_eq_true] at cl
  have:=cl y ih
  rw[List.all_eq_true] at this
  exact List.contains_iff_mem.mp (this g hg)
theorem Zc5:fA.length=60:=by decide +kernel
theorem Vt:fB.Nodup/\(∀x∈fB,W7 gB 5 x)/\fB.length=61:=⟨by decide +kernel,Vm pB _ Zb7 (by decide +kernel),by decide +kernel⟩
theorem ZaS:Jp [[0]] 1 [[0]]:=by
 refine⟨by decide,fun x=>⟨fun h=>by rw[List.mem_singleton.mp h];exact .start,fun h=>?_⟩⟩
 induction h with
 |start=>exact List.mem_singleton.mpr rfl
 | @step y g hy hg ih=>
  rw[List.mem_singleton.mp hg,List.mem_singleton.mp ih]
  exact List.mem_singleton.mpr rfl
end Pm
namespace L2
open PySem PySem.Spec PyProof.Rows
theorem ZeF {X:Cx}:YC (CXE X.prog X.w) X (fun _ _ _=>False):=by
 intro ps σ H s e s' I h
 obtain⟨_,_,_,_,_,_,_,_,_,_,_,_,_,_,_,hF⟩:=h
 exact hF.elim
theorem VO {X:Cx}(K:PySem.W.Frag){k:Nat}(hr:Yb k X.A)(hK:X.K=K:=by rfl):ZR X (.builtin "repr") (fun xs H Q=>∃x d,xs=[x]/\Wu K H x d/\Zdq d/\Q (.str d.shown) H):=hK▸ZbO hr
end L2
namespace C9
open PySem L2 PySem.Spec PyProof.Rows
open Tb Pm
section
variable {X:Cx}
theorem ZfU {e:Expr}{te:TE}{pos:Pos}(h:QE X e te):QS X (.Return (some e) pos) (ZeX te):=⟨ZP h.h⟩
theorem w_and {a b:Expr}{rest:List Expr}{ta tb:TE}{pos:Pos}(ha:QE X a ta)(hb:QE X (.BoolOp .And (b::rest) pos) tb):QE X (.BoolOp .And (a::b::rest) pos) (Zer ta tb):=⟨Jf ha.h hb.h⟩
theorem ZeS {op}{a:Expr}{t:TE}{pos:Pos}(h:QE X a t):QE X (.BoolOp op [a] pos) t:=⟨WJ h.h⟩
theorem Zen {op:CmpOp}{r:R2}{a b:Expr}{ta tb:TE}{pos:Pos}(ho:Jb X (compareOp op) r)(ha:QE X a ta)(hb:QE X b tb)(hm:behindInMarks op b=false):QE X (.Compare a [op] [b] pos) (X7 r ta tb):=⟨Vj ho ha.h hb.h hm⟩
theorem Zg4 {op:Operator}{r:R2}{a b:Expr}{ta tb:TE}{pos:Pos}(ho:Jb X (binaryOp op) r)(ha:QE X a ta)(hb:QE X b tb):QE X (.BinOp a op b pos) (X7 r ta tb):=⟨ZX ho ha.h hb.h⟩
theorem Zem {CX:Jq}{k j:Nat}{x:Str}{ps:List Str}{sp:Sp}{E:XK}{e:Expr}{es:List Expr}{t:TA}{p pos:Pos}(G:Fn X.prog X.w X.K X.mg X.base CX k x ps sp)(hr:Yb j X.A)(hx:YC CX X E)(ha:QA X (e::es) t)(hk:k<=j:=by decide)
  (hg:Z9 X.env.scope x=true:=by kernel_rfl) (hd:(x == ("__debug__":Str))=false:=by kernel_rfl) (he:YO e=true:=by rfl) (hpl:Yx es=true:=by rfl):QE X (.Call (.Name x p) (e::es) [] pos) (Zb6 sp [] E t):=⟨WS G hr hx ha.h hk hg hd he hpl⟩
theorem Zg6 {x:Str}{id:String}{r:List V->Hp->VK->Prop}{e:Expr}{es:List Expr}{t:TA}{p pos:Pos}(hc:ZR X (.builtin id) r)(hm:X.mg x=none)(ha:QA X (e::es) t)(hg:Z9 X.env.scope x=true:=by kernel_rfl)(hv:bootBuiltins x=some (.builtin id):=by kernel_rfl)
  (hn:x ≠ "__name__":=by decide) (hd:(x == ("__debug__":Str))=false:=by kernel_rfl) (he:YO e=true:=by rfl) (hpl:Yx es=true:=by rfl):QE X (.Call (.Name x p) (e::es) [] pos) (tCB r t):=⟨cb hc hm ha.h hg hv hn hd he hpl⟩
end
def Zax (K:PySem.W.Frag)(Pm:Addr):Sp:=fun vs H Q _=>∃(a:Addr) (ns:List Int),vs=[.ref a]/\Wa K H a (ns.map V.int)/\ns.length<=63/\Ja H Pm V3 JW/\∀H',Q (.bl true) H'
theorem Xs.un {os:List (Option (List (Option Nat)))}(o1:1<=os.length){d d':PyData}(h:Xs os d)(h':Xs os d'):d=d':=by
 cases h with
 | @perm k hk=>cases h' with
  | @perm k' hk'=>rw[hk] at hk';cases hk';rfl
  |many IG _ _ _=>rw[IG.bad] at hk;cases hk
  |ans IG _ _ _=>rw[IG.bad] at hk;cases hk
 | @many gs n fd IG nd rc hl=>cases h' with
  | @perm k' hk'=>rw[IG.bad] at hk';cases hk'
  |many _ _ _ _=>rfl
  | @ans gs' n' zss IG' Fl hs h60=>
   obtain⟨rfl,rfl⟩:=Xw.un o1 IG IG'
   have:=Fl.most nd rc
   omega
 | @ans gs n zss IG Fl hs h60=>cases h' with
  | @perm k' hk'=>rw[IG.bad] at hk';cases hk'
  | @many gs' n' fd IG' nd rc hl=>
   obtain⟨rfl,rfl⟩:=Xw.un o1 IG IG'
   have:=Fl.most nd rc
   omega
  | @ans gs' n' zss' IG' Fl' hs' h60'=>
   obtain⟨rfl,rfl⟩:=Xw.un o1 IG IG'
   rw[Srt.eq hs hs' (Fl.perm Fl')]
end C9
namespace L2
open PySem PySem.Spec PyProof.Rows
theorem Wb.le {k b k' b':Nat}{d:PyData}(h:Wb k b d)(hk:k<=k')(hb:b<=b'):Wb k' b' d:=⟨h.sh,h.nd,Nat.le_trans h.dp hk,h.lv,Nat.le_trans h.bl hb⟩
theorem Wb.lst {k b n:Nat}{ds:List PyData}(hn:ds.length<=n)(h:∀d∈ds,Wb k b d):Wb (k+1) (n*(b+1)) (.list ds):=by
 obtain⟨h1,h2,h3,h4,h5⟩:=Wb.all h
 refine⟨by simp only[PyData.showable];exact h1,by simp only[PyData.hasDict];exact h2,by simp only[PyData.depth];omega,by simp only[PyData.leavesShort];exact h4,?_⟩
 simp only[PyData.bulk]
 exact Nat.le_trans h5 (Nat.mul_le_mul_right _ hn)
end L2
namespace C9
open PySem L2 PySem.Spec PyProof.Rows
open Tb Pm
theorem Zcj (b:Bool):Wb 0 0 (.bool b):=by cases b <;> exact⟨by decide +kernel,by decide +kernel,by decide +kernel,by decide +kernel,by decide +kernel⟩
theorem Zch:Wb 0 0 .none:=⟨by decide +kernel,by decide +kernel,by decide +kernel,by decide +kernel,by decide +kernel⟩
theorem Zf7:Wb 0 0 (.str ""):=⟨by decide +kernel,by decide +kernel,by decide +kernel,by decide +kernel,by decide +kernel⟩
theorem Zcg:Wb 0 10 (.str "perm"):=⟨by decide +kernel,by decide +kernel,by decide +kernel,by decide +kernel,by decide +kernel⟩
theorem Zci:Wb 0 10 (.str "many"):=⟨by decide +kernel,by decide +kernel,by decide +kernel,by decide +kernel,by decide +kernel⟩
theorem Tg.sml {H:Hp}{p:Addr}{x:V}{o:Option (List (Option Nat))}{d:PyData}(h:Tg H p x o d):Wb 1 24 d:=by
 cases h with
 | @tup a ps h hl hs=>
  refine (Wb.tup (k:=0) (b:=0) (n:=24) (by rw[Za];exact hl) fun d hd=>?_)
  obtain⟨o,ho,rfl⟩:=List.mem_map.mp hd
  cases o with
  |none=>exact Zcj true
  |some n=>exact Y4 (by have:=hs n ho;omega)
 |lst h ne=>exact (Wb.lst (k:=0) (b:=0) (n:=2) (ds:=[.int 0,.int 1]) (by decide) fun d hd=>by
   rcases List.mem_cons.mp hd with rfl|hd
   ·exact Y4 (k:=0) (by decide)
   ·rw[List.mem_singleton.mp hd];exact Y4 (k:=1) (by decide)).le (by decide) (by decide)
 |non=>exact Zch.le (by decide) (by decide)
 |str=>exact Zf7.le (by decide) (by decide)
theorem Wc.fit {H:Hp}{p L:Addr}{xs:List V}{os:List (Option (List (Option Nat)))}{ds:List PyData}(h:Wc H p L xs os ds)(hl:xs.length<=10):Zdq (.list ds):=
 (Wb.lst (k:=1) (b:=24) (n:=10) (by have:=h.ld;omega) fun d hd=>by
  obtain⟨i,hi⟩:=List.getElem?_of_mem hd
  have hil:=(List.getElem?_eq_some_iff.mp hi).1
  have hx:xs[i]?=some (xs[i]'(by have:=h.ld;omega)):=Zf (by have:=h.ld;omega)
  obtain⟨o,d',_,hd',hT⟩:=h.th i _ hx
  rw[hi] at hd'
  cases hd'
  exact hT.sml).fit (by decide) (by decide)
theorem Zcf {row:List Nat}{n:Nat}(hl:row.length<=n)(h:∀k∈row,k<=1000):Wb 1 (n*1) (.tuple ((nI row).map PyData.int)):=by
 refine Wb.tup (k:=0) (b:=0) (by unfold nI;rw[Za,Za];exact hl) fun d hd=>?_
 obtain⟨y,hy,rfl⟩:=List.mem_map.mp hd
 unfold nI at hy
 obtain⟨k,hk,rfl⟩:=List.mem_map.mp hy
 exact Y4 (h k hk)
theorem Zeb (zss:List (List Nat))(y:List Nat):zss.findIdx (· == y)<=zss.length:=List.findIdx_le_length
theorem Xs.fit {os:List (Option (List (Option Nat)))}(o10:os.length<=10){d:PyData}(h:Xs os d):Zdq d:=by
 cases h with
 | @perm k hk=>
  have hlt:k<os.length:=by
   unfold XC at hk
   rw[List.find?_range_eq_some] at hk
   exact List.mem_range.mp hk.2.1
  exact (Wb.tup (k:=0) (b:=10) (n:=2) (ds:=[.str "perm",.int (k:Nat)]) (Zq _) fun d hd=>by
   rcases List.mem_cons.mp hd with rfl|hd
   ·exact Zcg
   ·rw[List.mem_singleton.mp hd];exact (Y4 (k:=k) (by omega)).le (by decide) (by decide)).fit (by decide) (by decide)
 |many _ _ _ _=>exact (Wb.tup (k:=0) (b:=10) (n:=2) (ds:=[.str "many",.int 0]) (Zq _) fun d hd=>by
   rcases List.mem_cons.mp hd with rfl|hd
   ·exact Zci
   ·rw[List.mem_singleton.mp hd];exact (Y4 (k:=0) (by decide)).le (by decide) (by decide)).fit (by decide) (by decide)
 | @ans gs n zss IG Fl hs h60=>
  have G:=IG.2.1
  have n24:=G.n24
  have h1:Wb 2 (60*(60+1)) (dCs (Z7 zss)):=by
   refine Wb.tup (k:=1) (b:=60) (by unfold Z7;rw[Za,Za];exact h60) fun d hd=>?_
   obtain⟨row,hr,rfl⟩:=List.mem_map.mp hd
   unfold Z7 at hr
   obtain⟨x,hx,rfl⟩:=List.mem_map.mp hr
   refine ZdC (by rw[Za];exact h60) fun k hk=>?_
   obtain⟨y,hy,rfl⟩:=List.mem_map.mp hk
   have:=Zeb zss (Yu x y)
   omega
  have h2:Wb 2 (60*(24*1+1)) (.list (zss.map fun ns=>PyData.tuple ((nI ns).map PyData.int))):=by
   refine Wb.lst (k:=1) (b:=24*1) (by rw[Za];exact h60) fun d hd=>?_
   obtain⟨x,hx,rfl⟩:=List.mem_map.mp hd
   have hr:=(Fl.all x).mp hx
   refine Zcf (by have:=hr.len G;omega) fun k hk=>?_
   have:=hr.lt G k hk
   omega
  exact (Wb.tup (k:=2) (b:=60*(60+1)) (n:=2) (ds:=[dCs (Z7 zss),.list (zss.map fun ns=>PyData.tuple ((nI ns).map PyData.int))]) (Zq _) fun d hd=>by
   rcases List.mem_cons.mp hd with rfl|hd
   ·exact h1
   ·rw[List.mem_singleton.mp hd];exact h2.le (by decide) (by decide)).fit (by decide) (by decide)
theorem YD.bt {H H':Hp}{p Pt:Addr}{pos:Pos}{qual:Str}(TB:Ja H Pt pos qual)(s:Bt Pt H H')(F:YD H p):YD H' p:=by
 obtain⟨q,ns,i,j,k,Fa⟩:=F
 exact⟨q,ns,i,j,k,s _ _ Fa.hp (TB.ne Fa.hp fun _ z=>by cases z),s _ _ Fa.hq (TB.ne Fa.hq fun _ z=>by cases z),Fa.hn,Fa.hi,Fa.hj,Fa.hk⟩
theorem Ja.dr {H H':Hp}{Pt p:Addr}{pos:Pos}{qual:Str}(Fd:YD H p)(d:Dr p H H')(h:Ja H Pt pos qual):Ja H' Pt pos qual:=by
 obtain⟨q,ns,i,j,k,F⟩:=Fd
 have hp:=F.hp
 obtain⟨ps,h1,h2,h3⟩:=h
 refine⟨ps,d.keep _ _ h1 (fun z=>by rw[z,hp] at h1;cases h1),h2,?_⟩
 rcases h3 with h3|⟨c,h3,h4⟩
 ·exact .inl h3
 ·exact .inr ⟨c,h3,d.keep _ _ h4 (fun z=>by rw[z,hp] at h4;cases h4)⟩
section
variable {K:PySem.W.Frag}{H H':Hp}{Pt:Addr}{pos:Pos}{qual:Str}
theorem Ze4 {a:Addr}{xs:List V}(T:Ja H Pt pos qual)(d:Bt Pt H H')(h:WG K H a xs):WG K H' a xs:=by
 rcases h with (h|⟨o,h⟩)|h
 ·exact .inl (.inl (d _ _ h (T.ne h fun _ z=>by cases z)))
 ·exact .inl (.inr ⟨o,d _ _ h (T.ne h fun _ z=>by cases z)⟩)
 ·exact .inr h
theorem Ze5 {a:Addr}{xs:List V}(T:Ja H Pt pos qual)(d:Bt Pt H H')(h:Wa K H a xs):Wa K H' a xs:=by
 rcases h with (h|⟨o,h⟩)|h
 ·exact .inl (.inl (d _ _ h (T.ne h fun _ z=>by cases z)))
 ·exact .inl (.inr ⟨o,d _ _ h (T.ne h fun _ z=>by cases z)⟩)
 ·exact .inr h
mutual
theorem ZeC (T:Ja H Pt pos qual)(d:Bt Pt H H'):∀{v:V}{e:PyData},Wu K H v e->Wu K H' v e
 |_,_,.non=>.non
 |_,_,.bl b=>.bl b
 |_,_,.int i=>.int i
 |_,_,.str x=>.str x
 |_,_,.lst h r=>.lst (Ze5 T d h) (UQ T d r)
 |_,_,.tup h r=>.tup (Ze4 T d h) (UQ T d r)
theorem UQ (T:Ja H Pt pos qual)(d:Bt Pt H H'):∀{v:List V}{e:List PyData},Yc K H v e->Yc K H' v e
 |_,_,.nil=>.nil
 |_,_,.cons h r=>.cons (ZeC T d h) (UQ T d r)
end
end
def oF:List Nat->Option (List (Option Nat)):=fun d=>some (d.map some)
theorem okA:∀j,j<(gA.map oF).length->YX (gA.map oF) j=true:=by
 have:(List.range 2).all (fun j=>YX (gA.map oF) j)=true:=by decide +kernel
 rw[List.all_eq_true] at this
 exact fun j hj=>this j (List.mem_range.mpr hj)
theorem okB:∀j,j<(gB.map oF).length->YX (gB.map oF) j=true:=by
 have:(List.range 3).all (fun j=>YX (gB.map oF) j)=true:=by decide +kernel
 rw[List.all_eq_true] at this
 exact fun j hj=>this j (List.mem_range.mpr hj)
theorem ok0:∀j,j<([[0]].map oF).length->YX ([[0]].map oF) j=true:=by
 have:(List.range 1).all (fun j=>YX ([[0]].map oF) j)=true:=by decide +kernel
 rw[List.all_eq_true] at this
 exact fun j hj=>this j (List.mem_range.mpr hj)
theorem Zgx:Xr gA 5:=⟨by decide,by decide,by decide,by decide⟩
theorem Zgw:Xr gB 5:=⟨by decide,by decide,by decide,by decide⟩
theorem Zgy:Xr [[0]] 1:=⟨by decide,by decide,by decide,by decide⟩
theorem isA:Xw (gA.map oF) gA 5:=⟨rfl,Zgx,okA⟩
theorem isB:Xw (gB.map oF) gB 5:=⟨rfl,Zgw,okB⟩
theorem is0:Xw ([[0]].map oF) [[0]] 1:=⟨rfl,Zgy,ok0⟩
theorem Zck {H:Hp}{p L:Addr}{bs:List Addr}{gs:List (List Nat)}(R:ZA H L bs gs)(h:∀g∈gs,g.length<=24/\∀k∈g,k<=100):Wc H p L (bs.map V.ref) (gs.map oF) (gs.map fun d=>.tuple ((d.map some).map iD)):=by
 have hl:=R.2.1
 refine⟨R.1,by rw[Za,Za,hl],by rw[Za,Za,hl],fun i x hx=>?_⟩
 obtain⟨b,g,rfl,hg,hb⟩:=R.gt9 hx
 have hm:=h g (List.mem_of_getElem? hg)
 refine⟨_,_,by rw[Zc,hg];rfl,by rw[Zc,hg];rfl,.tup (by rw[YG];exact hb) (by rw[Za];exact hm.1) fun n hn=>?_⟩
 obtain⟨k,hk,e⟩:=List.mem_map.mp hn
 cases e
 exact hm.2 _ hk
section
variable {P:Program}{w:World}{K:PySem.W.Frag}{mg:Str->Option Value}{base:Heap}{c:Nat->Ec}
theorem Zfn {f Pm:Addr}{fd:FuncData}(F:W8 K "law" "law" Zga f fd)(T:Bl mg)(GF:Fn P w K mg base Yv 1 "_law_feed" ["_law_script"] (Zcd K))(GSm:Fn P w K mg base Yv 3 "_law_some" ["_law_feed_here"] Zaw)(GDu:Fn P w K mg base Yv 2 "_law_due" ["_law_some_here"] (Zce K))(GTo:Fn P w K mg base Yv 6 "_law_told" ["_law_some_here"] (Zav K Pm))(GM:Fn P w K mg base (CXE P w) 5 "made_by" ["perms"] (X8 K Pm c)) :
  ZY P w K mg base Yv 7 f fd ["_law_script"] (Zax K Pm):=by
 refine F.ok (FS (N:=["_law_script", "_law_feed_here", "_law_turn", "_law_some_here", "_law_kept", "_law_due_here", "_law_fifth"])) (fun vs H Q E h=>?_) (fun cdv A outer s H vs Q E hr h=>?_)
 ·obtain⟨a,ns,rfl,_⟩:=h;rfl
 ·obtain⟨a,ns,rfl,hS,hlen,TB,q⟩:=h
  refine⟨_,QSs.out (YK ⟨ZZ 1 rfl (WS GF hr ZS (pc (vn 0) Zt))⟩
   (YK ⟨Yr PassesOwn.never rfl (Zcp T.range (pc Zu Zt)) (gn 2)
   (Zx (ZZ 3 rfl (WS GSm hr ZS (pc (vn 1) Zt)))
   (Zx (ZZ 4 rfl (cb (VO K hr) T.repr (pc (vn 3) Zt)))
   (Zx (ZZ 5 rfl (WS GDu hr ZS (pc (vn 3) Zt)))
   (Zy (Yn (JY (ZF XN (cb (VO K hr) T.repr (pc (WS GTo hr ZS (pc (vn 3) Zt)) Zt)) (cb (VO K hr) T.repr (pc (vn 5) Zt)) (ZJ _)) (JX (ZF XN (cb (VO K hr) T.repr (pc (vn 3) Zt)) (vn 4) (ZJ _)))).pt (Zy (ZP XM)) ZU)))))⟩
   (YK (Zcv 6 rfl (XE (YJ (WH (YJ (WI Zu) (YJ (WI Zu) (YJ (WI Zu) (YJ (WI Zu) (YJ (WI Zu) Yd)))))) (YJ (WH (YJ (WI Zu) (YJ (WI Zu) (YJ (WI Zu) (YJ (WI Zu) (YJ (WI Zu) Yd)))))) Yd))))
   (YK ⟨Yn (ZF XN (cb (WL K) T.len (pc (ZO (ixT K) (WS GM hr ZeF (pc (vn 6) Zt)) Zu (fun _ _=>rfl)) Zt)) Zu (ZJ _)) (Zy (ZP XM)) ZU⟩
   (Zb1 (ZfU (w_and (Zen (eqK K hr.units) (Zem GTo hr ZS (YJ (Zg4 Vl (WI (vn 6)) (XE (YJ (WH (YJ (WI Zu) (YJ (WI Zu) (YJ (WI Zu) (YJ (WI Zu) (YJ (WI Zu) Yd)))))) Yd))) Yd)) (WH (YJ (WI YL) (YJ (WI Zu) Yd))) (ZJ _)) (ZeS (Zen XQ (Zg6 (VO K hr) T.repr (YJ (Zem GM hr ZeF (YJ (XE (YJ (WH (YJ (WI Zu) Yd)) Yd)) Yd)) Yd)) (WI YL) (ZJ _)))))))))),?_⟩
  have sz:(16777216:Nat)=sizeLine:=by decide
  refine⟨_,rfl,a,ns,rfl,hS,fun p H0 s0 hp F0=>?_⟩
  have TB0:=TB.mono s0
  refine⟨6,rfl,by decide,by decide,?_⟩
  refine Y0 (fun i σ' H'=>∃v2 v3 v4 v5:Option V,σ'=[some (.ref a),some (.ref p),v2,v3,v4,v5,none]/\YD H' p/\Ja H' Pm V3 JW) ⟨_,_,_,_,rfl,F0,TB0⟩ ?_ ?_
  ·rintro i σ' H1 hi ⟨v2,v3,v4,v5,rfl,F1,TB1⟩
   refine⟨_,rfl,p,rfl,F1,fun L xs H2 d2 SX x1 x10=>?_⟩
   have F2:=d2.feed F1
   have TB2:=Ja.dr F1 d2 TB1
   obtain⟨os,ds,SM⟩:=SX.at
   have o1:1<=os.length:=by have:=SM.lo;omega
   have o10:os.length<=10:=by have:=SM.lo;omega
   have fS:=SM.fit x10
   refine⟨_,rfl,.ref L,_,rfl,SM.rd,fS,?_⟩
   refine⟨_,rfl,p,L,xs,os,ds,rfl,SM,o1,o10,fun r3 d3 H3 s3 due3 rd3=>?_⟩
   have SM3:=SM.mono s3
   have TB3:=TB2.mono s3
   have F3:=F2.mono s3
   refine⟨_,rfl,p,L,xs,os,ds,rfl,SM3,o1,o10,TB3,fun r4 d4 H4 b4 TB4 due4 rd4=>?_⟩
   have e34:=due3.un o1 due4
   subst e34
   have F4:=F3.bt TB3 b4
   have SM4:=SM3.bt TB3 b4
   refine⟨.ref r4,_,rfl,rd4,due4.fit o10,_,rfl,.ref r3,_,rfl,ZeC TB3 b4 rd3,due3.fit o10,rfl,_,rfl,ZcW rfl ?_⟩
   refine⟨_,rfl,.ref L,_,rfl,SM4.rd,fS,_,rfl,rfl,_,rfl,ZcW rfl ?_⟩
   exact⟨_,_,_,_,rfl,F4,TB4⟩
  ·rintro σ' H1 ⟨v2,v3,v4,v5,rfl,F1,TB1⟩
   refine⟨(by show 5<=sizeLine;decide),fun t1 nt1=>?_⟩
   have S1:=Zv.upd (H:=H1) (o:=.tup [.int 1,.int 2,.int 3,.int 4,.int 0]) nt1
   have ht1:=Zs (H:=H1) (a:=t1) (o:=.tup [.int 1,.int 2,.int 3,.int 4,.int 0])
   generalize upd H1 t1 (.tup [.int 1,.int 2,.int 3,.int 4,.int 0])=H2 at S1 ht1 ⊢
   refine⟨(by show 5<=sizeLine;decide),fun t2 nt2=>?_⟩
   have S2:=Zv.upd (H:=H2) (o:=.tup [.int 1,.int 2,.int 0,.int 3,.int 4]) nt2
   have ht2:=Zs (H:=H2) (a:=t2) (o:=.tup [.int 1,.int 2,.int 0,.int 3,.int 4])
   have ht1':=S2 _ _ ht1
   generalize upd H2 t2 (.tup [.int 1,.int 2,.int 0,.int 3,.int 4])=H3 at S2 ht2 ht1' ⊢
   refine⟨(by show 2<=sizeLine;decide),fun L5 nL5=>?_⟩
   have S3:=Zv.upd (H:=H3) (o:=.lst [.ref t1,.ref t2]) nL5
   have R5:ZA (upd H3 L5 (.lst [.ref t1,.ref t2])) L5 [t1,t2] gA:=⟨Zs,rfl,fun i b hb=>by
    match i,hb with
    |0,hb=>cases hb;exact S3 _ _ ht1'
    |1,hb=>cases hb;exact S3 _ _ ht2
    |i+2,hb=>cases hb⟩
   generalize upd H3 L5 (.lst [.ref t1,.ref t2])=H4 at S3 R5 ⊢
   have S14:=S1.trans (S2.trans S3)
   have TB4:=TB1.mono S14
   refine⟨_,rfl,p,L5,_,gA.map oF,_,rfl,Zck R5 (by decide),by decide,by decide,TB4,fun gs n zss r a1 l1 bs H5 IG Fl hs z60 b5 TB5 hr5 hC5 hT5=>?_,fun gs n fd H5 IG nd rc h60 _ _=>?_,fun k hk dx H5 _ _ _=>?_⟩
   rotate_left
   ·obtain⟨rfl,rfl⟩:=Xw.un (by decide) IG isA
    have:=ZaR.most nd rc
    rw[Zc5] at this
    omega
   ·rw[isA.bad] at hk
    cases hk
   obtain⟨rfl,rfl⟩:=Xw.un (by decide) IG isA
   have z6:zss.length=60:=by rw[(Fl.perm ZaR).length_eq,Zc5]
   obtain⟨rs5,c1,c2,c3⟩:=hC5
   refine⟨r,_,0,_,rfl,rfl,.of hr5,rfl,a1,_,rfl,.inr (.of c1),rfl,_,rfl,ZcW (by rw[Za,c2];unfold Z7;rw[Za,z6];rfl) ?_⟩
   have R5':=ZA.bt9 TB4 b5 R5
   refine⟨_,rfl,(by show 5<=sizeLine;decide),fun t3 nt3=>?_⟩
   have S6:=Zv.upd (H:=H5) (o:=.tup [.int 1,.int 0,.int 2,.int 3,.int 4]) nt3
   have ht3:=Zs (H:=H5) (a:=t3) (o:=.tup [.int 1,.int 0,.int 2,.int 3,.int 4])
   generalize upd H5 t3 (.tup [.int 1,.int 0,.int 2,.int 3,.int 4])=H6 at S6 ht3 ⊢
   refine⟨(by show 1<=sizeLine;decide),fun L6 nL6=>?_⟩
   have S7:=Zv.upd (H:=H6) (o:=.lst [.ref t3]) nL6
   have hL6:=Zs (H:=H6) (a:=L6) (o:=.lst [.ref t3])
   have ht3':=S7 _ _ ht3
   have S67:=S6.trans S7
   generalize upd H6 L6 (.lst [.ref t3])=H7 at S7 hL6 ht3' S67 ⊢
   have R7:=R5'.mono S67
   refine⟨L5,L6,_,_,rfl,rfl,R7.1,hL6,(by show 2+1<=sizeLine;decide),fun L7 nL7=>?_⟩
   have S8:=Zv.upd (H:=H7) (o:=.lst (List.map V.ref [t1,t2]++[V.ref t3])) nL7
   have R8:ZA (upd H7 L7 (.lst (List.map V.ref [t1,t2]++[V.ref t3]))) L7 [t1,t2,t3] gB:=⟨Zs,rfl,fun i b hb=>by
    match i,hb with
    |0,hb=>cases hb;exact S8 _ _ (R7.2.2 0 t1 rfl)
    |1,hb=>cases hb;exact S8 _ _ (R7.2.2 1 t2 rfl)
    |2,hb=>cases hb;exact S8 _ _ ht3'
    |i+3,hb=>cases hb⟩
   have S58:=S67.trans S8
   generalize upd H7 L7 (.lst (List.map V.ref [t1,t2]++[V.ref t3]))=H8 at S8 R8 S58 ⊢
   have TB8:=TB5.mono S58
   refine⟨p,L7,_,gB.map oF,_,rfl,Zck R8 (by decide),by decide,by decide,TB8,fun r9 d9 H9 b9 TB9 due9 rd9=>?_⟩
   have ed:d9=.tuple [.str "many",.int 0]:=due9.un (by decide) (.many isB Vt.1 Vt.2.1 (by rw[Vt.2.2];decide))
   subst ed
   refine⟨(by show 2<=sizeLine;decide),fun t9 nt9=>?_⟩
   have S9:=Zv.upd (H:=H9) (o:=.tup [.str "many",.int 0]) nt9
   have ht9:=Zs (H:=H9) (a:=t9) (o:=.tup [.str "many",.int 0])
   have rd9':=rd9.mono S9
   generalize upd H9 t9 (.tup [.str "many",.int 0])=HA at S9 ht9 rd9' ⊢
   refine⟨_,_,rd9',.tup (.of ht9) (.cons (.str _) (.cons (.int _) .nil)),by decide +kernel,by decide +kernel,_,rfl,Yt (by decide +kernel) ?_⟩
   refine⟨(by show 1<=sizeLine;decide),fun ta nta=>?_⟩
   have SA:=Zv.upd (H:=HA) (o:=.tup [.int 0]) nta
   have hta:=Zs (H:=HA) (a:=ta) (o:=.tup [.int 0])
   generalize upd HA ta (.tup [.int 0])=HB at SA hta ⊢
   refine⟨(by show 1<=sizeLine;decide),fun LB nLB=>?_⟩
   have SB:=Zv.upd (H:=HB) (o:=.lst [.ref ta]) nLB
   have RB:ZA (upd HB LB (.lst [.ref ta])) LB [ta] [[0]]:=⟨Zs,rfl,fun i b hb=>by
    match i,hb with
    |0,hb=>cases hb;exact SB _ _ hta
    |i+1,hb=>cases hb⟩
   generalize upd HB LB (.lst [.ref ta])=HC at SB RB ⊢
   have TBC:=TB9.mono (S9.trans (SA.trans SB))
   refine⟨p,LB,_,[[0]].map oF,_,rfl,Zck RB (by decide),by decide,by decide,TBC,fun gs n zss r a1 l1 bs HD IG Fl hs z60 bD TBD hrD hCD hTD=>?_,fun gs n fd HD IG nd rc h60 _ _=>?_,fun k hk dx HD _ _ _=>?_⟩
   rotate_left
   ·obtain⟨rfl,rfl⟩:=Xw.un (by decide) IG is0
    have:=ZaS.most nd rc
    simp at this
    omega
   ·rw[is0.bad] at hk
    cases hk
   obtain⟨rfl,rfl⟩:=Xw.un (by decide) IG is0
   have ez:zss=[[0]]:=List.perm_singleton.mp (Fl.perm ZaS)
   subst ez
   refine⟨.ref r,_,rfl,UR hrD hCD hTD,(Xs.ans is0 Fl hs z60).fit (by decide),rfl,?_⟩
   have es:decide (V.str (ZfH [[0]]).shown=V.str "(((0,),), [(0,)])")=true:=by decide +kernel
   rw[es]
   exact q HD
end
theorem all_mk {l:PySem.W.OpenLaw}{w:World}{K:PySem.W.Frag}{h:Heap}{mg:Str->Option Value}{fa T0 U0:Addr}{et:Array DictEntry}{tk tk2:Tok}{c0 c1 c2 c3 c4 c5 c6 c7 c8 c9 c10 c11:Ec}(X:K.In h)(G:h.Ns mainGlobals mg)(hfa:mg "law"=some (.ref fa))
  (tb:Vz K T0 U0 et) (e0:Yq K "NoGroup" T0 U0 et c0) (e1:Yq K "NoTable" T0 U0 et c1) (e2:Yq K "NoShares" T0 U0 et c2) (e3:Zel K "NoPerm" T0 U0 et "NoPerm.__init__" (Zea (top 3) 0) c3) (e4:Yq K "NoLines" T0 U0 et c4) (e5:Yq K "NoAlike" T0 U0 et c5) (e6:Yq K "NoName" T0 U0 et c6) (e7:JE K "TooMany" T0 U0 et c7) (e8:JE K "NoOrder" T0 U0 et c8) (e9:JE K "NoPart" T0 U0 et c9) (e10:JE K "NoText" T0 U0 et c10) (e11:JE K "NoRow" T0 U0 et c11)
  (dst:ZaV T0 [c0.C,c1.C,c2.C,c3.C,c4.C,c5.C,c6.C,c7.C,c8.C,c9.C,c10.C,c11.C]=true) (m:PySem.W.nsIn K mainGlobals "MOST_THINGS"=some (some (.int 60 tk))) (m2:PySem.W.nsIn K mainGlobals "MOST_PLACES"=some (some (.int 24 tk2)))
  (d1:ZD K "is_whole" Zcl) (d2:ZD K "are_things" ZaA) (d3:ZD K "is_perm" ZaB) (d4:ZD K "perm_times" Zcm) (d5:ZD K "reached" JS) (d6:ZD K "numbered" Zcn) (d7:ZD K "tabled" Vf) (d8:ZD K "ask_perms" ZeA) (d9:ZD K "made_by" XJ) (d10:ZD K "_law_feed" Zey) (d11:ZD K "_law_draw" Zez) (d12:ZD K "_law_perm" Zex) (d13:ZD K "_law_few" Zgb) (d14:ZD K "_law_closed" ZaC) (d15:ZD K "_law_due" Zgc) (d16:ZD K "_law_told" Zev) (d17:ZD K "_law_some" Zew) (d18:ZD K "law" Zga) (htm:Za4 K "made_by" 276 272=true) (hcm:PySem.W.codeHdIn K 276 272=true)
  (z1:PySem.W.nsIn K mainGlobals "list"=some none) (z2:PySem.W.nsIn K mainGlobals "len"=some none) (z3:PySem.W.nsIn K mainGlobals "abs"=some none) (z4:PySem.W.nsIn K mainGlobals "range"=some none) (z5:PySem.W.nsIn K mainGlobals "tuple"=some none) (z6:PySem.W.nsIn K mainGlobals "isinstance"=some none) (z7:PySem.W.nsIn K mainGlobals "all"=some none) (z8:PySem.W.nsIn K mainGlobals "set"=some none) (z9:PySem.W.nsIn K mainGlobals "repr"=some none) (z10:PySem.W.nsIn K mainGlobals "any"=some none) (z11:PySem.W.nsIn K mainGlobals "int"=some none) (z12:PySem.W.nsIn K mainGlobals "bool"=some none) (z13:PySem.W.nsIn K mainGlobals "sorted"=some none) (z14:PySem.W.nsIn K mainGlobals "enumerate"=some none) (z15:PySem.W.nsIn K mainGlobals "ValueError"=some none) :
  ∃fd:FuncData,(∀(s:Shared) (v:Value),BindsTo s fd ⟨[v],[]⟩ [("_law_script",v)])/\∀base:Heap,K.In base->base.Ns mainGlobals mg->Jr base mg->ZY l.prog w K mg base Yv 7 fa fd ["_law_script"] (Zax K 272):=by
 have T:Bl mg:=⟨PySem.W.mg_none_of X G z1,PySem.W.mg_none_of X G z2,PySem.W.mg_none_of X G z3,PySem.W.mg_none_of X G z4,PySem.W.mg_none_of X G z5,PySem.W.mg_none_of X G z6,PySem.W.mg_none_of X G z7,PySem.W.mg_none_of X G z8,PySem.W.mg_none_of X G z9,PySem.W.mg_none_of X G z11,PySem.W.mg_none_of X G z12⟩
 have T2:ZbW mg:=⟨PySem.W.mg_none_of X G z13,PySem.W.mg_none_of X G z14⟩
 have TV:BlV mg:=⟨PySem.W.mg_none_of X G z15⟩
 have hM:=PySem.W.mg_of X G m
 have hMP:=PySem.W.mg_of X G m2
 obtain⟨D1,D2⟩:=ZaU dst
 have S:Cs K mg T0 U0 et (Ut [c0,c1,c2,c3,c4,c5,c6,c7,c8,c9,c10,c11]):=by
  have ok:∀k,k<12->Yq K (Zdf k) T0 U0 et (Ut [c0,c1,c2,c3,c4,c5,c6,c7,c8,c9,c10,c11] k):=fun k hk=>by
   rcases k12 hk with rfl|rfl|rfl|rfl|rfl|rfl|rfl|rfl|rfl|rfl|rfl|rfl
   ·exact e0
   ·exact e1
   ·exact e2
   ·exact e3.1
   ·exact e4
   ·exact e5
   ·exact e6
   ·exact e7.1
   ·exact e8.1
   ·exact e9.1
   ·exact e10.1
   ·exact e11.1
  refine⟨tb,ok,PySem.W.mg_of X G tb.t.at_,fun k hk=>PySem.W.mg_of X G (ok k hk).c.at_,fun j k hj hk e=>?_,fun k hk=>?_,fun k h7 hk=>?_⟩
  ·refine D1 j k _ (Vw (l:=[c0,c1,c2,c3,c4,c5,c6,c7,c8,c9,c10,c11]) hj) ?_
   rw[e]
   exact Vw (l:=[c0,c1,c2,c3,c4,c5,c6,c7,c8,c9,c10,c11]) hk
  ·exact D2 _ (List.mem_of_getElem? (Vw (l:=[c0,c1,c2,c3,c4,c5,c6,c7,c8,c9,c10,c11]) hk))
  ·have h5:k=7\/k=8\/k=9\/k=10\/k=11:=by omega
   rcases h5 with rfl|rfl|rfl|rfl|rfl
   ·exact e7.2
   ·exact e8.2
   ·exact e9.2
   ·exact e10.2
   ·exact e11.2
 refine d18.lawT X G hfa (fun base f fd nb kb hB F=>?_) (fun _ _ _ _ _ _ _ _=>.of_eq rfl)
 have fn:=@ZD.fn l.prog w K mg base h
 have I3:Zdp l.prog w K mg base ((Ut [c0,c1,c2,c3,c4,c5,c6,c7,c8,c9,c10,c11]) 3) ["self", "number"] (X9 ((Ut [c0,c1,c2,c3,c4,c5,c6,c7,c8,c9,c10,c11]) 3).C "number"):=e3.2.ok kb (fun f fd F=>ZdT F (e3.1.two tb kb) (e3.1.noN tb (by decide)) FS rfl (by kernel_rfl) (by kernel_rfl) (by kernel_rfl) (by kernel_rfl)) (fun _ _ _ _ _ _=>bd2 fun _ _=>rfl)
 have GW:=fn d1 X G (fun f fd F=>ZcM F T) (fun _ _ _ _ _ _=>bd1 fun _=>rfl)
 have GAr:=fn d2 X G (fun f fd F=>Zbk F T GW) (fun _ _ _ _ _ _=>bd2 fun _ _=>rfl)
 have GI:=fn d3 X G (fun f fd F=>Zbl F T hMP GAr) (fun _ _ _ _ _ _=>bd1 fun _=>rfl)
 have GPT:∀base':Heap,Fn l.prog w K mg base' Yv 1 "perm_times" ["one", "other"] XH:=fun base'=>d4.fn X G (fun f fd F=>Zfm F T) (fun _ _ _ _ _ _=>bd2 fun _ _=>rfl)
 have GR:∀base':Heap,Fn l.prog w K mg base' Yv 3 "reached" ["start", "onward", "most"] (Zca l.prog w K mg base'):=fun base'=>d5.fn X G (fun f fd F=>Zfl F T T2) (fun _ _ _ _ _ _=>bd3 fun _ _ _=>rfl)
 have GNd:=fn d6 X G (fun f fd F=>ZdR F T2) (fun _ _ _ _ _ _=>bd1 fun _=>rfl)
 have GTd:=fn d7 X G (fun f fd F=>ZdO F T GNd) (fun _ _ _ _ _ _=>bd2 fun _ _=>rfl)
 have GA:Fn l.prog w K mg base (CXE l.prog w) 4 "ask_perms" ["perms"] (UK K (Ut [c0,c1,c2,c3,c4,c5,c6,c7,c8,c9,c10,c11])):=d8.fn X G (fun f fd F=>ZdW F T T2 S kb I3 GI) (fun _ _ _ _ _ _=>bd1 fun _=>rfl)
 have GM:Fn l.prog w K mg base (CXE l.prog w) 5 "made_by" ["perms"] (X8 K 272 (Ut [c0,c1,c2,c3,c4,c5,c6,c7,c8,c9,c10,c11])):=d9.fnC htm X G (fun f fd F e=>ZdS F e hcm hB T hM S kb GA GPT GR GTd) (fun _ _ _ _ _ _=>bd1 fun _=>rfl)
 have GF:=fn d10 X G (fun f fd F=>ZdU F T) (fun _ _ _ _ _ _=>bd1 fun _=>rfl)
 have GD:=fn d11 X G (fun f fd F=>ZdV F T) (fun _ _ _ _ _ _=>bd2 fun _ _=>rfl)
 have GPm:=fn d12 X G (fun f fd F=>ZdQ F T GD) (fun _ _ _ _ _ _=>bd2 fun _ _=>rfl)
 have GFw:=fn d13 X G (fun f fd F=>Zfp F T GD) (fun _ _ _ _ _ _=>bd2 fun _ _=>rfl)
 have GCl:=fn d14 X G (fun f fd F=>Zfr F T T2) (fun _ _ _ _ _ _=>bd1 fun _=>rfl)
 have GDu:=fn d15 X G (fun f fd F=>Zfq F T T2 GCl) (fun _ _ _ _ _ _=>bd1 fun _=>rfl)
 have GTo:=fn d16 X G (fun f fd F=>ZdN F T TV S kb GM) (fun _ _ _ _ _ _=>bd1 fun _=>rfl)
 have GSm:=fn d17 X G (fun f fd F=>ZdP F T GD GFw GPm) (fun _ _ _ _ _ _=>bd1 fun _=>rfl)
 exact Zfn F T GF GSm GDu GTo GM
theorem walk {l:PySem.W.OpenLaw}{q:Program}{loose:List Str}{XP:(Str->Option Value)->Heap->Prop}{YP:World->Heap->Prop}{d:DefRec}{K:Params->PySem.W.Frag}(hxg:∀w:World,Za4 (K w.params) "made_by" 276 272=true)(hqg:((recsOf q).find? fun e=>e.name == ("made_by":Str)).isSome=true)(hn:l.most=some 63)(hdf:d.params.defaults=[])
  (hY:∀(w:World) (h:Heap),YP w h->(K w.params).In h)
  (F:∀(w:World) (mg:Str->Option Value) (fa:Addr) (h:Heap),(K w.params).In h->h.Ns mainGlobals mg->mg d.name=some (.ref fa)->
   ∃fd:FuncData,(∀(s:Shared) (u:Value),BindsTo s fd ⟨[u],[]⟩ [("_law_script",u)])/\∀base:Heap,(K w.params).In base->base.Ns mainGlobals mg->Jr base mg->ZY l.prog w (K w.params) mg base Yv 7 fa fd ["_law_script"] (Zax (K w.params) 272)) :
  PySem.W.WalkO q loose XP YP l.row.toRowW d [] (fun f vs=>PySem.call f vs):=
 L2.ZbZ (n:=63) (k:=7) (x:="_law_script") (CX:=fun _=>Yv) (sp:=fun w=>Zax (K w.params) 272) (xs:=[("made_by",276,272)])
  (fun w y hy=>by cases List.mem_singleton.mp hy;exact hxg w) (fun y hy=>by cases List.mem_singleton.mp hy;exact hqg) hn (by decide) hdf ⟨rfl,by decide,by decide,rfl⟩ hY F
  (fun _ H a ns hl hO hS=>⟨a,ns,rfl,hS,hl,⟨#[],hO.tabs 272 (by simp),trivial,.inl rfl⟩,fun _=>rfl⟩) fun _ _ _ _ _ z=>z
end C9
namespace PySem.W.Fast
def tw16146330666588496515:=0
def tw14001727257153257535:=0
def tw16397526837894829198:=0
def tw15990780459652792390:=0
def tw17842048516413724110:=0
def tw18140894318709715161:=0
def tw9114536816728947480:=0
def tw13881030870836120481:=0
def tw18046793046892509620:=0
def tw75635283847001858:=0
def tw8506622292604253998:=0
def tw3423391546633728180:=0
def tw15998752065450461669:=0
def tw18320792583508034358:=0
def tw7039203041070712959:=0
def tw1581182477222368000:=0
def tw15444260970194133165:=0
def tw2503019765340988065:=0
def tw13897276665129061431:=0
def tw12561804460990038703:=0
def tw6976738541156171393:=0
def tw10841400646281017900:=0
def tw3942079850174553124:=0
def tw5429538640059349075:=0
def tw12190936115866246034:=0
def tw15020451816141163348:=0
def tw14638748511298338370:=0
def tw15369303975957953513:=0
def tw14357379084700395653:=0
def tw1667288149191082697:=0
def tw12705514044646944344:=0
def tw9635196186414247045:=0
def tw17288272444421512470:=0
def tw16847928963568944324:=0
def tw18273070151383277789:=0
def tw13267365086579089455:=0
def tw11557235569076131690:=0
def tw2057522575881937786:=0
def tw15974404431945389916:=0
def tw10945149272765787031:=0
def tw643484835440664469:=0
def tw3717344911483841312:=0
def tw15455085147401557967:=0
def tw15906220161349024982:=0
def tw8317243221370119467:=0
def tw4252263341290259158:=0
def tw4262067317570205771:=0
def tw10278983745622559415:=0
def tw10041689877888277974:=0
def tw13348010432801098467:=0
def tw8801464632598283407:=0
def tw13327202741478060363:=0
def tw7293268341249788365:=0
def tw14658058191346273945:=0
def tw17130624168491546920:=0
def tw17282002512093252461:=0
def tw8585528672714427134:=0
def tw4440923834579169506:=0
def tw12648500002250214593:=0
def tw1337443888133865139:=0
def tw749320774520896777:=0
def tw11271634775045139163:=0
def tw14285827428655103394:=0
def tw15446665137730345891:=0
def tw14920168980148993678:=0
def tw6310941652243852886:=0
def tw6644949474917884130:=0
def tw6111027933853235829:=0
def tw12740411692734289984:=0
def tw6853227862598188879:=0
def tw8447747944498708575:=0
def tw17449141548229943906:=0
def tw16819237823622567138:=0
def tw12199548424968121930:=0
def tw18296257859768151155:=0
def tw10821849500285274313:=0
def tw17812423141792855647:=0
def tw15153429456927270167:=0
def tw2677041951287096220:=0
def tw3713444327993726523:=0
def tw9777359827872907160:=0
def tw7682672462633371675:=0
def tw9317884848001489398:=0
def tw9987600122123549455:=0
def tw4893777306224725809:=0
def tw10872406233386382091:=0
def tw17674402885646512738:=0
def tw17137376030049315972:=0
def tw2320110544905352395:=0
def tw1287753903917341314:=0
def tw13444502857907823619:=0
def tw17314628279561353628:=0
def tw6390048305581467780:=0
def tw8012395500372769782:=0
def tw7191355404294797940:=0
def tw9092794641066086488:=0
def tw659808654548283157:=0
def tw6561522421008237478:=0
def tw15329903038728923682:=0
def tw2987629904734794109:=0
def tw15009294779152319411:=0
def tw721132748692149070:=0
def tw14168173083351375463:=0
def tw3437285396959023496:=0
def tw10330857774146782056:=0
def tw10259413679660687848:=0
def tw9962354599978977858:=0
def tw2070146329991901315:=0
def tw2775988508631816764:=0
def tw14571240449639130626:=0
def tw16231243531157473346:=0
def tw2685179972584963511:=0
def tw11505853590758609980:=0
def tw6918841999820570908:=0
def tw92486214529524571:=0
def tw7471560989919879151:=0
def tw7856044050789281998:=0
def tw9058180130801055839:=0
def tw15881350596050244480:=0
def tw7527868104854239424:=0
def tw18243308994799195974:=0
def tw17012240532918317253:=0
def tw8825879716292385017:=0
def tw8656856776968553641:=0
def tw3692932100089339901:=0
def tw2136596605806077131:=0
def tw16979522452851293434:=0
def tw14940788556253230343:=0
def tw6381939434607254875:=0
def tw1645182726296093315:=0
def tw11223359773888737125:=0
def tw393032210226159296:=0
def tw12022435380404385829:=0
def tw18227409997314071158:=0
def tw3605343721568281605:=0
def tw13548326111540889229:=0
def tw10144430946333954459:=0
def tw2759136287455835857:=0
def tw11014051482773180167:=0
def tw15313436482886502006:=0
def tw17221214491848603188:=0
def tw6238389453971965674:=0
def tw4685810138405802462:=0
def tw16658176881925082472:=0
def tw14527533566397729558:=0
def tw887459434331161035:=0
def tw9791658703952177815:=0
def tw9125926762218814013:=0
def tw11416342051745243980:=0
def tw14238694089730470218:=0
def tw15737892173669239375:=0
def tw16341435205438180624:=0
def tw9893912519961579469:=0
def tw12929770700393042159:=0
def tw17846162986631813687:=0
def tw7157739465606270293:=0
def tw15993116754096354815:=0
def tw7807881317911567725:=0
def tw9147894989882967480:=0
def tw5107716083830206478:=0
def tw12115826200938299185:=0
def tw2722925896294518385:=0
def tw15538835445601464704:=0
def tw18181366910987354344:=0
def tw16849181140955031522:=0
def tw16802508889684622353:=0
def tw3020548517222380848:=0
def tw528729721142819844:=0
def tw11962975307526557337:=0
def tw9265631903194645913:=0
def tw16087744213711372243:=0
def tw14806781819794270619:=0
def tw3709482531846408744:=0
def tw999831895316999204:=0
def tw14937914761088165459:=0
def tw10764999895054268567:=0
def tw9229873064621714478:=0
def tw12379820142311041578:=0
def tw3330033812389259687:=0
def tw13747283609633535485:=0
def tw5321366473981019188:=0
def tw735433790320033618:=0
def tw97301750574535850:=0
def tw18074747430936949505:=0
def tw1381836846388121881:=0
def tw3079892108725044516:=0
def tw4301068593233493352:=0
def tw8668778812372726004:=0
def tw5419949624843299866:=0
def tw504508280063240269:=0
def tw11455592739622187978:=0
def tw7356655874608829429:=0
def tw8882639673558763670:=0
def tw11149046467408809841:=0
def tw542743832390609654:=0
def tw3822282744216062655:=0
def tw6636763998782728171:=0
def tw3703298732355260877:=0
def tw5171822000121085493:=0
def tw8627760337684980295:=0
def tw11683539060680683190:=0
def tw15035542329802386960:=0
def tw7570733227837186432:=0
def tw10570967129752044968:=0
def tw14501575444087518605:=0
def tw12751670758979670525:=0
def tw9345351007321365685:=0
def tw5278127182278388654:=0
def tw6106570535527766537:=0
def tw12399829595380464984:=0
def tw40538882234193640:=0
def tw10001660555928879085:=0
def tw4172168856149558799:=0
def tw11885076440724205826:=0
def tw17033363713483854637:=0
def tw14587330164980539874:=0
def tw757656924074734732:=0
def tw3799727549214237019:=0
def tw11016260936036706747:=0
def tw14657302859113030535:=0
def tw1699518892232980244:=0
def tw16638477620957501266:=0
def tw1718504378358847750:=0
def tw2002098936265604795:=0
def tw6908846861297914379:=0
def tw8076061731475487916:=0
def tw18080585986060121846:=0
def tw17362149645014538698:=0
def tw14831380939060477007:=0
def tw778903413691596820:=0
def tw13948041759048394903:=0
def tw18032230562918438056:=0
def tw13830379383736731813:=0
def tw3928783837973907489:=0
def tw854050746585036023:=0
def tw1302832237089106911:=0
def tw1628097345242329485:=0
def tw13865401908421063211:=0
def tw6361224945790375751:=0
def tw14030954842323320457:=0
def tw15681013699140813214:=0
def tw9632482863550862693:=0
def tw86475216145438627:=0
def tw1395813460654375721:=0
def tw1180476275922733999:=0
def tw18132587082965559794:=0
def tw15621830133291163735:=0
def tw15531704490483549354:=0
def tw4322273831995596111:=0
def tw10902106014482198534:=0
def tw9851142573927415843:=0
def tw1730400097728016757:=0
def tw4971349500837376588:=0
def tw9022968969173248479:=0
def tw5564694157907675708:=0
def tw14318055117095943077:=0
def tw6139159103531794592:=0
def tw15254421179412336504:=0
def tw4480005661736000944:=0
def tw11969196750142317108:=0
def tw12352645484438825657:=0
def tw17158706051439611903:=0
def tw17668518487671656607:=0
def tw15886004221769394770:=0
def tw8083960038268686669:=0
def tw10884941189175760948:=0
def tw9277634575897212536:=0
def tw7449029729317873953:=0
def tw4363691753447607422:=0
def tw7634486069405718301:=0
def tw9082377085125607328:=0
def tw16319393068715844000:=0
def tw3507818817715137460:=0
def tw5153532977090778819:=0
def tw14360143175033942509:=0
def tw8994311236520947732:=0
def tw17051242188446020500:=0
def tw18304367997311642408:=0
def tw2797539937171808280:=0
def tw18313760139570039806:=0
def tw7151548798459532939:=0
def tw4375252920759793046:=0
def tw11842972791923322095:=0
def tw16617867427180072356:=0
def tw1997567906253997778:=0
def tw12265094396544915158:=0
def tw8678767189752781150:=0
def tw661179150366602641:=0
def tw7846434349488027234:=0
def tw6036420030742664398:=0
def tw2204924285625914844:=0
def tw4831821793296069958:=0
def tw8776532923756034622:=0
def tw312049926428289728:=0
def tw701452927492501212:=0
def tw4085789111408952149:=0
def tw4415052042921693644:=0
def tw8457436978244014918:=0
def tw11846373131437848415:=0
def tw6434706211158961531:=0
def tw10293537147226311706:=0
def tw17080255403646675880:=0
def tw12981791827759570980:=0
def tw12512519209974383039:=0
def tw14672312804597898115:=0
def tw15558674969683289826:=0
def tw4227008622575661222:=0
def tw11788004783536917438:=0
def tw15374190183701457596:=0
def tw18087088943085497640:=0
def tw7027275790803790975:=0
def tw4350367237322839399:=0
def tw6623690412350988427:=0
def tw7777273145778742110:=0
def tw3197485967038439192:=0
def tw9123513134298709240:=0
def tw9109247319327027188:=0
def tw12115441526166858521:=0
def tw944274939221290774:=0
def tw13249295700409042603:=0
def tw16575380767406599854:=0
def tw373593186795310995:=0
def tw11930546275819507449:=0
def tw11201855958870489064:=0
def tw11878186070079008273:=0
def tw2759402777439185556:=0
def tw12805555660532090057:=0
def tw15648829302183021172:=0
def tw8071157610862367591:=0
def tw6352389597137366415:=0
def tw2021325711779531746:=0
def tw4833682505457531661:=0
def tw13539960772103756788:=0
def tw837404112090019024:=0
def tw4378502399582517855:=0
def tw5237609718481750672:=0
def tw4865324532634328762:=0
def tw8488191280532572386:=0
def tw8989902879629617959:=0
def tw13454635532682610082:=0
def tw14225508866492022167:=0
def tw14942160178605976699:=0
def tw15871077196022397374:=0
def tw6570179940159368849:=0
def tw9304056280845498033:=0
def tw16764354614708527088:=0
def tw7699676518877839901:=0
def tw2370117135305091651:=0
def tw13079552264307004007:=0
def tw2056839317924161830:=0
def tw17639709674166432711:=0
def tw18066160013039053726:=0
end PySem.W.Fast
open PySem PySem.W PyProof.Rows
set_option maxRecDepth 100000 in
set_option maxHeartbeats 0 in
theorem PySem.Challenge.cw_classtab_k09_groups_made_by_perms_holds : PySem.Challenge.rw_classtab_k09_groups_made_by_perms.Holds := by
 w_on;o_law;k_head;(case hw=>w_witness2)
 k_fill
 refine C9.walk (l:=PySem.Challenge.rw_classtab_k09_groups_made_by_perms) (fun w=>by kernel_rfl) (by kernel_rfl) rfl rfl (fun w h Y=>PySem.W.km_in_of Y) ?F
 case F=>
  intro w mg fa h KX G hmg
  refine' C9.all_mk KX G hmg (L2.Vz.mk' ?_ ?_ ?_ ?_ ?_) (L2.Yq.mk' ?_ ?_ ?_ ?_ ?_) (L2.Yq.mk' ?_ ?_ ?_ ?_ ?_) (L2.Yq.mk' ?_ ?_ ?_ ?_ ?_) (L2.Zel.mk ?_ ?_ ?_ ?_ ?_ ?_ ?_ ?_ ?_) (L2.Yq.mk' ?_ ?_ ?_ ?_ ?_) (L2.Yq.mk' ?_ ?_ ?_ ?_ ?_) (L2.Yq.mk' ?_ ?_ ?_ ?_ ?_) (L2.JE.mk ?_ ?_ ?_ ?_ ?_) (L2.JE.mk ?_ ?_ ?_ ?_ ?_) (L2.JE.mk ?_ ?_ ?_ ?_ ?_) (L2.JE.mk ?_ ?_ ?_ ?_ ?_) (L2.JE.mk ?_ ?_ ?_ ?_ ?_) ?_ ?_ ?_ (L2.ZD.mk ?_ ?_ ?_ ?_) (L2.ZD.mk ?_ ?_ ?_ ?_) (L2.ZD.mk ?_ ?_ ?_ ?_) (L2.ZD.mk ?_ ?_ ?_ ?_) (L2.ZD.mk ?_ ?_ ?_ ?_) (L2.ZD.mk ?_ ?_ ?_ ?_) (L2.ZD.mk ?_ ?_ ?_ ?_) (L2.ZD.mk ?_ ?_ ?_ ?_) (L2.ZD.mk ?_ ?_ ?_ ?_) (L2.ZD.mk ?_ ?_ ?_ ?_) (L2.ZD.mk ?_ ?_ ?_ ?_) (L2.ZD.mk ?_ ?_ ?_ ?_) (L2.ZD.mk ?_ ?_ ?_ ?_) (L2.ZD.mk ?_ ?_ ?_ ?_) (L2.ZD.mk ?_ ?_ ?_ ?_) (L2.ZD.mk ?_ ?_ ?_ ?_) (L2.ZD.mk ?_ ?_ ?_ ?_) (L2.ZD.mk ?_ ?_ ?_ ?_) ?_ ?_ ?_ ?_ ?_ ?_ ?_ ?_ ?_ ?_ ?_ ?_ ?_ ?_ ?_ ?_ ?_
  any_goals k_is
  all_goals kernel_rfl
