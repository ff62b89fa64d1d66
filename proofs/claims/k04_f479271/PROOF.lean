import PyProof.Rows.All
import Wide.All
import OpenK.AllK
import Wide.FinOn
import Lean
import PyProof.EqAt
import PyProof.EqKinds
import PyProof.TupleCall
import KE.LcSums
import KE.KDictOf
import PyProof.ZipIter
import PyProof.DictItems
import KE.KSortTup
import KE.KTryMore
import PySem.SetOps
import PyProof.TupleKey
import PyProof.IsRules
import PyProof.SetKind
import PyProof.SetNew
import PyProof.Rows.SetFrom
import PyProof.CollectWalk
import PyProof.NeKinds
import PyProof.ReprRoads
import PyProof.ReprLen
import PyProof.CallFns
import PyProof.ListCopy
import PyProof.StrCalls2
import PyProof.StrBlockL
import PyProof.SliceStr2
import PyProof.FitsReplace
import PyProof.StrLawsOcc
import KE.KIntText
import KE.KLam
import KE.KSortedM
import KE.RegKIsAll
import PySem.Challenge.RW_meadshares_k04_claims_refused
set_option Elab.async false
set_option linter.all false
set_option maxRecDepth 100000
local macro_rules | `(tactic| ac_rfl) => `(tactic| exact ⟨rfl, rfl, rfl, by decide +kernel, rfl, by decide +kernel, by decide +kernel⟩)
local macro_rules | `(tactic| omega) => `(tactic| lia)
namespace L2
open PySem PySem.Spec PyProof.Rows
abbrev Key:=Sum Int Str
def lX:Key->Value->Bool
 | .inl k,v=>Value.isInt k v
 | .inr x,v=>Value.isStrOf x v
def A64 (w:World):Key->Int
 | .inl k=>hashInt k
 | .inr x=>hashStr w x
theorem keyIs_shape:∀{k:Key}{v:Value},lX k v=true->(∃i t,k=Sum.inl i/\v=Value.int i t)\/(∃x t,k=Sum.inr x/\v=Value.str x t)
 | .inl i,v,h=>by
  obtain⟨t,e⟩:=Value.isInt_shape (k:=i) (v:=v) h
  exact .inl ⟨i,t,rfl,e⟩
 | .inr x,v,h=>by
  obtain⟨t,e⟩:=Value.isStrOf_shape (x:=x) (v:=v) h
  exact .inr ⟨x,t,rfl,e⟩
theorem B2k (i:Int)(t:Tok):lX (.inl i) (.int i t)=true:=by simp [lX,Value.isInt]
theorem B1k (x:Str)(t:Tok):lX (.inr x) (.str x t)=true:=by simp [lX,Value.isStrOf]
theorem B0f (a b:Int):decide ((Sum.inl a:Key)=Sum.inl b)=(a==b):=by
 by_cases e:a=b
 ·subst e;simp
 ·have h:¬(Sum.inl a:Key)=Sum.inl b:=fun q=>e (Sum.inl.inj q)
  rw [decide_eq_false h]
  exact(beq_eq_false_iff_ne.mpr e).symm
theorem A6u (a b:Str):decide ((Sum.inr a:Key)=Sum.inr b)=decide (a=b):=by
 by_cases e:a=b
 ·subst e;simp
 ·have h:¬(Sum.inr a:Key)=Sum.inr b:=fun q=>e (Sum.inr.inj q)
  rw [decide_eq_false h,decide_eq_false e]
theorem A84 (a:Int)(b:Str):decide ((Sum.inl a:Key)=Sum.inr b)=false:=decide_eq_false (fun q=>nomatch q)
theorem B0s (a:Str)(b:Int):decide ((Sum.inr a:Key)=Sum.inl b)=false:=decide_eq_false (fun q=>nomatch q)
def eA (prog:Program)(w:World):PySem.KeyKind prog w Key where
 is:=lX
 hash:=A64 w
 inj:=fun v a b ha hb=>by
  rcases keyIs_shape ha with⟨i,t,rfl,rfl⟩| ⟨x,t,rfl,rfl⟩
  ·rcases keyIs_shape hb with⟨j,u,rfl,e⟩| ⟨y,u,rfl,e⟩
   ·injection e with e1 _;rw [e1]
   ·exact nomatch e
  ·rcases keyIs_shape hb with⟨j,u,rfl,e⟩| ⟨y,u,rfl,e⟩
   ·exact nomatch e
   ·injection e with e1 _;rw [e1]
 byValue:=fun k v h=>by
  rcases keyIs_shape h with⟨i,t,rfl,rfl⟩| ⟨x,t,rfl,rfl⟩<;>rfl
 pyHash:=fun hv h=>by
  rcases keyIs_shape hv with⟨i,t,rfl,rfl⟩| ⟨x,t,rfl,rfl⟩
  ·exact wpAny_pyHash_int h
  ·exact wpAny_pyHash_str h
 eqBool:=fun hu hv h=>by
  rcases keyIs_shape hu with⟨i,t,rfl,rfl⟩| ⟨x,t,rfl,rfl⟩
  ·rcases keyIs_shape hv with⟨j,u,rfl,rfl⟩| ⟨y,u,rfl,rfl⟩
   ·rw [B0f]at h;exact wpAny_eqBool_int h
   ·rw [A84]at h;exact SeqAt.EqAt.int_str i t y u _ _ _ _ h
  ·rcases keyIs_shape hv with⟨j,u,rfl,rfl⟩| ⟨y,u,rfl,rfl⟩
   ·rw [B0s]at h;exact SeqAt.EqAt.str_int x t j u _ _ _ _ h
   ·rw [A6u]at h;exact wpAny_eqBool_str h
 «strs»:=fun k x t v h=>by
  rcases keyIs_shape h with⟨i,u,rfl,e⟩| ⟨y,u,rfl,e⟩
  ·exact nomatch e
  ·injection e with e1 _
   subst e1
   cases v<;>rfl
theorem A7v (prog:Program)(w:World)(i:Int)(t:Tok):(eA prog w).is (.inl i) (.int i t)=true:=B2k i t
theorem B1n (prog:Program)(w:World)(x:Str)(t:Tok):(eA prog w).is (.inr x) (.str x t)=true:=B1k x t
inductive V where
 |non|bl (b:Bool)|int (i:Int)|str (x:Str)|byt (b:Array UInt8)|flt (b:UInt64)|ref (a:Addr)|ty (n:String)
 deriving DecidableEq
def RelV:V->Value->Prop
 | .non,u=>u=Value.none
 | .bl b,u=>u=Value.bool b
 | .int i,u=> ∃t,u=Value.int i t
 | .str x,u=> ∃t,u=Value.str x t
 | .byt b,u=> ∃t,u=Value.bytes b t
 | .flt b,u=> ∃t,u=Value.float b t
 | .ref a,u=>u=Value.ref a
 | .ty n,u=>u=Value.type n
abbrev Vals:List V->List Value->Prop:=Paired RelV
theorem Vals.length {xs:List V}{us:List Value}(r:Vals xs us):xs.length=us.length:=Paired.length r
theorem Vals.get:∀{xs:List V}{us:List Value}{i:Nat}{x:V},Vals xs us->xs[i]?=some x->∃u,us[i]?=some u/\RelV x u
 |_,_,_,_,.nil,e=>by simp at e
 |_,_,0,_,.cons r _,e=>by simp at e;subst e;exact⟨_,rfl,r⟩
 |_,_,i+1,x,.cons _ t,e=>by
  obtain⟨u,h1,h2⟩:=Vals.get (i:=i) (x:=x) t (by simpa using e)
  exact⟨u,by simpa using h1,h2⟩
theorem Vals.set {x:V}{u:Value}(r:RelV x u):∀{xs:List V}{us:List Value}(i:Nat),Vals xs us->Vals (xs.set i x) (us.set i u)
 |_,_,_,.nil=> .nil
 |_,_,0,.cons _ t=> .cons r t
 |_,_,i+1,.cons q t=> .cons q (Vals.set r i t)
theorem Vals.append:∀{xs ys:List V}{us ws:List Value},Vals xs us->Vals ys ws->Vals (xs++ys) (us++ws)
 |_,_,_,_,.nil,s=>s
 |_,_,_,_,.cons r t,s=> .cons r (Vals.append t s)
theorem Vals.take:∀{xs:List V}{us:List Value}(n:Nat),Vals xs us->Vals (xs.take n) (us.take n)
 |_,_,0,_=> .nil
 |_,_,_+1,.nil=> .nil
 |_,_,n+1,.cons r t=> .cons r (Vals.take n t)
theorem Vals.drop:∀{xs:List V}{us:List Value}(n:Nat),Vals xs us->Vals (xs.drop n) (us.drop n)
 |_,_,0,r=>r
 |_,_,_+1,.nil=> .nil
 |_,_,n+1,.cons _ t=>Vals.drop n t
def RelO:Option V->Option Value->Prop
 |some v,some u=>RelV v u
 |none,none=>True
 |_,_=>False
def KV {κ:Type}:List (κ×V)->List (κ×Value)->Prop:=Paired fun(p:κ×V) (q:κ×Value)=>p.1=q.1/\RelV p.2 q.2
def kV:Key->V
 | .inl i=> .int i
 | .inr x=> .str x
inductive HO where
  |lst (xs:List V)
  |tup (xs:List V)
  |dK (kvs:List (Key×V))|dT (kvs:List (List Key×V))
  |set (S:Int->Bool) (n:Nat)
  |ins (C dx:Addr) (fs:List (Str×V))
  |own (x:Addr)
  |xd (fs:List (Str×V))
  |met (f x:Addr)
  |rng (lo hi:Int)
  |frz (o:Obj) (u:HO)
  |tbl (ps:Array Value)
  |ext (φ:Heap->Prop)
abbrev Hp:=Addr->Option HO
def upd (H:Hp)(a:Addr)(o:HO):Hp:=fun b=>if b=a then some o else H b
theorem aI {H:Hp}{a:Addr}{o:HO}:upd H a o a=some o:=by unfold upd;rw [if_pos rfl]
theorem aS {H:Hp}{a b:Addr}{o:HO}(h:b≠a):upd H a o b=H b:=by unfold upd;rw [if_neg h]
theorem A6j {H:Hp}{a b:Addr}{o u:HO}(h:H a=some o)(h':H b=some u)(d:o≠u):a≠b:=by
 intro e;subst e;rw [h]at h';exact d (Option.some.inj h')
theorem cB {H:Hp}{a b:Addr}{o:HO}(h:H a=some o)(h':H b=none):a≠b:=by
 intro e;subst e;rw [h]at h';cases h'
section
variable (P:Program)(w:World)
def ObjOk (H:Hp)(h:Heap)(a:Addr):HO->Prop
 | .lst xs=>xs.length<=sizeLine/\∃(its:List Value)(n:Nat),Vals xs its/\h.get? a=some {cls:=.type "list",data:=.seq its.toArray n}
 | .tup xs=>xs.length<=sizeLine/\∃its:List Value,Vals xs its/\IsTup h a its.toArray
 | .dK kvs=>kvs.length<=sizeLine/\(a==sysModules)=false/\∃vs,KV kvs vs/\h.DictOf (eA P w) a vs
 | .dT kvs=>kvs.length<=sizeLine/\(a==sysModules)=false/\∃xs:List (List Key×Addr×Value),
   Paired (fun(p:List Key×V) (q:List Key×Addr×Value)=>p.1=q.1/\H q.2.1=some (.tup (p.1.map kV))/\RelV p.2 q.2.2) kvs xs/\
   ∃o es ep,h.get? a=some o/\o.ExactDict/\o.data= .dict es ep/\es.toList=xs.map (entryOfKey (tupleKind (eA P w)))/\(xs.map (·.1)).Nodup
 | .set S n=>h.SetOf (intKind P w) a S n
 | .ins C dx fs=>H dx=some (.own a)/\fs.length<=1000/\dx≠a/\h.get? a=some (W.instObj C dx)/\
   ∃mA,h.Ns1 dx mA/\(∀f,RelO (fs.lookup f) (mA f))/\PySem.Within mA (fs.map (·.1))
 | .own _=> ∃o,h.get? a=some o
 | .xd fs=> ∃mA,h.Ns1 a mA/\∀f,RelO (fs.lookup f) (mA f)
 | .rng lo hi=> ∃t u v,h.get? a=some {cls:=.type "range",data:=.fields #[.int lo t,.int hi u,.int 1 v]}
 | .frz o u=>h.get? a=some o/\ObjOk H h a u
 | .tbl ps=>h.get? a=some {cls:=.none,data:=.fields ps}
 | .met f x=>h.get? a=some (W.methodObj (.ref f) (.ref x))
 | .ext φ=>φ h/\(∃o,h.get? a=some o)/\∀h1 h2:Heap,φ h1->(∀o,h1.get? a=some o->h2.get? a=some o)->φ h2
def HOk (H:Hp)(h:Heap):Prop:=∀a o,H a=some o->ObjOk P w H h a o
end
section
variable {P:Program}{w:World}{H H':Hp}{h h':Heap}{a:Addr}{o:HO}
theorem ObjOk.lt (x:ObjOk P w H h a o):a<h.objs.size:=by
 cases o with
 |lst xs=>obtain⟨_,_,_,_,e⟩:=x;exact Heap.lt_size e
 |tup xs=>obtain⟨_,_,_,p⟩:=x;exact p.lt
 |dK kvs=>obtain⟨_,_,_,_,o,_,_,e,_⟩:=x;exact Heap.lt_size e
 |dT kvs=>obtain⟨_,_,_,_,o,_,_,e,_⟩:=x;exact Heap.lt_size e
 |set S n=>obtain⟨o,_,_,_,e,_⟩:=x;exact Heap.lt_size e
 |ins C dx fs=>obtain⟨_,_,_,e,_⟩:=x;exact Heap.lt_size e
 |own y=>obtain⟨_,e⟩:=x;exact Heap.lt_size e
 |xd fs=>obtain⟨_,⟨_,_,_,e,_⟩,_⟩:=x;exact Heap.lt_size e
 |rng lo hi=>obtain⟨_,_,_,e⟩:=x;exact Heap.lt_size e
 |frz ob u=>obtain⟨e,_⟩:=x;exact Heap.lt_size e
 |tbl ps=>exact Heap.lt_size (show h.get? a=some _ from x)
 |met f y=>exact Heap.lt_size (show h.get? a=some _ from x)
 |ext φ=>obtain⟨_,⟨_,e⟩,_⟩:=x;exact Heap.lt_size e
theorem Paired.mapP {α β:Type}{F G:α->β->Prop}:∀{l₁:List α}{l₂:List β},Paired F l₁ l₂->(∀a b,F a b->G a b)->Paired G l₁ l₂
 |_,_,.nil,_=> .nil
 |_,_,.cons r t,f=> .cons (f _ _ r) (Paired.mapP t f)
theorem ObjOk.stay (x:ObjOk P w H h a o)(k:∀b u,(b=a\/H b=some (.own a))->h.get? b=some u->h'.get? b=some u)
  (ho:∀b,H b=some (.own a)->H' b=some (.own a))(ht:∀b xs,H b=some (.tup xs)->H' b=some (.tup xs)):ObjOk P w H' h' a o:=by
 induction o with
 |lst xs=>obtain⟨z,its,n,r,e⟩:=x;exact⟨z,its,n,r,k _ _ (.inl rfl) e⟩
 |tup xs=>obtain⟨z,its,r,ob,e,c⟩:=x;exact⟨z,its,r,ob,k _ _ (.inl rfl) e,c⟩
 |dK kvs=>obtain⟨z,y,vs,r,ob,es,ep,e,c⟩:=x;exact⟨z,y,vs,r,ob,es,ep,k _ _ (.inl rfl) e,c⟩
 |dT kvs=>
  obtain⟨z,y,xs,r,ob,es,ep,e,c⟩:=x
  exact⟨z,y,xs,Paired.mapP r fun p q z=> ⟨z.1,ht _ _ z.2.1,z.2.2⟩,ob,es,ep,k _ _ (.inl rfl) e,c⟩
 |set S n=>obtain⟨ob,es,ep,t,e,c⟩:=x;exact⟨ob,es,ep,t,k _ _ (.inl rfl) e,c⟩
 |ins C dx fs=>
  obtain⟨d,z,ne,e,mA,⟨od,es,ep,e2,c⟩,r⟩:=x
  exact⟨ho _ d,z,ne,k _ _ (.inl rfl) e,mA,⟨od,es,ep,k _ _ (.inr d) e2,c⟩,r⟩
 |own y=>obtain⟨ob,e⟩:=x;exact⟨ob,k _ _ (.inl rfl) e⟩
 |xd fs=>obtain⟨mA,⟨od,es,ep,e,c⟩,r⟩:=x;exact⟨mA,⟨od,es,ep,k _ _ (.inl rfl) e,c⟩,r⟩
 |rng lo hi=>obtain⟨t,u,v,e⟩:=x;exact⟨t,u,v,k _ _ (.inl rfl) e⟩
 |frz ob u ih=>obtain⟨e,q⟩:=x;exact⟨k _ _ (.inl rfl) e,ih q⟩
 |tbl ps=>
  have e:h.get? a=some {cls:=.none,data:=.fields ps}:=x
  show h'.get? a=some {cls:=.none,data:=.fields ps}
  exact k a _ (.inl rfl) e
 |met f y=>
  have e:h.get? a=some (W.methodObj (.ref f) (.ref y)):=x
  show h'.get? a=some (W.methodObj (.ref f) (.ref y))
  exact k a _ (.inl rfl) e
 |ext φ=>obtain⟨p,⟨o,e⟩,st⟩:=x;exact⟨st _ _ p fun o q=>k _ _ (.inl rfl) q,⟨o,k _ _ (.inl rfl) e⟩,st⟩
theorem HOk.lt (x:HOk P w H h)(e:H a=some o):a<h.objs.size:=(x a o e).lt
theorem HOk.fresh (x:HOk P w H h)(e:h.objs.size<=a):H a=none:=by
 cases q:H a with
 |none=>rfl
 |some u=>exact absurd (Nat.lt_of_lt_of_le (x.lt q) e) (Nat.lt_irrefl _)
theorem HOk.kept (x:HOk P w H h)(k:∀b u,h.get? b=some u->h'.get? b=some u):HOk P w H h':=fun a o e=>
 (x a o e).stay (fun b u _ q=>k b u q) (fun _ q=>q) fun _ _ q=>q
theorem HOk.laid (x:HOk P w H h)(k:∀b u,h.get? b=some u->h'.get? b=some u)(hp:h.objs.size<=a)(new:ObjOk P w (upd H a o) h' a o):HOk P w (upd H a o) h':=fun b u e=>by
 have hn:=x.fresh hp
 by_cases hb:b=a
 ·subst hb;rw [aI]at e;cases e;exact new
 ·rw [aS hb]at e
  exact(x b u e).stay (fun c v _ q=>k c v q) (fun c q=>by rw [aS (cB q hn)];exact q) fun c xs q=>by rw [aS (cB q hn)];exact q
end
def Rd (H:Hp)(a:Addr)(u:HO):Prop:=H a=some u\/ ∃o,H a=some (.frz o u)
theorem Rd.ok {P:Program}{w:World}{H:Hp}{h:Heap}{a:Addr}{u:HO}(r:Rd H a u)(x:HOk P w H h):ObjOk P w H h a u:=by
 rcases r with r| ⟨o,r⟩
 ·exact x a u r
 ·obtain⟨_,q⟩:=x a _ r
  exact q
def Mut:Option HO->Prop
 |some (.lst _)=>True
 |some (.dK _)=>True
 |some (.dT _)=>True
 |some (.set _ _)=>True
 |some (.ins _ _ _)=>True
 |some (.ext _)=>True
 |_=>False
section
variable {P:Program}{w:World}{H:Hp}{h h':Heap}{x e:Addr}{o':HO}
theorem HOk.write (ok:HOk P w H h)(mu:Mut (H x))(he:e=x\/H e=some (.own x))(k:∀b u,b≠e->h.get? b=some u->h'.get? b=some u)(heo:∃u,h'.get? e=some u)
  (new:ObjOk P w (upd H x o') h' x o'):HOk P w (upd H x o') h':=fun b u q=>by
 have nown:∀c y,H c=some (.own y)->c≠x:=fun c y r z=>by subst z;rw [r]at mu;exact mu
 have ntup:∀c xs,H c=some (.tup xs)->c≠x:=fun c xs r z=>by subst z;rw [r]at mu;exact mu
 by_cases hb:b=x
 ·subst hb;rw [aI]at q;cases q;exact new
 ·rw [aS hb]at q
  by_cases hbe:b=e
  ·have q':H b=some (.own x):=by
    rcases he with z|z
    ·exact absurd (hbe.trans z) hb
    ·rw [hbe];exact z
   rw [q]at q';cases q'
   obtain⟨v,hv⟩:=heo
   exact⟨v,by rw [hbe];exact hv⟩
  ·refine(ok b u q).stay (fun c v hc r=>k c v ?_ r) (fun c r=>by rw [aS (nown c b r)];exact r) fun c xs r=>by rw [aS (ntup c xs r)];exact r
   rcases hc with rfl|hc
   ·exact hbe
   ·rintro rfl
    rcases he with z|z
    ·exact nown c b hc z
    ·rw [hc]at z;cases z;exact hb rfl
end
structure Un (fs ex:List Addr)(H H':Hp)(h h':Heap):Prop where
 keep:∀b o,h.get? b=some o->H b=none->b∉fs->b∉ex->h'.get? b=some o
 slot:∀b o,h.get? b=some o->H b=none->b∈fs->b∉ex->∃sl,h'.get? b=some {o with slots:=sl}
 free:∀b o,h.get? b=some o->H b=none->b∉ex->H' b=none
 there:∀b o,h.get? b=some o->b∉ex->∃o',h'.get? b=some o'
 tups:∀b xs,H b=some (.tup xs)->H' b=some (.tup xs)
 frzs:∀b o u,H b=some (.frz o u)->H' b=some (.frz o u)
 tbls:∀b ps,H b=some (.tbl ps)->∃more,H' b=some (.tbl (ps++more))
section
variable {fs fs' ex ex':List Addr}{H H1 H2:Hp}{h h1 h2 h':Heap}{a x e:Addr}{o:HO}
theorem Un.any (u:Un fs ex H H1 h h1){b:Addr}{ob:Obj}(q:h.get? b=some ob)(n:H b=none)(hx:b∉ex):∃sl,h1.get? b=some {ob with slots:=sl}:=by
 by_cases hb:b∈fs
 ·exact u.slot b ob q n hb hx
 ·exact⟨ob.slots,u.keep b ob q n hb hx⟩
theorem Un.kept (k:∀b u,h.get? b=some u->h'.get? b=some u):Un fs ex H H h h':=
 ⟨fun b ob q _ _ _=>k b ob q,fun b ob q _ _ _=> ⟨ob.slots,k b ob q⟩,fun _ _ _ n _=>n,fun b ob q _=> ⟨ob,k b ob q⟩,fun _ _ q=>q,fun _ _ _ q=>q,fun _ ps q=> ⟨#[],by rw [q];simp⟩⟩
theorem Un.refl:Un fs ex H H h h:=Un.kept fun _ _ q=>q
theorem Un.laid (k:∀b u,h.get? b=some u->h'.get? b=some u)(hp:h.objs.size<=a)(hn:H a=none):Un fs ex H (upd H a o) h h' where
 keep:=fun b u q _ _ _=>k b u q
 slot:=fun b u q _ _ _=> ⟨u.slots,k b u q⟩
 free:=fun b u q n _=>by rw [aS (Nat.ne_of_lt (Nat.lt_of_lt_of_le (Heap.lt_size q) hp))];exact n
 there:=fun b u q _=> ⟨u,k b u q⟩
 tups:=fun b xs q=>by rw [aS (cB q hn)];exact q
 frzs:=fun b u xs q=>by rw [aS (cB q hn)];exact q
 tbls:=fun b ps q=> ⟨#[],by rw [aS (cB q hn),q];simp⟩
theorem Un.write (mu:Mut (H x))(he:e=x\/H e=some (.own x))(k:∀b u,b≠e->h.get? b=some u->h'.get? b=some u)(heo:∃u,h'.get? e=some u):Un fs ex H (upd H x o) h h':=by
 have hx:∀b,H b=none->b≠x:=fun b n z=>by subst z;rw [n]at mu;exact mu
 have hb:∀b,H b=none->b≠e:=fun b n z=>by
  subst z
  rcases he with r|r
  ·exact hx b n r
  ·rw [n]at r;cases r
 have hm:∀b u,H b=some u->¬Mut (some u)->b≠x:=fun b u q nm z=>by subst z;rw [q]at mu;exact nm mu
 refine⟨fun b u q n _ _=>k b u (hb b n) q,fun b u q n _ _=> ⟨u.slots,k b u (hb b n) q⟩,fun b u q n _=>by rw [aS (hx b n)];exact n,fun b u q _=> ?_,
  fun b xs q=>by rw [aS (hm b _ q fun z=>z)];exact q,fun b u xs q=>by rw [aS (hm b _ q fun z=>z)];exact q,fun b ps q=> ⟨#[],by rw [aS (hm b _ q fun z=>z),q];simp⟩⟩
 by_cases hbe:b=e
 ·subst hbe;exact heo
 ·exact⟨u,k b u hbe q⟩
end
def trk (h:Heap)(H:Hp):List Addr:=(List.range h.objs.size).filter fun a=>(H a).isSome
def gY (h:Heap)(H:Hp):Heap:=W.hideAll h (trk h H)
theorem A61 (h:Heap)(H:Hp):(gY h H).objs.size=h.objs.size:=W.hideAll_size _ _
theorem A83 {h:Heap}{H:Hp}{b:Addr}{o:Obj}(e:h.get? b=some o)(n:H b=none):(gY h H).get? b=some o:=
 W.hideAll_get _ e fun hm=>by
  have q:(H b).isSome=true:=(List.mem_filter.mp hm).2
  rw [n]at q;simp at q
theorem A7i {h:Heap}{H:Hp}{b:Addr}{o:Obj}(e:(gY h H).get? b=some o):h.get? b=some o/\H b=none:=by
 have e':h.get? b=some o:=W.of_hideAll (trk h H) e
 refine⟨e',?_⟩
 cases q:H b with
 |none=>rfl
 |some x=>
  have hm:b∈trk h H:=List.mem_filter.mpr ⟨List.mem_range.mpr (Heap.lt_size e'),by simp [q]⟩
  have z:(gY h H).get? b=none:=W.hideAll_none (trk h H) hm
  rw [z]at e;cases e
def A63 (g h:Heap)(L:Addr):List (Addr×Obj):=(List.range h.objs.size).filterMap fun a=>if a=L\/(g.get? a).isSome=true then none else(h.get? a).map fun o=>(a,o)
def rest (g h:Heap)(L d:Addr):List (Addr×Obj):=(A63 g h L).filter fun p=>decide (p.1≠d)
structure Mod (K:W.Frag)(mg:Str->Option Value)(base:Heap):Prop where
 kin:K.In base
 glob:base.Ns mainGlobals mg
 blt:∃mb,base.Ns builtinsNs mb/\∀x:Str,x≠ "__name__"->mb x=bootBuiltins x
 nolimit:base.NoLimit
structure Cx where
 prog:Program
 w:World
 K:W.Frag
 mg:Str->Option Value
 base:Heap
 A:Around
 N:List Str
 s₀:Shared
 H₀:Hp
 env:Env
 outer:List Env
 stack:List Env
 ex:List Addr
 fn:Str->Bool
 calm:Bool
 pn:List (Addr×Obj)
 xe:Value->Shared->Prop
def frs (l:List Env):List Addr:=l.filterMap (·.frame)
abbrev Cx.fs (X:Cx):List Addr:=frs X.outer
def Vis (sc:Scope)(x:Str):Prop:=sc.names.lookup x=some .local\/sc.names.lookup x=some .cell\/sc.names.lookup x=some .free
def Loc (sc:Scope)(x:Str):Prop:=sc.names.lookup x=some .local\/sc.names.lookup x=some .cell
def A5m (env:Env)(h:Heap)(m:Str->Option Value)(x:Str)(u:Value):Prop:=
 (env.kindOf x=some .local/\m x=some u)\/((env.kindOf x=some .cell\/env.kindOf x=some .free)/\∃c,env.cells.lookup x=some c/\h.IsCell c (some u))
structure Cx.Ok (X:Cx):Prop where
 mod:Mod X.K X.mg X.base
 kind:X.env.scope.kind= .function
 glob:X.env.globals=mainGlobals
 blt:X.env.builtins=builtinsNs
 above:X.s₀.heap.objs.size<=X.env.locals
 inj:∀x y c,X.env.cells.lookup x=some c->X.env.cells.lookup y=some c->x=y
 has:∀x,(X.env.kindOf x=some .cell\/X.env.kindOf x=some .free)->∃c,X.env.cells.lookup x=some c
 cab:∀x c,X.fn x=true->X.env.cells.lookup x=some c->X.s₀.heap.objs.size<=c
 hd:X.calm=true->X.A.handled=none
 frames:X.A.frames=some X.stack
 stk:X.stack=X.outer\/(X.stack=X.env::X.outer/\X.env.frame=some X.env.locals)
 exf:∀b∈X.ex,b≠X.env.locals/\∀x c,X.env.cells.lookup x=some c->c≠b
 bs:∀b o,X.base.get? b=some o->X.s₀.heap.get? b=some o/\X.H₀ b=none
 bsz:X.base.objs.size<=X.s₀.heap.objs.size
 noex:∀b o,X.base.get? b=some o->b∉X.ex
 exfs:∀b∈X.ex,b∉X.fs
 funs:X.s₀.heap.FunFrames X.base X.outer
 frf:∀b∈X.fs,X.H₀ b=none
structure Inv (X:Cx)(pins:List (Addr×Obj))(σ:List (Option V))(H:Hp)(s:Shared):Prop where
 ok:X.Ok
 os:s.os=X.s₀.os
 bare:AllBare s.gens
 base:Un X.fs X.ex X.H₀ H X.s₀.heap s.heap
 loc:∃m,s.heap.Ns X.env.locals m/\∀(i:Nat)(x:Str)(v:V),X.N[i]?=some x->σ[i]?=some (some v)->Vis X.env.scope x->∃u,RelV v u/\A5m X.env s.heap m x u
 cell:∀x c,X.env.cells.lookup x=some c->∃v,s.heap.IsCell c v
 free:H X.env.locals=none
 freeC:∀x c,X.env.cells.lookup x=some c->H c=none
 pin:∀p∈X.pn++pins,s.heap.get? p.1=some p.2/\H p.1=none/\p.1≠X.env.locals/\p.1∉X.fs/\∀v,p.2.data≠ .cell v
 hok:HOk X.prog X.w H s.heap
 len:σ.length=X.N.length
section
variable {X:Cx}{pins:List (Addr×Obj)}{σ:List (Option V)}{H H':Hp}{s:Shared}{h':Heap}
theorem Cx.Ok.nofr (ok:X.Ok){b:Addr}{o:Obj}(e:X.base.get? b=some o):b∉X.fs:=fun hb=>by
 have:=(ok.funs.mem hb).1
 rw [e]at this;cases this
theorem Inv.bs (I:Inv X pins σ H s):∀b o,X.base.get? b=some o->s.heap.get? b=some o/\H b=none:=fun b o e=>
 ⟨I.base.keep b o (I.ok.bs b o e).1 (I.ok.bs b o e).2 (I.ok.nofr e) (I.ok.noex b o e),I.base.free b o (I.ok.bs b o e).1 (I.ok.bs b o e).2 (I.ok.noex b o e)⟩
theorem Inv.bk (I:Inv X pins σ H s):∀b o,X.base.get? b=some o->s.heap.get? b=some o:=fun b o e=>(I.bs b o e).1
theorem Inv.mod (I:Inv X pins σ H s):Mod X.K X.mg X.base:=I.ok.mod
theorem Inv.kIn (I:Inv X pins σ H s):X.K.In s.heap:=I.ok.mod.kin.keeps I.bk
theorem Inv.lt (I:Inv X pins σ H s):X.env.locals<s.heap.objs.size:=let ⟨_,hn,_⟩:=I.loc;hn.lt
theorem Inv.sz (I:Inv X pins σ H s):X.s₀.heap.objs.size<=s.heap.objs.size:=Nat.le_trans I.ok.above (Nat.le_of_lt I.lt)
theorem Inv.nofs (I:Inv X pins σ H s){a:Addr}(h:s.heap.objs.size<=a):a∉X.fs:=fun hb=>by
 obtain⟨_,o,ho,_⟩:=I.ok.funs.mem hb
 exact absurd (Nat.lt_of_lt_of_le (Heap.lt_size ho) (Nat.le_trans I.sz h)) (Nat.lt_irrefl _)
theorem Inv.cne (I:Inv X pins σ H s):∀x c,X.env.cells.lookup x=some c->c≠X.env.locals:=fun x c e z=>by
 obtain⟨v,o,ho,hd⟩:=I.cell x c e
 obtain⟨m,⟨o',es,ep,ho',hd',_⟩,_⟩:=I.loc
 rw [z,ho']at ho;cases ho;rw [hd']at hd;cases hd
theorem Inv.funs (I:Inv X pins σ H s):s.heap.FunFrames X.base X.outer:=by
 have all:∀(l:List Env),(∀b∈frs l,b∈X.fs)->X.s₀.heap.FunFrames X.base l->s.heap.FunFrames X.base l:=by
  intro l
  induction l with
  |nil=>intro _ _;trivial
  |cons env r ih=>
   intro hs hl
   obtain⟨hk,⟨L,o,hf,hn,ho,hd⟩,hr⟩:=hl
   have hL:L∈X.fs:=hs L (by unfold frs;rw [List.filterMap_cons,hf];exact List.mem_cons_self)
   obtain⟨sl,e⟩:=I.base.slot L o ho (I.ok.frf L hL) hL fun z=>I.ok.exfs L z hL
   exact⟨hk,⟨L,_,hf,hn,e,hd⟩,ih (fun b hb=>hs b (by unfold frs;rw [List.filterMap_cons,hf];exact List.mem_cons_of_mem _ hb)) hr⟩
 exact all X.outer (fun _ hb=>hb) I.ok.funs
theorem Inv.stack (I:Inv X pins σ H s):s.heap.FunFrames X.base X.stack:=by
 rcases I.ok.stk with e| ⟨e,hf⟩
 ·rw [e];exact I.funs
 ·rw [e]
  obtain⟨m,hn,_⟩:=I.loc
  refine .cons (by rw [I.ok.kind];decide) hf hn ?_ I.funs
  exact Heap.get?_none_of_le (Nat.le_trans I.ok.bsz I.ok.above)
theorem Inv.stkSub (I:Inv X pins σ H s):∀b∈frs X.stack,b∈X.env.locals::X.fs:=fun b hb=>by
 rcases I.ok.stk with e| ⟨e,hf⟩
 ·rw [e]at hb;exact List.mem_cons_of_mem _ hb
 ·rw [e]at hb
  unfold frs at hb
  rw [List.filterMap_cons,hf]at hb
  exact hb
theorem Inv.stkFree (I:Inv X pins σ H s):∀b∈frs X.stack,H b=none:=fun b hb=>by
 rcases List.mem_cons.mp (I.stkSub b hb)with e|hb
 ·rw [e];exact I.free
 ·obtain⟨_,o,ho,_⟩:=I.ok.funs.mem hb
  exact I.base.free b o ho (I.ok.frf b hb) fun z=>I.ok.exfs b z hb
theorem Inv.step {g':Array GenState}{t':Nat}{d':Drawn}{ch:List Addr}(I:Inv X pins σ H s)
  (hch:∀b∈ch,(b∈X.ex\/X.s₀.heap.objs.size<=b)/\b≠X.env.locals/\(∀x c,X.env.cells.lookup x=some c->c≠b)/\∀p∈X.pn++pins,p.1≠b)
  (keep:∀b o,b≠X.env.locals->b∉X.fs->b∉ch->s.heap.get? b=some o->H b=none->h'.get? b=some o)
  (slot:∀b o,b≠X.env.locals->b∈X.fs->b∉ch->s.heap.get? b=some o->H b=none->∃sl,h'.get? b=some {o with slots:=sl})(free:∀b o,b∉ch->s.heap.get? b=some o->H b=none->H' b=none)
  (there:∀b o,b∉ch->s.heap.get? b=some o->∃o',h'.get? b=some o')
  (tups:∀b xs,H b=some (.tup xs)->H' b=some (.tup xs))(frzs:∀b o u,H b=some (.frz o u)->H' b=some (.frz o u))(tbls:∀b ps,H b=some (.tbl ps)->∃more,H' b=some (.tbl (ps++more)))
  (ns:∀m,s.heap.Ns X.env.locals m->h'.Ns X.env.locals m)(hok:HOk X.prog X.w H' h')(hg:AllBare g'):
  Inv X pins σ H' {s with heap:=h',gens:=g',drawn:=d',toks:=t'}:=by
 have neL:∀b o,X.s₀.heap.get? b=some o->b≠X.env.locals:=fun b o e=>Nat.ne_of_lt (Nat.lt_of_lt_of_le (Heap.lt_size e) I.ok.above)
 have neC:∀b o,X.s₀.heap.get? b=some o->b∉X.ex->b∉ch:=fun b o e hx hb=>by
  rcases(hch b hb).1 with z|z
  ·exact hx z
  ·exact absurd (Nat.lt_of_lt_of_le (Heap.lt_size e) z) (Nat.lt_irrefl _)
 have cellK:∀x c,X.env.cells.lookup x=some c->∀v,s.heap.IsCell c v->h'.IsCell c v:=fun x c e v ⟨o,ho,hd⟩=>by
  have nch:c∉ch:=fun z=>(hch c z).2.2.1 x c e rfl
  by_cases hc:c∈X.fs
  ·obtain⟨sl,q⟩:=slot c o (I.cne x c e) hc nch ho (I.freeC x c e)
   exact⟨_,q,hd⟩
  ·exact⟨o,keep c o (I.cne x c e) hc nch ho (I.freeC x c e),hd⟩
 refine⟨I.ok,I.os,hg,⟨fun b o e n hb hx=> ?_,fun b o e n hb hx=> ?_,fun b o e n hx=> ?_,fun b o e hx=> ?_,fun b xs e=>tups b xs (I.base.tups b xs e),fun b o xs e=>frzs b o xs (I.base.frzs b o xs e),fun b ps e=> ?_⟩,?_,fun x c e=> ?_,?_,fun x c e=> ?_,fun p hp=> ?_,hok,I.len⟩
 ·exact keep b o (neL b o e) hb (neC b o e hx) (I.base.keep b o e n hb hx) (I.base.free b o e n hx)
 ·obtain⟨sl,e1⟩:=I.base.slot b o e n hb hx
  obtain⟨sl',e2⟩:=slot b _ (neL b o e) hb (neC b o e hx) e1 (I.base.free b o e n hx)
  exact⟨sl',e2⟩
 ·obtain⟨o',e1⟩:=I.base.there b o e hx
  exact free b o' (neC b o e hx) e1 (I.base.free b o e n hx)
 ·obtain⟨o',e1⟩:=I.base.there b o e hx
  exact there b o' (neC b o e hx) e1
 ·obtain⟨m1,e1⟩:=I.base.tbls b ps e
  obtain⟨m2,e2⟩:=tbls b _ e1
  exact⟨m1++m2,by rw [e2,Array.append_assoc]⟩
 ·obtain⟨m,hn,hl⟩:=I.loc
  refine⟨m,ns m hn,fun i x v e1 e2 e3=> ?_⟩
  obtain⟨u,r,l⟩:=hl i x v e1 e2 e3
  refine⟨u,r,?_⟩
  rcases l with l| ⟨k,c,e,z⟩
  ·exact .inl l
  ·exact .inr ⟨k,c,e,cellK x c e _ z⟩
 ·obtain⟨v,z⟩:=I.cell x c e
  exact⟨v,cellK x c e v z⟩
 ·obtain⟨m,⟨o,_,_,ho,_⟩,_⟩:=I.loc
  exact free _ o (fun z=>(hch _ z).2.1 rfl) ho I.free
 ·obtain⟨v,o,ho,hd⟩:=I.cell x c e
  exact free c o (fun z=>(hch c z).2.2.1 x c e rfl) ho (I.freeC x c e)
 ·obtain⟨e,n,ne,nf,d⟩:=I.pin p hp
  have nch:p.1∉ch:=fun z=>(hch p.1 z).2.2.2 p hp rfl
  exact⟨keep p.1 p.2 ne nf nch e n,free p.1 p.2 nch e n,ne,nf,d⟩
theorem Inv.un {t':Nat}(I:Inv X pins σ H s)(u:Un X.fs [] H H' s.heap h')(hok:HOk X.prog X.w H' h'):Inv X pins σ H' {s with heap:=h',toks:=t'}:=by
 obtain⟨m,⟨o,es,ep,ho,r⟩,_⟩:=id I.loc
 obtain⟨sl,hL⟩:=u.any ho I.free (by simp)
 exact I.step (g':=s.gens) (d':=s.drawn) (ch:=[]) (fun _ z=>nomatch z) (fun b o _ hb _ e n=>u.keep b o e n hb (by simp)) (fun b o _ hb _ e n=>u.slot b o e n hb (by simp)) (fun b o _ e n=>u.free b o e n (by simp)) (fun b o _ e=>u.there b o e (by simp)) u.tups u.frzs u.tbls (fun m' hm=>by
  obtain⟨o',es',ep',ho',r'⟩:=hm
  rw [ho]at ho';cases ho'
  exact⟨_,es',ep',hL,r'⟩) hok I.bare
theorem Inv.call {g':Array GenState}{t':Nat}{d':Drawn}{ch:List Addr}(I:Inv X pins σ H s)(u:Un (frs X.stack) ch H H' s.heap h')(hok:HOk X.prog X.w H' h')(hg:AllBare g')
  (hch:∀b∈ch,(b∈X.ex\/X.s₀.heap.objs.size<=b)/\b≠X.env.locals/\(∀x c,X.env.cells.lookup x=some c->c≠b)/\∀p∈X.pn++pins,p.1≠b):
  Inv X pins σ H' {s with heap:=h',gens:=g',drawn:=d',toks:=t'}:=by
 obtain⟨m,⟨o,es,ep,ho,r⟩,_⟩:=id I.loc
 obtain⟨sl,hL⟩:=u.any ho I.free fun z=>(hch _ z).2.1 rfl
 exact I.step (ch:=ch) hch (fun b o hL hb hc e n=>u.keep b o e n (fun z=>(List.mem_cons.mp (I.stkSub b z)).elim hL hb) hc) (fun b o _ _ hc e n=>u.any e n hc) (fun b o hc e n=>u.free b o e n hc) (fun b o hc e=>u.there b o e hc) u.tups u.frzs u.tbls (fun m' hm=>by
  obtain⟨o',es',ep',ho',r'⟩:=hm
  rw [ho]at ho';cases ho'
  exact⟨_,es',ep',hL,r'⟩) hok hg
theorem Inv.turned {t':Nat}{it:Addr}(I:Inv X pins σ H s)(k:∀b o,b≠it->s.heap.get? b=some o->h'.get? b=some o)(hn:H it=none)(hL:it≠X.env.locals)
  (h1:it∈X.ex\/X.s₀.heap.objs.size<=it)(h2:∀x c,X.env.cells.lookup x=some c->c≠it)(h3:∀p∈X.pn++pins,p.1≠it):Inv X pins σ H {s with heap:=h',toks:=t'}:=by
 have nit:∀b u,H b=some u->b≠it:=fun b u e z=>by rw [z,hn]at e;cases e
 refine I.step (g':=s.gens) (d':=s.drawn) (ch:=[it]) (fun b hb=> ?_) (fun b o _ _ hc e _=>k b o (fun z=>hc (by simp [z])) e) (fun b o _ _ hc e _=> ⟨o.slots,k b o (fun z=>hc (by simp [z])) e⟩) (fun _ _ _ _ n=>n)
  (fun b o hc e=> ⟨o,k b o (fun z=>hc (by simp [z])) e⟩) (fun _ _ e=>e) (fun _ _ _ e=>e) (fun b ps e=> ⟨#[],by rw [e];simp⟩) (fun m hm=> ?_) (fun b u e=> ?_) I.bare
 ·have e:b=it:=by simpa using hb
  subst e
  exact⟨h1,hL,h2,h3⟩
 ·obtain⟨o,es,ep,ho,r⟩:=hm
  exact⟨o,es,ep,k _ o (Ne.symm hL) ho,r⟩
 ·refine(I.hok b u e).stay (fun c v hc q=>k c v ?_ q) (fun _ q=>q) fun _ _ q=>q
  rcases hc with z|z
  ·rw [z];exact nit b u e
  ·exact nit c _ z
theorem Inv.tok (I:Inv X pins σ H s)(t:Nat):Inv X pins σ H {s with toks:=t}:=I.un (h':=s.heap) (t':=t) Un.refl I.hok
theorem Inv.kept {t':Nat}(I:Inv X pins σ H s)(k:∀b u,s.heap.get? b=some u->h'.get? b=some u):Inv X pins σ H {s with heap:=h',toks:=t'}:=I.un (Un.kept k) (I.hok.kept k)
theorem Inv.laid {a:Addr}{o:HO}{t':Nat}(I:Inv X pins σ H s)(k:∀b u,s.heap.get? b=some u->h'.get? b=some u)(hp:s.heap.objs.size<=a)(new:ObjOk X.prog X.w (upd H a o) h' a o):
  Inv X pins σ (upd H a o) {s with heap:=h',toks:=t'}:=I.un (Un.laid k hp (I.hok.fresh hp)) (I.hok.laid k hp new)
theorem Inv.write {x e:Addr}{o:HO}{t':Nat}(I:Inv X pins σ H s)(mu:Mut (H x))(he:e=x\/H e=some (.own x))(k:∀b u,b≠e->s.heap.get? b=some u->h'.get? b=some u)(heo:∃u,h'.get? e=some u)
  (new:ObjOk X.prog X.w (upd H x o) h' x o):Inv X pins σ (upd H x o) {s with heap:=h',toks:=t'}:=I.un (Un.write mu he k heo) (I.hok.write mu he k heo new)
theorem Inv.weak {σ':List (Option V)}(I:Inv X pins σ H s)(hl:σ'.length=σ.length)(w:∀(i:Nat) v,σ'[i]?=some (some v)->σ[i]?=some (some v)):Inv X pins σ' H s:=
 ⟨I.ok,I.os,I.bare,I.base,let ⟨m,hn,hl'⟩:=I.loc;⟨m,hn,fun i x v e1 e2 e3=>hl' i x v e1 (w i v e2) e3⟩,I.cell,I.free,I.freeC,I.pin,I.hok,hl.trans I.len⟩
theorem Inv.pins_of {pins':List (Addr×Obj)}(I:Inv X pins σ H s)(h:∀p∈pins',s.heap.get? p.1=some p.2/\H p.1=none/\p.1≠X.env.locals/\p.1∉X.fs/\∀v,p.2.data≠ .cell v):Inv X pins' σ H s:=
 ⟨I.ok,I.os,I.bare,I.base,I.loc,I.cell,I.free,I.freeC,fun p hp=>(List.mem_append.mp hp).elim (fun z=>I.pin p (List.mem_append_left _ z)) (h p),I.hok,I.len⟩
theorem A0f {N:List Str}(hN:N.Nodup){i j:Nat}{x:Str}(a:N[i]?=some x)(b:N[j]?=some x):i=j:=by
 obtain⟨h1,e1⟩:=List.getElem?_eq_some_iff.mp a
 obtain⟨h2,e2⟩:=List.getElem?_eq_some_iff.mp b
 exact(List.getElem_inj hN).mp (e1.trans e2.symm)
theorem wO {M:Model}{A:Around}{E:Value->Shared->Prop}{i:Nat}{x:Str}{v:V}{u:Value}{Q:Unit->Shared->Prop}(I:Inv X pins σ H s)(hN:X.N.Nodup)(hi:X.N[i]?=some x)(hx:Loc X.env.scope x)(r:RelV v u)
  (h:∀s',Inv X pins (σ.set i (some v)) H s'->(∃a,Heap.SameBut a s.heap s'.heap/\(a=X.env.locals\/X.env.cells.lookup x=some a))->Q () s')(hf:X.fn x=true\/X.env.scope.names.lookup x=some .local:=by first|exact .inl rfl|exact .inr rfl|assumption):wpAny M A (storeName X.env x u) Q E s:=by
 obtain⟨m,hn,hl⟩:=id I.loc
 have hcls:(X.env.scope.kind== .class|| (X.env.scope.kind== .module&&X.env.locals !=X.env.globals))=false:=by rw [I.ok.kind];rfl
 have hiσ:i<σ.length:=by rw [I.len];exact(List.getElem?_eq_some_iff.mp hi).1
 have cne:=I.cne
 have tracked:∀{a:Addr}{h':Heap},(∃o,s.heap.get? a=some o/\H a=none)->Heap.SameBut a s.heap h'->HOk X.prog X.w H h':=fun{a h'} ha hs b ob e=>by
  obtain⟨_,_,hfree⟩:=ha
  refine(I.hok b ob e).stay (fun c w' hc q=>(hs.2 c ?_).trans q) (fun _ q=>q) fun _ _ q=>q
  rintro rfl
  rcases hc with rfl|hc
  ·rw [hfree]at e;cases e
  ·rw [hfree]at hc;cases hc
 rcases hx with hk|hk
 ·refine wpAny_storeName_local hk hn (fun h' hn' hs=> ?_) hcls
  obtain⟨oL,_,_,hoL,_⟩:=id hn
  refine h _ ⟨I.ok,I.os,I.bare,⟨fun b o e n hb hx=> ?_,fun b o e n hb hx=> ?_,I.base.free,fun b o e hx=> ?_,I.base.tups,I.base.frzs,I.base.tbls⟩,⟨_,hn',fun j y v' e1 e2 e3=> ?_⟩,fun y c e=> ?_,I.free,I.freeC,fun p hp=> ?_,tracked ⟨oL,hoL,I.free⟩ hs,by simpa using I.len⟩ ⟨_,hs,.inl rfl⟩
  ·exact(hs.2 b (Nat.ne_of_lt (Nat.lt_of_lt_of_le (Heap.lt_size e) I.ok.above))).trans (I.base.keep b o e n hb hx)
  ·obtain⟨sl,e1⟩:=I.base.slot b o e n hb hx
   exact⟨sl,(hs.2 b (Nat.ne_of_lt (Nat.lt_of_lt_of_le (Heap.lt_size e) I.ok.above))).trans e1⟩
  ·obtain⟨o',e1⟩:=I.base.there b o e hx
   exact⟨o',(hs.2 b (Nat.ne_of_lt (Nat.lt_of_lt_of_le (Heap.lt_size e) I.ok.above))).trans e1⟩
  ·by_cases hj:j=i
   ·subst hj
    rw [hi]at e1;cases e1
    rw [List.getElem?_set_self hiσ]at e2
    cases e2
    exact⟨u,r,.inl ⟨hk,by simp⟩⟩
   ·rw [List.getElem?_set_ne (Ne.symm hj)]at e2
    obtain⟨u',r',q⟩:=hl j y v' e1 e2 e3
    refine⟨u',r',?_⟩
    rcases q with⟨k,e⟩| ⟨k,c,e,z⟩
    ·refine .inl ⟨k,?_⟩
     have:y≠x:=fun e=>hj (A0f hN e1 (e▸hi))
     simp [this,e]
    ·exact .inr ⟨k,c,e,z.sameBut hs (cne y c e)⟩
  ·obtain⟨w',z⟩:=I.cell y c e
   exact⟨w',z.sameBut hs (cne y c e)⟩
  ·obtain⟨e,n,ne,nf,d⟩:=I.pin p hp
   exact⟨(hs.2 p.1 ne).trans e,n,ne,nf,d⟩
 ·have hfn:X.fn x=true:=by
   rcases hf with z|z
   ·exact z
   ·rw [z]at hk;cases hk
  obtain⟨c,hc⟩:=I.ok.has x (.inl hk)
  obtain⟨w',z⟩:=I.cell x c hc
  refine wpAny_storeName_cell I.ok.kind hk hc z (fun h' hc' hs=> ?_)
  obtain⟨oc,hoc,hocd⟩:=id z
  refine h {s with heap:=h'} ⟨I.ok,I.os,I.bare,⟨fun b o e n hb hx=> ?_,fun b o e n hb hx=> ?_,I.base.free,fun b o e hx=> ?_,I.base.tups,I.base.frzs,I.base.tbls⟩,⟨m,hn.sameBut hs (Ne.symm (cne x c hc)),fun j y v' e1 e2 e3=> ?_⟩,fun y c' e=> ?_,I.free,I.freeC,fun p hp=> ?_,tracked ⟨oc,hoc,I.freeC x c hc⟩ hs,by simpa using I.len⟩ ⟨c,hs,.inr hc⟩
  ·exact(hs.2 b (Nat.ne_of_lt (Nat.lt_of_lt_of_le (Heap.lt_size e) (I.ok.cab x c hfn hc)))).trans (I.base.keep b o e n hb hx)
  ·obtain⟨sl,e1⟩:=I.base.slot b o e n hb hx
   exact⟨sl,(hs.2 b (Nat.ne_of_lt (Nat.lt_of_lt_of_le (Heap.lt_size e) (I.ok.cab x c hfn hc)))).trans e1⟩
  ·obtain⟨o',e1⟩:=I.base.there b o e hx
   exact⟨o',(hs.2 b (Nat.ne_of_lt (Nat.lt_of_lt_of_le (Heap.lt_size e) (I.ok.cab x c hfn hc)))).trans e1⟩
  ·by_cases hj:j=i
   ·subst hj
    rw [hi]at e1;cases e1
    rw [List.getElem?_set_self hiσ]at e2
    cases e2
    exact⟨u,r,.inr ⟨.inl hk,c,hc,hc'⟩⟩
   ·rw [List.getElem?_set_ne (Ne.symm hj)]at e2
    obtain⟨u',r',q⟩:=hl j y v' e1 e2 e3
    refine⟨u',r',?_⟩
    rcases q with q| ⟨k,c',e,z'⟩
    ·exact .inl q
    ·refine .inr ⟨k,c',e,z'.sameBut hs ?_⟩
     rintro rfl
     exact hj (A0f hN e1 (I.ok.inj _ _ _ e hc▸hi))
  ·by_cases hcc:c'=c
   ·subst hcc;exact⟨_,hc'⟩
   ·obtain⟨w2,z2⟩:=I.cell y c' e
    exact⟨w2,z2.sameBut hs hcc⟩
  ·obtain⟨e,n,ne,nf,d⟩:=I.pin p hp
   refine⟨(hs.2 p.1 ?_).trans e,n,ne,nf,d⟩
   intro q
   rw [q,hoc]at e
   have q':oc=p.2:=Option.some.inj e
   exact d w' (by rw [←q'];exact hocd)
theorem jC {M:Model}{A:Around}{E:Value->Shared->Prop}{i:Nat}{x:Str}{v:V}{u:Value}{Q:Unit->Shared->Prop}(I:Inv X pins σ H s)(hN:X.N.Nodup)(hi:X.N[i]?=some x)(hx:Loc X.env.scope x)(r:RelV v u)
  (h:∀s',Inv X pins (σ.set i (some v)) H s'->Q () s')(hf:X.fn x=true\/X.env.scope.names.lookup x=some .local:=by first|exact .inl rfl|exact .inr rfl|assumption):wpAny M A (storeName X.env x u) Q E s:=
 wO I hN hi hx r (fun s' I' _=>h s' I') hf
theorem Inv.call' {s':Shared}{ch:List Addr}(I:Inv X pins σ H s)(ho:s'.os=s.os)(u:Un (frs X.stack) ch H H' s.heap s'.heap)(hok:HOk X.prog X.w H' s'.heap)(hg:AllBare s'.gens)
  (hch:∀b∈ch,(b∈X.ex\/X.s₀.heap.objs.size<=b)/\b≠X.env.locals/\(∀x c,X.env.cells.lookup x=some c->c≠b)/\∀p∈X.pn++pins,p.1≠b):Inv X pins σ H' s':=by
 obtain⟨h',g',d',t',o'⟩:=s'
 have e:o'=s.os:=ho
 subst e
 exact I.call (g':=g') (t':=t') (d':=d') u hok hg hch
end
abbrev XK:=Value->Option Addr->Hp->Prop
abbrev St:=List (Option V)
abbrev VK:=V->Hp->Prop
abbrev TE:=St->Hp->VK->Prop
abbrev TT:=St->Hp->(Bool->Hp->Prop)->Prop
abbrev TA:=St->Hp->(List V->Hp->Prop)->Prop
structure cQ where
 nx:St->Hp->Prop
 rt:VK
 bk:St->Hp->Prop:=fun _ _=>False
 ct:St->Hp->Prop:=fun _ _=>False
abbrev TS:=cQ->St->Hp->Prop
def EP (X:Cx)(pins:List (Addr×Obj))(σ:St)(Q:VK)(u:Value)(s':Shared):Prop:=∃v H',Inv X pins σ H' s'/\RelV v u/\Q v H'
def TP (X:Cx)(pins:List (Addr×Obj))(σ:St)(Q:Bool->Hp->Prop)(b:Bool)(s':Shared):Prop:=∃H',Inv X pins σ H' s'/\Q b H'
def AP (X:Cx)(pins:List (Addr×Obj))(σ:St)(Q:List V->Hp->Prop)(us:List Value)(s':Shared):Prop:=∃vs H',Inv X pins σ H' s'/\Vals vs us/\Q vs H'
def SP (X:Cx)(pins:List (Addr×Obj))(D:cQ)(f:Flow)(s':Shared):Prop:=
 match f with
 | .next=> ∃σ' H',Inv X pins σ' H' s'/\D.nx σ' H'
 | .brk=> ∃σ' H',Inv X pins σ' H' s'/\D.bk σ' H'
 | .cont=> ∃σ' H',Inv X pins σ' H' s'/\D.ct σ' H'
 | .ret u=> ∃v σ' H',Inv X pins σ' H' s'/\RelV v u/\D.rt v H'
def PE (X:Cx)(e:Expr)(t:TE):Prop:=
 ∀(pins:List (Addr×Obj))(s:Shared)(σ:St)(H:Hp)(Q:VK),Inv X pins σ H s->t σ H Q->wpAny (model X.prog X.w) X.A (eval e X.env) (EP X pins σ Q) X.xe s
def PT (X:Cx)(e:Expr)(t:TT):Prop:=
 ∀(pins:List (Addr×Obj))(s:Shared)(σ:St)(H:Hp)(Q:Bool->Hp->Prop),Inv X pins σ H s->t σ H Q->wpAny (model X.prog X.w) X.A (isTrue e X.env (eval e X.env)) (TP X pins σ Q) X.xe s
def PW (X:Cx)(e:Expr)(t:TT):Prop:=
 ∀(whole:Sem Value)(pins:List (Addr×Obj))(s:Shared)(σ:St)(H:Hp)(Q:Bool->Hp->Prop),Inv X pins σ H s->t σ H Q->wpAny (model X.prog X.w) X.A (isTrue e X.env whole) (TP X pins σ Q) X.xe s
theorem PW.pt {X:Cx}{e:Expr}{t:TT}(h:PW X e t):PT X e t:=h _
def PA (X:Cx)(es:List Expr)(t:TA):Prop:=
 ∀(pos:Pos)(pins:List (Addr×Obj))(s:Shared)(σ:St)(H:Hp)(Q:List V->Hp->Prop),Inv X pins σ H s->t σ H Q->wpAny (model X.prog X.w) X.A (spliced (backTo pos (starEach es X.env))) (AP X pins σ Q) X.xe s
def PS (X:Cx)(st:Stmt)(t:TS):Prop:=
 ∀(pins:List (Addr×Obj))(s:Shared)(σ:St)(H:Hp)(D:cQ),Inv X pins σ H s->t D σ H->wpAny (model X.prog X.w) X.A (exec st X.env) (SP X pins D) X.xe s
def PSs (X:Cx)(st:List Stmt)(t:TS):Prop:=
 ∀(pins:List (Addr×Obj))(s:Shared)(σ:St)(H:Hp)(D:cQ),Inv X pins σ H s->t D σ H->wpAny (model X.prog X.w) X.A (execs st X.env) (SP X pins D) X.xe s
theorem thn {α:Type}{t:Sem α}{Q Q':α->Shared->Prop}{M:Model}{A:Around}{E:Value->Shared->Prop}{s:Shared}(h:wpAny M A t Q E s)(hQ:∀a s,Q a s->Q' a s):wpAny M A t Q' E s:=wpAny_mono h hQ fun _ _ x=>x
section
variable {X:Cx}
def fD (i:Nat):TE:=fun σ H Q=> ∃v,σ[i]?=some (some v)/\Q v H
def tC (v:V):TE:=fun _ H Q=>Q v H
theorem A18 {i:Nat}{x:Str}{pos:Pos}(hN:X.N[i]?=some x)(hv:Vis X.env.scope x)(hd:(x==("__debug__":Str))=false:=by decide)(hcd:(x==("__classdict__":Str))=false:=by decide):PE X (.Name x pos) (fD i):=by
 intro pins s σ H Q I h
 obtain⟨v,e,h⟩:=h
 obtain⟨m,hn,hl⟩:=I.loc
 obtain⟨u,r,l⟩:=hl i x v hN e hv
 have fin:EP X pins σ Q u s:=⟨v,H,I,r,h⟩
 rcases l with⟨hk,hm⟩| ⟨hk,c,hc,hcell⟩
 ·exact wpAny_Name (wpAny_loadName_local I.ok.kind hk hn hm fin) hd
 ·rcases hk with hk|hk
  ·exact wpAny_Name (wpAny_loadName_cell I.ok.kind hk hc hcell fin) hd
  ·exact wpAny_Name (wpAny_loadName_free I.ok.kind hk hc hcell fin hcd) hd
theorem aL {i j pos}:PE X (.Constant (.int i) j pos) (tC (.int i)):=fun _ _ _ H _ I h=>wpAny_Constant_int ⟨.int i,H,I.tok _,⟨_,rfl⟩,h⟩
theorem eZ {b j pos}:PE X (.Constant (.bool b) j pos) (tC (.bl b)):=fun _ _ _ H _ I h=>Constant_bool ⟨.bl b,H,I,rfl,h⟩
theorem mY {j pos}:PE X (.Constant .none j pos) (tC .non):=fun _ _ _ H _ I h=>Constant_none ⟨.non,H,I,rfl,h⟩
theorem cX {x j pos}:PE X (.Constant (.str x) j pos) (tC (.str x)):=fun _ _ _ H _ I h=>Calls.Constant_str ⟨.str x,H,I.tok _,⟨_,rfl⟩,h⟩
def Gl (X:Cx)(x:Str):Prop:=X.env.kindOf x=some .globalImplicit
theorem jV {E:Value->Shared->Prop}{pins:List (Addr×Obj)}{s:Shared}{σ:St}{H:Hp}{x:Str}{u:Value}{pos:Pos}{Q:Value->Shared->Prop}(I:Inv X pins σ H s)(hg:Gl X x)(hm:X.mg x=some u)(h:Q u s)
  (hd:(x==("__debug__":Str))=false:=by decide):wpAny (model X.prog X.w) X.A (eval (.Name x pos) X.env) Q E s:=
 Calls.Name_function_global I.ok.kind hg (Calls.loadGlobal_global (by rw [I.ok.glob];exact I.mod.glob.keeps I.bk) hm h) hd
theorem lC {E:Value->Shared->Prop}{pins:List (Addr×Obj)}{s:Shared}{σ:St}{H:Hp}{x:Str}{u:Value}{pos:Pos}{Q:Value->Shared->Prop}(I:Inv X pins σ H s)(hg:Gl X x)(hm:X.mg x=none)(hv:bootBuiltins x=some u)(h:Q u s)
  (hn:x≠ "__name__":=by decide)(hd:(x==("__debug__":Str))=false:=by decide):wpAny (model X.prog X.w) X.A (eval (.Name x pos) X.env) Q E s:=by
 obtain⟨mb,h1,h2⟩:=I.mod.blt
 exact Calls.Name_function_global I.ok.kind hg (Calls.loadGlobal_builtin (by rw [I.ok.glob];exact I.mod.glob.keeps I.bk) hm (by rw [I.ok.blt];exact h1.keeps I.bk) ((h2 x hn).trans hv) h) hd
theorem bZ {x:Str}{v:V}{u:Value}{pos:Pos}(hg:Gl X x)(hm:X.mg x=some u)(r:RelV v u)(hd:(x==("__debug__":Str))=false:=by decide):PE X (.Name x pos) (tC v):=
 fun _ _ _ H _ I h=>jV I hg hm ⟨v,H,I,r,h⟩ hd
theorem iP {x:Str}{v:V}{u:Value}{pos:Pos}(hg:Gl X x)(hm:X.mg x=none)(hv:bootBuiltins x=some u)(r:RelV v u)(hn:x≠ "__name__":=by decide)(hd:(x==("__debug__":Str))=false:=by decide):PE X (.Name x pos) (tC v):=
 fun _ _ _ H _ I h=>lC I hg hm hv ⟨v,H,I,r,h⟩ hn hd
variable {a b:Expr}{ta tb:TE}{pos:Pos}
def tB (t:TE):TT:=fun σ H Q=>t σ H fun x H1=> ∃c,x= .bl c/\Q c H1
theorem cU {e:Expr}{t:TE}(h:PE X e t)(he:∀whole,isTrue e X.env whole=(do let v←whole;standAt e.pos;holding [v] (truthy v)):=by intro _;rfl):PT X e (tB t):=by
 intro pins s σ H Q I hw
 refine isTrue_plain (thn (h pins s σ H _ I hw) fun v s1 ⟨x,H1,I1,r1,q1⟩=> ?_) (he _)
 obtain⟨d,rfl,q⟩:=q1
 cases r1
 exact wpAny_truthy_bool ⟨H1,I1,q⟩
variable {tA tB':TT}{rest:List Expr}
def A9w (t u:TT):TT:=fun σ H Q=>t σ H fun c H1=>if c=true then u σ H1 Q else Q false H1
def tOr (t u:TT):TT:=fun σ H Q=>t σ H fun c H1=>if c=true then Q true H1 else u σ H1 Q
def A15 (t:TT):TT:=fun σ H Q=>t σ H fun c H1=>Q (!c) H1
theorem kG (ha:PT X a tA):PW X (.BoolOp .And [a] pos) tA:=by
 intro wh pins s σ H Q I h
 refine isTrue_and (thn (ha pins s σ H Q I h) fun c s1 e=> ?_)
 cases c with
 |true=>exact isTrue_and_nil e
 |false=>exact e
theorem iM (ha:PT X a tA):PW X (.BoolOp .Or [a] pos) tA:=by
 intro wh pins s σ H Q I h
 refine isTrue_or (thn (ha pins s σ H Q I h) fun c s1 e=> ?_)
 cases c with
 |false=>exact isTrue_or_nil e
 |true=>exact e
theorem jA (ha:PT X a tA)(hb:PW X (.BoolOp .And (b::rest) pos) tB'):PW X (.BoolOp .And (a::b::rest) pos) (A9w tA tB'):=by
 intro wh pins s σ H Q I h
 refine isTrue_and (thn (ha pins s σ H _ I h) fun c s1 ⟨H1,I1,q1⟩=> ?_)
 cases c with
 |true=>exact hb wh pins s1 σ H1 Q I1 q1
 |false=>exact⟨H1,I1,q1⟩
theorem gL (ha:PT X a tA)(hb:PW X (.BoolOp .Or (b::rest) pos) tB'):PW X (.BoolOp .Or (a::b::rest) pos) (tOr tA tB'):=by
 intro wh pins s σ H Q I h
 refine isTrue_or (thn (ha pins s σ H _ I h) fun c s1 ⟨H1,I1,q1⟩=> ?_)
 cases c with
 |true=>exact⟨H1,I1,q1⟩
 |false=>exact hb wh pins s1 σ H1 Q I1 q1
theorem cY (ha:PT X a tA):PT X (.UnaryOp .Not a pos) (A15 tA):=by
 intro pins s σ H Q I h
 exact isTrue_not (ha pins s σ H (fun c H1=>Q (!c) H1) I h)
def A2z (ta tb:TE):TE:=fun σ H Q=>ta σ H fun x H1=> ∃c,x= .bl c/\if c=true then tb σ H1 Q else Q (.bl false) H1
def B1e (ta:TE):TE:=fun σ H Q=>ta σ H fun x H1=> ∃c,x= .bl c/\Q (.bl (!c)) H1
theorem lF {op}{t:TE}(h:PE X a t):PE X (.BoolOp op [a] pos) t:=fun pins s σ H Q I hw=>BoolOp_one (h pins s σ H Q I hw)
theorem kA (ha:PE X a ta)(hb:PE X (.BoolOp .And (b::rest) pos) tb):PE X (.BoolOp .And (a::b::rest) pos) (A2z ta tb):=by
 intro pins s σ H Q I h
 refine BoolOp_and (thn (ha pins s σ H _ I h) fun v s1 ⟨x,H1,I1,r1,q1⟩=> ?_)
 obtain⟨c,rfl,q1⟩:=q1
 cases r1
 refine wpAny_truthy_bool ?_
 cases c with
 |true=>exact hb pins s1 σ H1 Q I1 q1
 |false=>exact⟨.bl false,H1,I1,rfl,q1⟩
theorem A2h (ha:PE X a ta):PE X (.UnaryOp .Not a pos) (B1e ta):=by
 intro pins s σ H Q I h
 refine UnaryOp_ (thn (ha pins s σ H _ I h) fun v s1 ⟨x,H1,I1,r1,q1⟩=> ?_)
 obtain⟨c,rfl,q1⟩:=q1
 cases r1
 exact not_of (wpAny_truthy_bool ⟨.bl (!c),H1,I1,rfl,q1⟩)
def tIf (t:TT)(ta tb:TE):TE:=fun σ H Q=>t σ H fun c H1=>if c=true then ta σ H1 Q else tb σ H1 Q
theorem vJ {c:Expr}(hc:PT X c tA)(ha:PE X a ta)(hb:PE X b tb):PE X (.IfExp c a b pos) (tIf tA ta tb):=by
 intro pins s σ H Q I h
 refine wpAny_IfExp (thn (hc pins s σ H _ I h) fun d s1 ⟨H1,I1,q1⟩=> ?_)
 cases d with
 |true=>exact ha pins s1 σ H1 Q I1 q1
 |false=>exact hb pins s1 σ H1 Q I1 q1
end
def SqL (K:W.Frag)(H:Hp)(a:Addr)(xs:List V):Prop:=
 Rd H a (.lst xs)\/
  ∃(o:Obj)(its:Array Value)(n:Nat),K.lookup a=some o/\o.cls= .type "list"/\o.dict=none/\o.data= .seq its n/\its.size<=sizeLine/\Vals xs its.toList
def SqT (K:W.Frag)(H:Hp)(a:Addr)(xs:List V):Prop:=
 Rd H a (.tup xs)\/
  ∃(o:Obj)(its:Array Value)(n:Nat),K.lookup a=some o/\o.cls= .type "tuple"/\o.data= .seq its n/\its.size<=sizeLine/\Vals xs its.toList
def A74:Value->Option V
 | .none=>some .non
 | .bool b=>some (.bl b)
 | .int i _=>some (.int i)
 | .str x _=>some (.str x)
 | .bytes b _=>some (.byt b)
 | .float b _=>some (.flt b)
 | .ref a=>some (.ref a)
 | .type n=>some (.ty n)
 |_=>none
theorem RelV.abs {x:V}{u:Value}(r:RelV x u):A74 u=some x:=by
 cases x with
 |non=>cases r;rfl
 |bl _=>cases r;rfl
 |int _=>obtain⟨t,rfl⟩:=r;rfl
 |str _=>obtain⟨t,rfl⟩:=r;rfl
 |byt _=>obtain⟨t,rfl⟩:=r;rfl
 |flt _=>obtain⟨t,rfl⟩:=r;rfl
 |ref _=>cases r;rfl
 |ty _=>cases r;rfl
theorem RelV.inj {x y:V}{u:Value}(r:RelV x u)(q:RelV y u):x=y:=Option.some.inj (r.abs.symm.trans q.abs)
theorem Vals.inj:∀{xs ys:List V}{us:List Value},Vals xs us->Vals ys us->xs=ys
 |_,_,_,.nil,.nil=>rfl
 |_,_,_,.cons r t,.cons r' t'=>by rw [r.inj r',Vals.inj t t']
section
variable {X:Cx}{pins:List (Addr×Obj)}{σ:St}{H:Hp}{s:Shared}{a:Addr}{xs ys:List V}
theorem SqL.of {K:W.Frag}(h:H a=some (.lst xs)):SqL K H a xs:=.inl (.inl h)
theorem SqT.of {K:W.Frag}(h:H a=some (.tup xs)):SqT K H a xs:=.inl (.inl h)
theorem Inv.list (I:Inv X pins σ H s)(h:SqL X.K H a xs):∃its:List Value,Vals xs its/\PlainL s.heap a its.toArray/\xs.length<=sizeLine:=by
 rcases h with h| ⟨o,its,n,hk,hc,hd,hs,hz,r⟩
 ·obtain⟨z,its,n,r,e⟩:=h.ok I.hok
  exact⟨its,r,⟨_,n,e,rfl,rfl,rfl⟩,z⟩
 ·refine⟨its.toList,r,⟨o,n,I.kIn a o hk,hc,hd,by simpa using hs⟩,?_⟩
  have e:=r.length
  simp only [Array.length_toList]at e
  omega
theorem Inv.tuple (I:Inv X pins σ H s)(h:SqT X.K H a xs):∃its:List Value,Vals xs its/\IsTup s.heap a its.toArray/\xs.length<=sizeLine:=by
 rcases h with h| ⟨o,its,n,hk,hc,hs,hz,r⟩
 ·obtain⟨z,its,r,p⟩:=h.ok I.hok
  exact⟨its,r,p,z⟩
 ·refine⟨its.toList,r,⟨o,I.kIn a o hk,hc,n,by simpa using hs⟩,?_⟩
  have e:=r.length
  simp only [Array.length_toList]at e
  omega
theorem Inv.list_inj (I:Inv X pins σ H s)(h:SqL X.K H a xs)(h':SqL X.K H a ys):xs=ys:=by
 obtain⟨its,r,⟨o,n,e,_,_,d⟩,_⟩:=I.list h
 obtain⟨its',r',⟨o',n',e',_,_,d'⟩,_⟩:=I.list h'
 rw [e]at e';cases e'
 rw [d]at d'
 injection d' with d1 _
 have:its=its':=by simpa using congrArg Array.toList d1
 subst this
 exact r.inj r'
theorem Inv.tuple_inj (I:Inv X pins σ H s)(h:SqT X.K H a xs)(h':SqT X.K H a ys):xs=ys:=by
 obtain⟨its,r,⟨o,e,_,n,d⟩,_⟩:=I.tuple h
 obtain⟨its',r',⟨o',e',_,n',d'⟩,_⟩:=I.tuple h'
 rw [e]at e';cases e'
 rw [d]at d'
 injection d' with d1 _
 have:its=its':=by simpa using congrArg Array.toList d1
 subst this
 exact r.inj r'
end
abbrev Cx.wish (X:Cx)(E:Value->Shared->Prop):Cx:={X with xe:=E}
abbrev Cx.nox (X:Cx):Cx:=X.wish fun _ _=>False
theorem Cx.Ok.wish {X:Cx}(ok:X.Ok)(E:Value->Shared->Prop):(X.wish E).Ok:=
 ⟨ok.mod,ok.kind,ok.glob,ok.blt,ok.above,ok.inj,ok.has,ok.cab,ok.hd,ok.frames,ok.stk,ok.exf,ok.bs,ok.bsz,ok.noex,ok.exfs,ok.funs,ok.frf⟩
theorem Cx.Ok.unwish {X:Cx}{E:Value->Shared->Prop}(ok:(X.wish E).Ok):X.Ok:=
 ⟨ok.mod,ok.kind,ok.glob,ok.blt,ok.above,ok.inj,ok.has,ok.cab,ok.hd,ok.frames,ok.stk,ok.exf,ok.bs,ok.bsz,ok.noex,ok.exfs,ok.funs,ok.frf⟩
section
variable {X:Cx}{pins:List (Addr×Obj)}{σ:St}{H:Hp}{s:Shared}{E:Value->Shared->Prop}
theorem Inv.wish (I:Inv X pins σ H s)(E:Value->Shared->Prop):Inv (X.wish E) pins σ H s:=⟨I.ok.wish E,I.os,I.bare,I.base,I.loc,I.cell,I.free,I.freeC,I.pin,I.hok,I.len⟩
theorem Inv.unwish (I:Inv (X.wish E) pins σ H s):Inv X pins σ H s:=⟨I.ok.unwish,I.os,I.bare,I.base,I.loc,I.cell,I.free,I.freeC,I.pin,I.hok,I.len⟩
theorem SP.unwish {D:cQ}{f:Flow}{s':Shared}(h:SP (X.wish E) pins D f s'):SP X pins D f s':=by
 cases f with
 |next=>obtain⟨σ',H',I,q⟩:=h;exact⟨σ',H',I.unwish,q⟩
 |brk=>obtain⟨σ',H',I,q⟩:=h;exact⟨σ',H',I.unwish,q⟩
 |cont=>obtain⟨σ',H',I,q⟩:=h;exact⟨σ',H',I.unwish,q⟩
 |ret u=>obtain⟨v,σ',H',I,r,q⟩:=h;exact⟨v,σ',H',I.unwish,r,q⟩
theorem PSs.nox {st:List Stmt}{t:TS}(h:PSs X.nox st t):PSs X st t:=fun pins s σ H D I hw=>
 wpAny_mono (h pins s σ H D (I.wish _) hw) (fun _ _ q=>q.unwish) fun _ _ z=>False.elim z
end
section
variable {X:Cx}{st:Stmt}{rest:List Stmt}{t u:TS}{e:Expr}{te:TE}{pos:Pos}
def A3u:TS:=fun D σ H=>D.nx σ H
def yJ (t u:TS):TS:=fun D σ H=>t {D with nx:=u D} σ H
theorem bT:PSs X [] A3u:=fun _ _ σ H _ I h=>wpAny_execs_nil ⟨σ,H,I,h⟩
theorem aW (h1:PS X st t)(h2:PSs X rest u):PSs X (st::rest) (yJ t u):=by
 intro pins s σ H D I h
 refine wpAny_execs_cons (thn (h1 pins s σ H {D with nx:=u D} I h) fun f s1 q=> ?_)
 cases f with
 |next=>
  obtain⟨σ',H',I',q⟩:=q
  exact h2 pins s1 σ' H' D I' q
 |ret v=>exact q
 |brk=>exact q
 |cont=>exact q
theorem aV (h1:PS X st t):PSs X [st] t:=by
 intro pins s σ H D I h
 refine wpAny_execs_cons (thn (h1 pins s σ H D I h) fun f s1 q=> ?_)
 cases f with
 |next=>exact wpAny_execs_nil q
 |ret v=>exact q
 |brk=>exact q
 |cont=>exact q
theorem Inv.quiet {pins:List (Addr×Obj)}{σ:St}{H:Hp}{s:Shared}(I:Inv X pins σ H s):interactive X.env=false:=by simp [interactive,I.ok.kind]
def A86 (te:TE):TS:=fun D σ H=>te σ H fun _ H1=>D.nx σ H1
theorem fN (he:PE X e te)(hs:swapsWith e none pos.line X.env=pure false:=by rfl):PS X (.Expr e pos) (A86 te):=by
 intro pins s σ H D I h
 exact wpAny_Expr_any (thn (he pins s σ H _ I h) fun v s1 ⟨x,H1,I1,r1,q1⟩=> ⟨σ,H1,I1,q1⟩) I.quiet hs
def A8c (te:TE):TS:=fun D σ H=>te σ H D.rt
theorem aZ (he:PE X e te):PS X (.Return (some e) pos) (A8c te):=by
 intro pins s σ H D I h
 exact wpAny_Return_some (thn (he pins s σ H _ I h) fun v s1 ⟨x,H1,I1,r1,q1⟩=> ⟨x,σ,H1,I1,r1,q1⟩)
def wX (c:TT)(t u:TS):TS:=fun D σ H=>c σ H fun b H1=>if b=true then t D σ H1 else u D σ H1
theorem bU {c:Expr}{a b:List Stmt}{tc:TT}(hc:PT X c tc)(ha:PSs X a t)(hb:PSs X b u):PS X (.If c a b pos) (wX tc t u):=by
 intro pins s σ H D I h
 refine wpAny_If (thn (hc pins s σ H _ I h) fun d s1 ⟨H1,I1,q1⟩=> ?_)
 cases d with
 |true=>exact ha pins s1 σ H1 D I1 q1
 |false=>exact hb pins s1 σ H1 D I1 q1
end
abbrev TG:=V->St->Hp->(St->Hp->Prop)->Prop
abbrev TGs:=List V->St->Hp->(St->Hp->Prop)->Prop
def PG (X:Cx)(target:Expr)(t:TG):Prop:=
 ∀(pins:List (Addr×Obj))(s:Shared)(σ:St)(H:Hp)(v:V)(u:Value)(Q:St->Hp->Prop),Inv X pins σ H s->RelV v u->t v σ H Q->
  wpAny (model X.prog X.w) X.A (assign target X.env u) (fun _ s'=> ∃σ' H',Inv X pins σ' H' s'/\Q σ' H') X.xe s
def PGs (X:Cx)(ts:List Expr)(t:TGs):Prop:=
 ∀(pins:List (Addr×Obj))(s:Shared)(σ:St)(H:Hp)(vs:List V)(us:List Value)(Q:St->Hp->Prop),Inv X pins σ H s->Vals vs us->t vs σ H Q->
  wpAny (model X.prog X.w) X.A (assignInOrder ((assignEach ts X.env).map (·.2)) us) (fun _ s'=> ∃σ' H',Inv X pins σ' H' s'/\Q σ' H') X.xe s
abbrev vE:=V->V->V->Hp->(Hp->Prop)->Prop
def A11 (X:Cx)(t:vE):Prop:=
 ∀(pins:List (Addr×Obj))(s:Shared)(σ:St)(H:Hp)(o i v:V)(ov iv u:Value)(Q:Hp->Prop),Inv X pins σ H s->RelV o ov->RelV i iv->RelV v u->t o i v H Q->
  wpAny (model X.prog X.w) X.A (setItem ov iv u) (fun _ s'=> ∃H',Inv X pins σ H' s'/\Q H') X.xe s
section
variable {X:Cx}{pos:Pos}
def dJ (i:Nat):TG:=fun v σ H Q=>Q (σ.set i (some v)) H
theorem bL {i:Nat}{x:Str}(hN:X.N.Nodup)(hi:X.N[i]?=some x)(hx:Loc X.env.scope x)(hf:X.fn x=true\/X.env.scope.names.lookup x=some .local:=by first|exact .inl rfl|exact .inr rfl|assumption):PG X (.Name x pos) (dJ i):=by
 intro pins s σ H v u Q I r h
 exact wpAny_assign_Name (jC I hN hi hx r (fun s' I'=> ⟨_,H,I',h⟩) hf)
def pA:TGs:=fun vs σ H Q=>vs=[]/\Q σ H
def iJ (t:TG)(u:TGs):TGs:=fun vs σ H Q=> ∃v r,vs=v::r/\t v σ H fun σ' H'=>u r σ' H' Q
theorem gJ:PGs X [] pA:=by
 intro pins s σ H vs us Q I r h
 obtain⟨e,h⟩:=h
 subst e
 cases r
 exact assignInOrder_nil ⟨σ,H,I,h⟩
theorem cK {e:Expr}{es:List Expr}{t:TG}{u:TGs}(h1:PG X e t)(h2:PGs X es u)
  (hs:(assignEach (e::es) X.env).map (·.2)=assign e X.env::(assignEach es X.env).map (·.2):=by rfl):PGs X (e::es) (iJ t u):=by
 intro pins s σ H vs us Q I r h
 obtain⟨v,vr,e1,h⟩:=h
 subst e1
 cases r with
 |cons r rr=>
  rw [hs]
  refine assignInOrder_cons (thn (h1 pins s σ H _ _ _ I r h) fun _ s1 ⟨σ1,H1,I1,q1⟩=> ?_)
  exact h2 pins s1 σ1 H1 _ _ Q I1 rr q1
def rV (K:W.Frag)(n:Nat)(t:TGs):TG:=fun v σ H Q=> ∃a xs,v= .ref a/\SqT K H a xs/\xs.length=n/\t xs σ H Q
theorem gX {es:List Expr}{k:Nat}{t:TGs}{n:Nat}(hc:X.calm=true)(h:PGs X es t)
  (hn:(assignEach es X.env).length=n:=by rfl)(hst:(assignEach es X.env).findIdx? (·.1)=none:=by rfl):PG X (.Tuple es k pos) (rV X.K n t):=by
 intro pins s σ H v u Q I r hw
 obtain⟨a,xs,e1,hq,hl,hw⟩:=hw
 subst e1
 cases r
 obtain⟨its,rv,ht,hz⟩:=I.tuple hq
 refine assign_Tuple_tuple (I.ok.hd hc) ht (by simp [hn,←hl,rv.length]) hst fun h' hx=> ?_
 have I1:Inv X pins σ H {s with heap:=h'}:=I.kept (t':=s.toks) fun b o e=>hx b o (Nat.ne_of_lt (Heap.lt_size e)) e
 exact h pins _ σ H xs _ Q I1 (by simpa using rv) hw
def A3l (to ti:TE)(t:vE):TG:=fun v σ H Q=>to σ H fun o H1=>ti σ H1 fun i H2=>t o i v H2 fun H3=>Q σ H3
theorem rB {o i:Expr}{to ti:TE}{t:vE}(ho:PE X o to)(hi:PE X i ti)(hs:A11 X t)
  (ha:∀v,assign (.Subscript o i pos) X.env v=(do
   let ov←holding [v] (eval o X.env)
   let iv←holding [v,ov] (eval i X.env)
   standAt pos
   holding [v,ov,iv] (setItem ov iv v)
   release [v,ov,iv] []):=by intro _;rfl):PG X (.Subscript o i pos) (A3l to ti t):=by
 intro pins s σ H v u Q I r h
 rw [ha]
 refine wpAny_bind (wpAny_holding (thn (ho pins s σ H _ I h) fun ov s1 ⟨x,H1,I1,r1,q1⟩=> ?_))
 refine wpAny_bind (wpAny_holding (thn (hi pins s1 σ H1 _ I1 q1) fun iv s2 ⟨y,H2,I2,r2,q2⟩=> ?_))
 refine wpAny_bind (wpAny_standAt (wpAny_bind (wpAny_holding (thn (hs pins s2 σ H2 x y v ov iv u _ I2 r1 r2 r q2) fun _ s3 ⟨H3,I3,q3⟩=> ?_))))
 exact wpAny_release ⟨σ,H3,I3,q3⟩
def qD (te:TE)(g:TG):TS:=fun D σ H=>te σ H fun x H1=>g x σ H1 D.nx
theorem pM {tg e:Expr}{te:TE}{g:TG}(he:PE X e te)(hg:PG X tg g)(hs:swapsWithSole [tg] e pos.line X.env=pure false:=by rfl)(hw:swappedStores [tg] e X.env=pure none:=by rfl)
  (h1:(assignEach [tg] X.env).map (·.2)=[assign tg X.env]:=by rfl):PS X (.Assign [tg] e pos) (qD te g):=by
 intro pins s σ H D I h
 refine wpAny_Assign_stores (thn (he pins s σ H _ I h) fun v s1 ⟨x,H1,I1,r1,q1⟩=> ?_) hs hw
 rw [h1]
 exact thn (hg pins s1 σ H1 x v _ I1 r1 q1) fun _ s2 q=>q
theorem dR {i:Nat}{x:Str}{e:Expr}{te:TE}{pos':Pos}(hN:X.N.Nodup)(hi:X.N[i]?=some x)(hx:Loc X.env.scope x)(he:PE X e te)(hs:swapsWith e (some (.Name x pos')) pos.line X.env=pure false:=by rfl)(hf:X.fn x=true\/X.env.scope.names.lookup x=some .local:=by first|exact .inl rfl|exact .inr rfl|assumption):
  PS X (.Assign [.Name x pos'] e pos) (qD te (dJ i)):=by
 intro pins s σ H D I h
 refine wpAny_Assign_Name (thn (he pins s σ H _ I h) fun v s1 ⟨y,H1,I1,r1,q1⟩=> ?_) hs
 exact jC I1 hN hi hx r1 (fun s2 I2=> ⟨_,H1,I2,q1⟩) hf
def A2n (i j:Nat)(ta:TA):TS:=fun D σ H=>ta σ H fun vs H1=> ∃v w,vs=[v,w]/\D.nx ((σ.set i (some v)).set j (some w)) H1
theorem oF {i j:Nat}{x y:Str}{a b:Expr}{ta:TA}{px py pt:Pos}{kt k2 pt2}(hc:X.calm=true)(hN:X.N.Nodup)(hi:X.N[i]?=some x)(hj:X.N[j]?=some y)(hij:i≠j)
  (hx:X.env.scope.names.lookup x=some .local)(hy:X.env.scope.names.lookup y=some .local)(ha:PA X [a,b] ta)
  (hw:swappedStores [.Tuple [.Name x px,.Name y py] kt pt] (.Tuple [a,b] k2 pt2) X.env=pure (some [x,y]))
  (hs:swapsWithSole [.Tuple [.Name x px,.Name y py] kt pt] (.Tuple [a,b] k2 pt2) pos.line X.env=pure false:=by rfl):
  PS X (.Assign [.Tuple [.Name x px,.Name y py] kt pt] (.Tuple [a,b] k2 pt2) pos) (A2n i j ta):=by
 intro pins s σ H D I h
 rw [exec_Assign_arm]
 refine wpAny_bind (wpAny_standAt ?_)
 rw [hs]
 refine wpAny_bind (wpAny_pure ?_)
 rw [if_neg (by decide)]
 refine wpAny_bind (Tuple_ (thn (ha _ pins s σ H _ I h) fun us s1 ⟨vs,H1,I1,r1,q1⟩=> ?_))
 obtain⟨v,w,e1,q1⟩:=q1
 subst e1
 obtain⟨u1,u2,rfl,rv,rw'⟩:∃u1 u2,us=[u1,u2]/\RelV v u1/\RelV w u2:=by
  cases r1 with
  |cons p q=>
   cases q with
   |cons p' q'=>
    cases q'
    exact⟨_,_,rfl,p,p'⟩
 refine wpAny_newObj_type ?_ (by show 2<=sizeLine;decide)
 have I2:Inv X pins σ H1 {s1 with heap:=s1.heap.push {cls:=.type "tuple",data:=.seq [u1,u2].toArray}}:=I1.kept (t':=s1.toks) fun b o e=>Heap.get?_push_of_some _ e
 rw [hw]
 refine wpAny_bind (wpAny_pure ?_)
 show wpAny (model X.prog X.w) X.A (do rule "assign.swapped-stores";let items←unpackItems (.ref s1.heap.objs.size) 2 none;assignInOrder [fun v=>bindName X.env y v,fun v=>bindName X.env x v] items.reverse;pure Flow.next) _ _ _
 refine wpAny_bind (wpAny_rule (wpAny_bind (unpackItems_tuple (items:=#[u1,u2]) (I.ok.hd hc) (IsTup.new s1.heap _) fun h' hx'=> ?_)))
 have I3:=I2.kept (h':=h') (t':=s1.toks) fun b o e=>hx' b o (Nat.ne_of_lt (Heap.lt_size e)) e
 show wpAny _ _ (assignInOrder [fun v=>bindName X.env y v,fun v=>bindName X.env x v] [u2,u1]>>=fun _=>pure Flow.next) _ _ _
 refine wpAny_bind (assignInOrder_cons (wpAny_bindName (jC I3 hN hj (.inl hy) rw' (fun s2 I4=> ?_) (.inr hy))))
 refine assignInOrder_cons (wpAny_bindName (jC I4 hN hi (.inl hx) rv (fun s3 I5=>assignInOrder_nil (wpAny_pure ?_)) (.inr hx)))
 rw [List.set_comm _ _ (Ne.symm hij)]at I5
 exact⟨_,H1,I5,q1⟩
end
section
variable {X:Cx}{pos:Pos}
def A1m (c:TT)(tb:TS):TS:=fun D σ H=> ∃W:Nat->St->Hp->Prop,(∃m,W m σ H)/\∀m σ H,W m σ H->
 c σ H fun b H1=>if b=true then∃N:St->Hp->Prop,(∀σ' H',N σ' H'->∃m',m'<m/\W m' σ' H')/\tb {D with nx:=N,ct:=N,bk:=D.nx} σ H1 else D.nx σ H1
theorem A9z {c:Expr}{body:List Stmt}{tc:TT}{tb:TS}(hp:PassesOwn (model X.prog X.w) X.A X.env X.xe)(hc:PT X c tc)(hb:PSs X body tb):PS X (.While c body [] pos) (A1m tc tb):=by
 intro pins s σ H D I h
 obtain⟨W,⟨m0,w0⟩,turn⟩:=h
 refine wpAny_While (codeAny_whileLoop (fun n s'=> ∃σ' H',Inv X pins σ' H' s'/\W n σ' H') ?_ m0 ⟨σ,H,I,w0⟩)
 rintro n s1 ⟨σ1,H1,I1,w1⟩
 refine wpAny_passesOwn hp (thn (hc pins s1 σ1 H1 _ I1 (turn n σ1 H1 w1)) fun b s2 ⟨H2,I2,q2⟩=> ?_)
 cases b with
 |true=>
  obtain⟨N,hN,q2⟩:=q2
  rw [if_pos rfl]
  refine wpAny_passesOwn hp (thn (hb pins s2 σ1 H2 _ I2 q2) fun f s3 q3=> ?_)
  cases f with
  |next=>
   obtain⟨σ3,H3,I3,n3⟩:=q3
   obtain⟨m',hm,w3⟩:=hN σ3 H3 n3
   exact⟨m',hm,σ3,H3,I3,w3⟩
  |cont=>
   obtain⟨σ3,H3,I3,n3⟩:=q3
   obtain⟨m',hm,w3⟩:=hN σ3 H3 n3
   exact⟨m',hm,σ3,H3,I3,w3⟩
  |brk=>exact q3
  |ret v=>exact q3
 |false=>
  rw [if_neg Bool.false_ne_true]
  exact wpAny_execs_nil ⟨σ1,H2,I2,q2⟩
end
structure It where
 go:Nat->Hp->Prop
 yld:Nat->Hp->V->Hp->Prop
 stop:Nat->Hp->Prop
def fP (X:Cx)(pins:List (Addr×Obj))(H:Hp)(b:Addr):Prop:=
 H b=none/\b≠X.env.locals/\b∉X.fs/\(b∈X.ex\/X.s₀.heap.objs.size<=b)/\(∀x c,X.env.cells.lookup x=some c->c≠b)/\∀p∈X.pn++pins,p.1≠b
theorem Inv.fpOk {X:Cx}{pins:List (Addr×Obj)}{σ:St}{H H':Hp}{s:Shared}{b:Addr}(I:Inv X pins σ H s)(hb:s.heap.objs.size<=b)(hn:H' b=none):fP X pins H' b:=by
 refine⟨hn,Nat.ne_of_gt (Nat.lt_of_lt_of_le I.lt hb),I.nofs hb,.inr (Nat.le_trans I.sz hb),fun x c e z=> ?_,fun p hp z=> ?_⟩
 ·obtain⟨v,q⟩:=I.cell x c e
  exact absurd (Nat.lt_of_lt_of_le q.lt (by rw [z];exact hb)) (Nat.lt_irrefl _)
 ·exact absurd (Nat.lt_of_lt_of_le (Heap.lt_size (I.pin p hp).1) (by rw [z];exact hb)) (Nat.lt_irrefl _)
structure iH (P:Program)(w:World)(K:W.Frag)(tg:Expr)(J:It)(fp:List Addr)(it:Addr)(tn:Nat->Heap->Prop):Prop where
 mem:it∈fp
 obj:∀i h,tn i h->∀b∈fp,∃o,h.get? b=some o/\∀v,o.data≠ .cell v
 keep:∀i h h',tn i h->(∀b∈fp,∀o,h.get? b=some o->h'.get? b=some o)->tn i h'
 item:∀(X:Cx),X.prog=P->X.w=w->X.K=K->X.calm=true->∀(i:Nat)(pins:List (Addr×Obj))(s:Shared)(σ:St)(H:Hp)(E:Value->Shared->Prop),Inv X pins σ H s->(∀b∈fp,fP X pins H b)->tn i s.heap->J.go i H->
  wpAny (model P w) X.A (pyNext (.ref it)) (fun r s1=> ∃u,r=some u/\
   wpAny (model P w) X.A (letOwnedTupleGo tg (.ref it) u) (fun _ s2=> ∃x H',Inv X pins σ H' s2/\RelV x u/\J.yld i H x H'/\tn (i+1) s2.heap/\∀b∈fp,H' b=none) E s1) E s
 done:∀(X:Cx),X.prog=P->X.w=w->X.K=K->X.calm=true->∀(i:Nat)(pins:List (Addr×Obj))(s:Shared)(σ:St)(H:Hp)(E:Value->Shared->Prop),Inv X pins σ H s->(∀b∈fp,fP X pins H b)->tn i s.heap->J.stop i H->
  wpAny (model P w) X.A (pyNext (.ref it)) (fun r s1=>r=none/\Inv X pins σ H s1) E s
 self:∀(A:Around)(i:Nat)(s:Shared)(Q:Value->Shared->Prop)(E:Value->Shared->Prop),tn i s.heap->Q (.ref it) s->wpAny (model P w) A (pyIter (.ref it)) Q E s
abbrev TI:=St->Hp->(It->Hp->Prop)->Prop
def PIE (X:Cx)(pins:List (Addr×Obj))(σ:St)(tg:Expr)(R:It->Hp->Prop)(itv:Value)(s2:Shared):Prop:=
 ∃(it:Addr)(fp:List Addr)(tn:Nat->Heap->Prop)(J:It)(H':Hp),itv= .ref it/\Inv X pins σ H' s2/\iH X.prog X.w X.K tg J fp it tn/\tn 0 s2.heap/\(∀b∈fp,fP X pins H' b)/\R J H'
def PI (X:Cx)(tg iter:Expr)(wi:TI):Prop:=
 ∀(pins:List (Addr×Obj))(s:Shared)(σ:St)(H:Hp)(R:It->Hp->Prop),Inv X pins σ H s->wi σ H R->
  wpAny (model X.prog X.w) X.A (eval iter X.env) (fun v s1=>wpAny (model X.prog X.w) X.A (pyIter v) (PIE X pins σ tg R) X.xe s1) X.xe s
theorem tR {M:Model}{A:Around}{E:Value->Shared->Prop}{s:Shared}{tg:Expr}{it:Addr}{u:Value}{o:Obj}{n:String}{vs:Array Value}{Q:Unit->Shared->Prop}(ho:s.heap.get? it=some o)(hc:o.cls= .type n)(hd:o.data= .fields vs)
    (hn:["enumerate","zip","dict_itemiterator","dict_reverseitemiterator","odict_iterator","itertools.zip_longest","itertools.pairwise"].contains n=false)(hQ:Q () s):wpAny M A (letOwnedTupleGo tg (.ref it) u) Q E s:=by
  unfold letOwnedTupleGo
  cases tg<;>first
    |exact wpAny_pure hQ
    | (cases u<;>first
        |exact wpAny_pure hQ
        | (refine wpAny_bind (wpAny_load ho ?_)
           rw [hc,hd]
           show wpAny M A (if (["enumerate","zip","dict_itemiterator","dict_reverseitemiterator","odict_iterator","itertools.zip_longest","itertools.pairwise"].contains n&&vs[0]?==some (rawInt _))=true then _ else _) Q E s
           rw [if_neg (by intro h;rw [hn,Bool.false_and]at h;cases h)]
           exact wpAny_pure hQ))
def Itl (K:W.Frag)(a:Addr):It:=
 ⟨fun i H=> ∃xs x,SqL K H a xs/\xs[i]?=some x,fun i H x H'=>H'=H/\∀xs,SqL K H a xs->xs[i]?=some x,fun i H=> ∃xs,SqL K H a xs/\xs.length<=i⟩
def Itt (K:W.Frag)(a:Addr):It:=
 ⟨fun i H=> ∃xs x,SqT K H a xs/\xs[i]?=some x,fun i H x H'=>H'=H/\∀xs,SqT K H a xs->xs[i]?=some x,fun i H=> ∃xs,SqT K H a xs/\xs.length<=i⟩
def Itr (lo:Int)(n:Nat):It:=⟨fun i _=>i<n,fun i H x H'=>H'=H/\x= .int (lo+i),fun i _=>n<=i⟩
theorem A4l {P:Program}{w:World}{K:W.Frag}{tg:Expr}(a it:Addr):iH P w K tg (Itl K a) [it] it (fun i h=>h.IsListIter it a i)where
 mem:=by simp
 obj:=fun i h st b hb=>by
  have e:b=it:=by simpa using hb
  subst e
  obtain⟨o,e,c,d⟩:=st
  exact⟨o,e,fun v z=>by rw [d]at z;cases z⟩
 keep:=fun i h h' st k=>st.at fun o e=>k it (by simp) o e
 item:=by
  intro X hP hw hK hc i pins s σ H E I hf st hg
  subst hP hw hK
  obtain⟨xs,x,hq,hx⟩:=hg
  obtain⟨its,rv,p,hz⟩:=I.list hq
  obtain⟨u,hu,ru⟩:=rv.get hx
  obtain⟨f0,f1,f2,f3,f4,f5⟩:=hf it (by simp)
  refine wpAny_pyNext_list_item st p.isList (x:=u) (by simpa using hu) fun h' st' sb=> ?_
  have I1:Inv X pins σ H {s with heap:=h'}:=I.turned (t':=s.toks) (fun b o hb e=>(sb.2 b hb).trans e) f0 f1 f3 f4 f5
  obtain⟨o,e,c,d⟩:=id st'
  exact⟨u,rfl,tR (s:={s with heap:=h'}) e c d (by decide) ⟨x,H,I1,ru,⟨rfl,fun ys hy=>by rw [I.list_inj hy hq];exact hx⟩,st',fun b hb=>(hf b hb).1⟩⟩
 done:=by
  intro X hP hw hK hc i pins s σ H E I hf st hg
  subst hP hw hK
  obtain⟨xs,hq,hx⟩:=hg
  obtain⟨its,rv,p,hz⟩:=I.list hq
  obtain⟨f0,f1,f2,f3,f4,f5⟩:=hf it (by simp)
  have hl:=rv.length
  exact wpAny_pyNext_list_end (I.ok.hd hc) st p.isList (by simp;omega) fun h' eb=> ⟨rfl,I.turned (t':=s.toks) (fun b o hb e=>eb b o hb e) f0 f1 f3 f4 f5⟩
 self:=fun _ _ _ _ _ st h=>wpAny_pyIter_listiter st h
theorem A3y {P:Program}{w:World}{K:W.Frag}{tg:Expr}(a it:Addr):iH P w K tg (Itt K a) [it] it (fun i h=>h.IsTupleIter it a i)where
 mem:=by simp
 obj:=fun i h st b hb=>by
  have e:b=it:=by simpa using hb
  subst e
  obtain⟨o,e,c,d⟩:=st
  exact⟨o,e,fun v z=>by rw [d]at z;cases z⟩
 keep:=fun i h h' st k=>st.at fun o e=>k it (by simp) o e
 item:=by
  intro X hP hw hK hc i pins s σ H E I hf st hg
  subst hP hw hK
  obtain⟨xs,x,hq,hx⟩:=hg
  obtain⟨its,rv,p,hz⟩:=I.tuple hq
  obtain⟨u,hu,ru⟩:=rv.get hx
  obtain⟨f0,f1,f2,f3,f4,f5⟩:=hf it (by simp)
  refine wpAny_pyNext_tuple_item st (show s.heap.IsTuple a its.toArray from p) (x:=u) (by simpa using hu) fun h' st' sb=> ?_
  have I1:Inv X pins σ H {s with heap:=h'}:=I.turned (t':=s.toks) (fun b o hb e=>(sb.2 b hb).trans e) f0 f1 f3 f4 f5
  obtain⟨o,e,c,d⟩:=id st'
  exact⟨u,rfl,tR (s:={s with heap:=h'}) e c d (by decide) ⟨x,H,I1,ru,⟨rfl,fun ys hy=>by rw [I.tuple_inj hy hq];exact hx⟩,st',fun b hb=>(hf b hb).1⟩⟩
 done:=by
  intro X hP hw hK hc i pins s σ H E I hf st hg
  subst hP hw hK
  obtain⟨xs,hq,hx⟩:=hg
  obtain⟨its,rv,p,hz⟩:=I.tuple hq
  obtain⟨f0,f1,f2,f3,f4,f5⟩:=hf it (by simp)
  have hl:=rv.length
  exact wpAny_pyNext_tuple_end (I.ok.hd hc) st (show s.heap.IsTuple a its.toArray from p) (by simp;omega) fun h' eb=> ⟨rfl,I.turned (t':=s.toks) (fun b o hb e=>eb b o hb e) f0 f1 f3 f4 f5⟩
 self:=fun _ _ _ _ _ st h=>wpAny_pyIter_tupleiter st h
theorem A6t {P:Program}{w:World}{K:PySem.W.Frag}{tg:Expr}(it:Addr)(lo:Int)(n:Nat):iH P w K tg (Itr lo n) [it] it (fun i h=>IsRangeIter h it (lo+(i:Nat)*1) ((n:Int) -(i:Nat)) 1)where
 mem:=by simp
 obj:=fun i h st b hb=>by
  have e:b=it:=by simpa using hb
  subst e
  exact⟨_,st,fun v z=>by
   have z':Data.fields _=Data.cell v:=z
   cases z'⟩
 keep:=fun i h h' st k=>k it (by simp) _ st
 item:=by
  intro X hP hw hK hc i pins s σ H E I hf st hg
  subst hP hw hK
  obtain⟨f0,f1,f2,f3,f4,f5⟩:=hf it (by simp)
  have W:=Walks.range (prog:=X.prog) (w:=X.w) (I.ok.hd hc) it lo 1 n
  refine W.item i s _ _ hg st fun v h' tk hv st' kk=> ?_
  obtain⟨t,rfl⟩:=hv
  have I1:Inv X pins σ H {s with heap:=h',toks:=tk}:=I.turned (fun b o hb e=>kk b o (by simpa using hb) e) f0 f1 f3 f4 f5
  refine⟨_,rfl,tR (s:={s with heap:=h',toks:=tk}) (n:="range_iterator") st' rfl rfl (by decide) ⟨.int (lo+i),H,I1,⟨t,?_⟩,⟨rfl,rfl⟩,st',fun b hb=>(hf b hb).1⟩⟩
  rw [Int.mul_one]
 done:=by
  intro X hP hw hK hc i pins s σ H E I hf st hg
  subst hP hw hK
  obtain⟨f0,f1,f2,f3,f4,f5⟩:=hf it (by simp)
  exact wpAny_pyNext_range_end (I.ok.hd hc) st (by have:n<=i:=hg;omega) fun h' eb=> ⟨rfl,I.turned (t':=s.toks) (fun b o hb e=>eb b o hb e) f0 f1 f3 f4 f5⟩
 self:=fun _ _ _ _ _ st h=>wpAny_pyIter_rangeiter st h
section
variable {X:Cx}{tg:Expr}
def A24 (K:W.Frag)(tl:TE):TI:=fun σ H R=>tl σ H fun x H1=> ∃a,x= .ref a/\(∃xs,SqL K H1 a xs)/\R (Itl K a) H1
def B1h (K:W.Frag)(tl:TE):TI:=fun σ H R=>tl σ H fun x H1=> ∃a,x= .ref a/\(∃xs,SqT K H1 a xs)/\R (Itt K a) H1
theorem lA {l:Expr}{tl:TE}(hl:PE X l tl):PI X tg l (A24 X.K tl):=by
 intro pins s σ H R I h
 refine thn (hl pins s σ H _ I h) fun v s1 ⟨x,H1,I1,r1,q1⟩=> ?_
 obtain⟨a,e,⟨xs,hq⟩,q⟩:=q1
 subst e
 cases r1
 obtain⟨its,rv,p,hz⟩:=I1.list hq
 refine wpAny_pyIter_list p.isList ?_
 refine⟨s1.heap.objs.size,[s1.heap.objs.size],_,_,H1,rfl,I1.kept (t':=s1.toks) fun b o e=>Heap.get?_push_of_some _ e,A4l a _,⟨_,Heap.get?_push_size _ rfl,rfl,rfl⟩,fun b hb=> ?_,q⟩
 have e:b=s1.heap.objs.size:=by simpa using hb
 subst e
 exact I1.fpOk (Nat.le_refl _) (I1.hok.fresh (Nat.le_refl _))
theorem eV {l:Expr}{tl:TE}(hl:PE X l tl):PI X tg l (B1h X.K tl):=by
 intro pins s σ H R I h
 refine thn (hl pins s σ H _ I h) fun v s1 ⟨x,H1,I1,r1,q1⟩=> ?_
 obtain⟨a,e,⟨xs,hq⟩,q⟩:=q1
 subst e
 cases r1
 obtain⟨its,rv,p,hz⟩:=I1.tuple hq
 refine wpAny_pyIter_tuple (show s1.heap.IsTuple a its.toArray from p) ?_
 refine⟨s1.heap.objs.size,[s1.heap.objs.size],_,_,H1,rfl,I1.kept (t':=s1.toks) fun b o e=>Heap.get?_push_of_some _ e,A3y a _,⟨_,Heap.get?_push_size _ rfl,rfl,rfl⟩,fun b hb=> ?_,q⟩
 have e:b=s1.heap.objs.size:=by simpa using hb
 subst e
 exact I1.fpOk (Nat.le_refl _) (I1.hok.fresh (Nat.le_refl _))
theorem B00 {pins:List (Addr×Obj)}{σ:St}{H:Hp}{s:Shared}{R:It->Hp->Prop}{E:Value->Shared->Prop}{lo hi:Int}{t u v:Tok}{tk:Nat}(I:Inv X pins σ H s)(h1:-(2^62)<=lo)(h2:lo<2^62)(h3:-(2^62)<=hi)(h4:hi<2^62)
  (q:R (Itr lo (hi - lo).toNat) H):wpAny (model X.prog X.w) X.A (pyIter (.ref s.heap.objs.size)) (PIE X pins σ tg R) E {s with heap:=s.heap.push {cls:=.type "range",data:=.fields #[.int lo t,.int hi u,.int 1 v]},toks:=tk}:=by
 refine wpAny_pyIter_range (IsRange.new ..) (small_one h1 h2 h3 h4) ?_
 have I1:Inv X pins σ H {s with heap:=s.heap.push {cls:=.type "range",data:=.fields #[.int lo t,.int hi u,.int 1 v]},toks:=tk}:=I.kept fun b o e=>Heap.get?_push_of_some _ e
 refine⟨(s.heap.push {cls:=.type "range",data:=.fields #[.int lo t,.int hi u,.int 1 v]}).objs.size,[(s.heap.push {cls:=.type "range",data:=.fields #[.int lo t,.int hi u,.int 1 v]}).objs.size],_,_,H,rfl,
  I1.kept (t':=tk) fun b o e=>Heap.get?_push_of_some _ e,A6t _ lo (hi - lo).toNat,?_,fun b hb=> ?_,q⟩
 ·have e1:lo+((0:Nat):Int)*1=lo:=by simp
  have e2:(((hi - lo).toNat:Nat):Int) -((0:Nat):Int)=Builtin.Range.rangeSize lo hi 1:=by rw [rangeSize_one];split<;>omega
  show IsRangeIter _ _ (lo+((0:Nat):Int)*1) ((((hi - lo).toNat:Nat):Int) -((0:Nat):Int)) 1
  rw [e1,e2]
  exact Heap.get?_push_size _ rfl
 ·have e:b=(s.heap.push {cls:=.type "range",data:=.fields #[.int lo t,.int hi u,.int 1 v]}).objs.size:=by simpa using hb
  subst e
  exact I1.fpOk (Nat.le_refl _) (I1.hok.fresh (Nat.le_refl _))
def A80 (ta:TA):TI:=fun σ H R=>ta σ H fun vs H1=> ∃j:Int,vs=[.int j]/\-(2^62)<=j/\j<2^62/\R (Itr 0 j.toNat) H1
theorem qH {a:Expr}{ta:TA}{p pos:Pos}(hg:Gl X "range")(hm:X.mg "range" =none)(ha:PA X [a] ta)(hs:starEach [a] X.env=[(false,eval a X.env)]:=by rfl):PI X tg (.Call (.Name "range" p) [a] [] pos) (A80 ta):=by
 intro pins s σ H R I h
 refine Call_ (lC I hg hm boot_range (PyProof.Rows.callWith_type1 (thn (ha pos pins s σ H _ I h) fun us s1 ⟨vs,H1,I1,r1,q1⟩=> ?_) hs rfl))
 obtain⟨j,e,q1,q2,q⟩:=q1
 subst e
 cases r1 with
 |cons r rr=>
  cases rr
  obtain⟨t,rfl⟩:=r
  exact call_range_1 (B00 I1 (by omega) (by omega) q1 q2 (by simpa using q))
def A38 (wi:TI)(g:TG)(tb:TS):TS:=fun D σ H=>wi σ H fun J H1=> ∃W:Nat->Nat->St->Hp->Prop,(∃m,W 0 m σ H1)/\∀i m σ H,W i m σ H->
 (J.stop i H/\D.nx σ H)\/(J.go i H/\∃N:St->Hp->Prop,(∀σ' H',N σ' H'->∃m',m'<m/\W (i+1) m' σ' H')/\∀x H',J.yld i H x H'->g x σ H' fun σ2 H2=>tb {D with nx:=N,ct:=N,bk:=D.nx} σ2 H2)
def nL (fp:List Addr)(h:Heap):List (Addr×Obj):=fp.filterMap fun b=>(h.get? b).map fun o=>(b,o)
theorem rM {fp:List Addr}{h:Heap}{b:Addr}{o:Obj}(hb:b∈fp)(e:h.get? b=some o):(b,o)∈nL fp h:=List.mem_filterMap.mpr ⟨b,hb,by rw [e];rfl⟩
theorem A8t {fp:List Addr}{h:Heap}{p:Addr×Obj}(hp:p∈nL fp h):p.1∈fp/\h.get? p.1=some p.2:=by
 obtain⟨b,hb,e⟩:=List.mem_filterMap.mp hp
 cases q:h.get? b with
 |none=>rw [q]at e;cases e
 |some o=>
  rw [q]at e
  have e':(b,o)=p:=Option.some.inj e
  subst e'
  exact⟨hb,q⟩
theorem Inv.pinned {pins:List (Addr×Obj)}{σ:St}{H:Hp}{s:Shared}{fp:List Addr}(I:Inv X pins σ H s)(hf:∀b∈fp,fP X pins H b)(ho:∀b∈fp,∃o,s.heap.get? b=some o/\∀v,o.data≠ .cell v):Inv X (pins++nL fp s.heap) σ H s:=
 I.pins_of fun p hp=>(List.mem_append.mp hp).elim (fun z=>I.pin p (List.mem_append_right _ z)) fun z=>by
  obtain⟨hb,e⟩:=A8t z
  obtain⟨f0,f1,f2,_⟩:=hf p.1 hb
  obtain⟨o,e',d⟩:=ho p.1 hb
  rw [e]at e';cases e'
  exact⟨e,f0,f1,f2,d⟩
theorem Inv.unpinned {pins pl:List (Addr×Obj)}{σ:St}{H:Hp}{s:Shared}(I:Inv X (pins++pl) σ H s):Inv X pins σ H s:=I.pins_of fun p hp=>I.pin p (List.mem_append_right _ (List.mem_append_left _ hp))
theorem qQ {iter:Expr}{body:List Stmt}{wi:TI}{g:TG}{tb:TS}{pos:Pos}(hp:PassesOwn (model X.prog X.w) X.A X.env X.xe)(hc:X.calm=true)(hi:PI X tg iter wi)(hg:PG X tg g)(hb:PSs X body tb)
  (hs:∀x,foldedSetIterable iter X.env x=pure x:=by intro _;rfl):PS X (.For tg iter body [] pos) (A38 wi g tb):=by
 intro pins s σ H D I h
 refine wpAny_For (thn (hi pins s σ H _ I h) fun v s1 h1=>thn h1 fun itv s2 h2=> ?_) hs
 obtain⟨it,fp,tn,J,H2,e,I2,T,st2,f2,W,⟨m0,w0⟩,turn⟩:=h2
 subst e
 have stat:∀{H':Hp},(∀b∈fp,H' b=none)->∀b∈fp,fP X pins H' b:=fun hn b hb=> ⟨hn b hb,(f2 b hb).2⟩
 refine codeAny_forLoop_any (fun n s'=> ∃i σ' H',Inv X pins σ' H' s'/\tn i s'.heap/\(∀b∈fp,H' b=none)/\W i n σ' H') ?_ m0 ⟨0,σ,H2,I2,st2,fun b hb=>(f2 b hb).1,w0⟩
 rintro n s3 ⟨i,σ3,H3,I3,st3,fr3,w3⟩
 rcases turn i n σ3 H3 w3 with⟨stop,qn⟩| ⟨go,N,hN,step⟩
 ·refine wpAny_passesOwn hp (thn (T.done X rfl rfl rfl hc i pins s3 σ3 H3 X.xe I3 (stat fr3) st3 stop) fun r s4 ⟨hr,I4⟩=> ?_)
  subst hr
  exact wpAny_execs_nil ⟨σ3,H3,I4,qn⟩
 ·refine wpAny_passesOwn hp (thn (T.item X rfl rfl rfl hc i pins s3 σ3 H3 X.xe I3 (stat fr3) st3 go) fun r s4 ⟨u,hr,h4⟩=> ?_)
  subst hr
  refine wpAny_passesOwn hp (thn h4 fun _ s5 ⟨x,H5,I5,r5,y5,st5,fr5⟩=> ?_)
  have I5':=I5.pinned (stat fr5) (T.obj _ _ st5)
  refine wpAny_passesOwn hp (thn (hg _ s5 σ3 H5 x u _ I5' r5 (step x H5 y5)) fun _ s6 ⟨σ6,H6,I6,q6⟩=> ?_)
  refine wpAny_passesOwn hp (thn (hb _ s6 σ6 H6 _ I6 q6) fun f s7 q7=> ?_)
  have again:∀{σ7:St}{H7:Hp},Inv X (pins++nL fp s5.heap) σ7 H7 s7->N σ7 H7->∃m,m<n/\∃i σ' H',Inv X pins σ' H' s7/\tn i s7.heap/\(∀b∈fp,H' b=none)/\W i m σ' H':=fun{σ7 H7} I7 n7=>by
   obtain⟨m',hm,w7⟩:=hN σ7 H7 n7
   refine⟨m',hm,i+1,σ7,H7,I7.unpinned,T.keep _ _ _ st5 fun b hb o e=>(I7.pin (b,o) (List.mem_append_right _ (List.mem_append_right _ (rM hb e)))).1,fun b hb=> ?_,w7⟩
   obtain⟨o,e,d⟩:=T.obj _ _ st5 b hb
   exact(I7.pin (b,o) (List.mem_append_right _ (List.mem_append_right _ (rM hb e)))).2.1
  cases f with
  |next=>obtain⟨σ7,H7,I7,n7⟩:=q7;exact again I7 n7
  |cont=>obtain⟨σ7,H7,I7,n7⟩:=q7;exact again I7 n7
  |brk=>obtain⟨σ7,H7,I7,q7⟩:=q7;exact⟨σ7,H7,I7.unpinned,q7⟩
  |ret v=>obtain⟨x7,σ7,H7,I7,r7,q7⟩:=q7;exact⟨x7,σ7,H7,I7.unpinned,r7,q7⟩
end
theorem qV {K:PySem.W.Frag}{a:Addr}{xs:List V}{g:TG}{tb:TS}{D:cQ}{σ:St}{H:Hp}(Pv:Nat->St->Hp->Prop)(h0:Pv 0 σ H)(hl:∀i σ H,i<=xs.length->Pv i σ H->SqL K H a xs)
  (hs:∀i x σ H,xs[i]?=some x->Pv i σ H->g x σ H fun σ2 H2=>tb {D with nx:=Pv (i+1),ct:=Pv (i+1),bk:=D.nx} σ2 H2)(hd:∀σ H,Pv xs.length σ H->D.nx σ H):
  ∃W:Nat->Nat->St->Hp->Prop,(∃m,W 0 m σ H)/\∀i m σ H,W i m σ H->
   ((Itl K a).stop i H/\D.nx σ H)\/((Itl K a).go i H/\∃N:St->Hp->Prop,(∀σ' H',N σ' H'->∃m',m'<m/\W (i+1) m' σ' H')/\∀x H',(Itl K a).yld i H x H'->g x σ H' fun σ2 H2=>tb {D with nx:=N,ct:=N,bk:=D.nx} σ2 H2):=by
 refine⟨fun i m σ H=>m=xs.length - i/\i<=xs.length/\Pv i σ H,⟨xs.length,by simp,Nat.zero_le _,h0⟩,?_⟩
 rintro i m σ H ⟨rfl,hi,p⟩
 have q:=hl i σ H hi p
 by_cases hlt:i<xs.length
 ·refine .inr ⟨⟨xs,xs[i],q,by simp [hlt]⟩,Pv (i+1),fun σ' H' p'=> ⟨xs.length -(i+1),by omega,rfl,hlt,p'⟩,fun x H' y=> ?_⟩
  obtain⟨e,y⟩:=y
  subst e
  exact hs i x σ _ (y xs q) p
 ·have e:i=xs.length:=by omega
  subst e
  exact .inl ⟨⟨xs,q,Nat.le_refl _⟩,hd σ H p⟩
theorem pO {K:PySem.W.Frag}{a:Addr}{xs:List V}{g:TG}{tb:TS}{D:cQ}{σ:St}{H:Hp}(Pv:Nat->St->Hp->Prop)(h0:Pv 0 σ H)(hl:∀i σ H,i<=xs.length->Pv i σ H->SqT K H a xs)
  (hs:∀i x σ H,xs[i]?=some x->Pv i σ H->g x σ H fun σ2 H2=>tb {D with nx:=Pv (i+1),ct:=Pv (i+1),bk:=D.nx} σ2 H2)(hd:∀σ H,Pv xs.length σ H->D.nx σ H):
  ∃W:Nat->Nat->St->Hp->Prop,(∃m,W 0 m σ H)/\∀i m σ H,W i m σ H->
   ((Itt K a).stop i H/\D.nx σ H)\/((Itt K a).go i H/\∃N:St->Hp->Prop,(∀σ' H',N σ' H'->∃m',m'<m/\W (i+1) m' σ' H')/\∀x H',(Itt K a).yld i H x H'->g x σ H' fun σ2 H2=>tb {D with nx:=N,ct:=N,bk:=D.nx} σ2 H2):=by
 refine⟨fun i m σ H=>m=xs.length - i/\i<=xs.length/\Pv i σ H,⟨xs.length,by simp,Nat.zero_le _,h0⟩,?_⟩
 rintro i m σ H ⟨rfl,hi,p⟩
 have q:=hl i σ H hi p
 by_cases hlt:i<xs.length
 ·refine .inr ⟨⟨xs,xs[i],q,by simp [hlt]⟩,Pv (i+1),fun σ' H' p'=> ⟨xs.length -(i+1),by omega,rfl,hlt,p'⟩,fun x H' y=> ?_⟩
  obtain⟨e,y⟩:=y
  subst e
  exact hs i x σ _ (y xs q) p
 ·have e:i=xs.length:=by omega
  subst e
  exact .inl ⟨⟨xs,q,Nat.le_refl _⟩,hd σ H p⟩
theorem pJ {lo:Int}{n:Nat}{g:TG}{tb:TS}{D:cQ}{σ:St}{H:Hp}(Pv:Nat->St->Hp->Prop)(h0:Pv 0 σ H)
  (hs:∀i σ H,i<n->Pv i σ H->g (.int (lo+i)) σ H fun σ2 H2=>tb {D with nx:=Pv (i+1),ct:=Pv (i+1),bk:=D.nx} σ2 H2)(hd:∀σ H,Pv n σ H->D.nx σ H):
  ∃W:Nat->Nat->St->Hp->Prop,(∃m,W 0 m σ H)/\∀i m σ H,W i m σ H->
   ((Itr lo n).stop i H/\D.nx σ H)\/((Itr lo n).go i H/\∃N:St->Hp->Prop,(∀σ' H',N σ' H'->∃m',m'<m/\W (i+1) m' σ' H')/\∀x H',(Itr lo n).yld i H x H'->g x σ H' fun σ2 H2=>tb {D with nx:=N,ct:=N,bk:=D.nx} σ2 H2):=by
 refine⟨fun i m σ H=>m=n - i/\i<=n/\Pv i σ H,⟨n,by simp,Nat.zero_le _,h0⟩,?_⟩
 rintro i m σ H ⟨rfl,hi,p⟩
 by_cases hlt:i<n
 ·refine .inr ⟨hlt,Pv (i+1),fun σ' H' p'=> ⟨n -(i+1),by omega,rfl,hlt,p'⟩,fun x H' y=> ?_⟩
  obtain⟨e,y⟩:=y
  subst e y
  exact hs i σ _ hlt p
 ·have e:i=n:=by omega
  subst e
  exact .inl ⟨Nat.le_refl _,hd σ H p⟩
theorem B1d {c:TT}{tb:TS}{D:cQ}{σ:St}{H:Hp}(Pv:St->Hp->Prop)(μ:St->Hp->Nat)(h0:Pv σ H)
  (hs:∀σ H,Pv σ H->c σ H fun b H1=>if b=true then tb {D with nx:=fun σ' H'=>Pv σ' H'/\μ σ' H'<μ σ H,ct:=fun σ' H'=>Pv σ' H'/\μ σ' H'<μ σ H,bk:=D.nx} σ H1 else D.nx σ H1)
  (mono:∀σ H Q Q',(∀b H1,Q b H1->Q' b H1)->c σ H Q->c σ H Q'):A1m c tb D σ H:=by
 refine⟨fun m σ H=>m=μ σ H/\Pv σ H,⟨_,rfl,h0⟩,?_⟩
 rintro m σ H ⟨rfl,p⟩
 refine mono σ H _ _ (fun b H1 q=> ?_) (hs σ H p)
 cases b with
 |true=>exact⟨_,fun σ' H' ⟨p',l⟩=> ⟨_,l,rfl,p'⟩,q⟩
 |false=>exact q
abbrev R2:=V->V->Hp->VK->Prop
def OpR (X:Cx)(f:Value->Value->Sem Value)(r:R2):Prop:=
 ∀(pins:List (Addr×Obj))(s:Shared)(σ:St)(H:Hp)(x y:V)(v u:Value)(Q:VK),Inv X pins σ H s->RelV x v->RelV y u->r x y H Q->
  wpAny (model X.prog X.w) X.A (f v u) (EP X pins σ Q) X.xe s
def UnR (X:Cx)(f:Value->Sem Value)(r:V->Hp->VK->Prop):Prop:=
 ∀(pins:List (Addr×Obj))(s:Shared)(σ:St)(H:Hp)(x:V)(v:Value)(Q:VK),Inv X pins σ H s->RelV x v->r x H Q->
  wpAny (model X.prog X.w) X.A (f v) (EP X pins σ Q) X.xe s
def dX (X:Cx)(f:Value)(r:List V->Hp->VK->Prop):Prop:=
 ∀(pins:List (Addr×Obj))(s:Shared)(σ:St)(H:Hp)(xs:List V)(us:List Value)(Q:VK),Inv X pins σ H s->Vals xs us->r xs H Q->
  wpAny (model X.prog X.w) X.A (call f us) (EP X pins σ Q) X.xe s
def tOp (r:R2)(ta tb:TE):TE:=fun σ H Q=>ta σ H fun x H1=>tb σ H1 fun y H2=>r x y H2 Q
def tUn (r:V->Hp->VK->Prop)(ta:TE):TE:=fun σ H Q=>ta σ H fun x H1=>r x H1 Q
def rI (C:Int->Int->Prop)(g:Int->Int->V):R2:=fun x y H Q=> ∃i j,x= .int i/\y= .int j/\C i j/\Q (g i j) H
def rI0 (g:Int->Int->V):R2:=fun x y H Q=> ∃i j,x= .int i/\y= .int j/\Q (g i j) H
def rU (g:Int->V):V->Hp->VK->Prop:=fun x H Q=> ∃i,x= .int i/\Q (g i) H
section
variable {X:Cx}{a b c:Expr}{ta tb tc:TE}{pos:Pos}
theorem uL (ha:PE X a ta)(hb:PE X b tb){pins:List (Addr×Obj)}{s:Shared}{σ:St}{H:Hp}{R:V->V->Hp->Prop}(I:Inv X pins σ H s)
  (h:ta σ H fun x H1=>tb σ H1 fun y H2=>R x y H2){Q:Value->Shared->Prop}{f:Value->Value->Sem Value}
  (hf:∀v u s2 x y H2,Inv X pins σ H2 s2->RelV x v->RelV y u->R x y H2->wpAny (model X.prog X.w) X.A (f v u) Q X.xe s2):
  wpAny (model X.prog X.w) X.A (eval a X.env) (fun v s₁=>wpAny (model X.prog X.w) X.A (eval b X.env) (fun u s₂=>wpAny (model X.prog X.w) X.A (f v u) Q X.xe s₂) X.xe s₁) X.xe s:=by
 refine thn (ha pins s σ H _ I h) fun v s1 ⟨x,H1,I1,r1,q1⟩=> ?_
 refine thn (hb pins s1 σ H1 _ I1 q1) fun u s2 ⟨y,H2,I2,r2,q2⟩=> ?_
 exact hf v u s2 x y H2 I2 r1 r2 q2
theorem bJ {op:Operator}{r:R2}(ho:OpR X (binaryOp op) r)(ha:PE X a ta)(hb:PE X b tb):PE X (.BinOp a op b pos) (tOp r ta tb):=by
 intro pins s σ H Q I h
 exact wpAny_BinOp (uL ha hb I h fun v u s2 x y H2 I2 rx ry q=>ho pins s2 σ H2 x y v u Q I2 rx ry q)
theorem zO {op:UnaryOp}{r:V->Hp->VK->Prop}(ho:UnR X (unaryOp op) r)(ha:PE X a ta):PE X (.UnaryOp op a pos) (tUn r ta):=by
 intro pins s σ H Q I h
 exact UnaryOp_ (thn (ha pins s σ H _ I h) fun v s1 ⟨x,H1,I1,r1,q1⟩=>ho pins s1 σ H1 x v Q I1 r1 q1)
theorem opI {f:Value->Value->Sem Value}{C:Int->Int->Prop}{g:Int->Int->Int}
  (rule:∀(i j:Int)(t u:Tok)(s:Shared)(Q:Value->Shared->Prop)(E:Value->Shared->Prop),C i j->Q (.int (g i j) s.toks) {s with toks:=s.toks+1}->wpAny (model X.prog X.w) X.A (f (.int i t) (.int j u)) Q E s):
  OpR X f (rI C fun i j=> .int (g i j)):=by
 intro pins s σ H x y v u Q I rx ry h
 obtain⟨i,j,rfl,rfl,hc,q⟩:=h
 obtain⟨t,rfl⟩:=rx
 obtain⟨t',rfl⟩:=ry
 exact rule i j t t' s _ _ hc ⟨.int (g i j),H,I.tok _,⟨_,rfl⟩,q⟩
theorem xY {f:Value->Value->Sem Value}{g:Int->Int->Int}
  (rule:∀(i j:Int)(t u:Tok)(s:Shared)(Q:Value->Shared->Prop)(E:Value->Shared->Prop),Q (.int (g i j) s.toks) {s with toks:=s.toks+1}->wpAny (model X.prog X.w) X.A (f (.int i t) (.int j u)) Q E s):
  OpR X f (rI0 fun i j=> .int (g i j)):=by
 intro pins s σ H x y v u Q I rx ry h
 obtain⟨i,j,rfl,rfl,q⟩:=h
 obtain⟨t,rfl⟩:=rx
 obtain⟨t',rfl⟩:=ry
 exact rule i j t t' s _ _ ⟨.int (g i j),H,I.tok _,⟨_,rfl⟩,q⟩
theorem oZ {f:Value->Value->Sem Value}{g:Int->Int->Bool}
  (rule:∀(i j:Int)(t u:Tok)(s:Shared)(Q:Value->Shared->Prop)(E:Value->Shared->Prop),Q (.bool (g i j)) s->wpAny (model X.prog X.w) X.A (f (.int i t) (.int j u)) Q E s):
  OpR X f (rI0 fun i j=> .bl (g i j)):=by
 intro pins s σ H x y v u Q I rx ry h
 obtain⟨i,j,rfl,rfl,q⟩:=h
 obtain⟨t,rfl⟩:=rx
 obtain⟨t',rfl⟩:=ry
 exact rule i j t t' s _ _ ⟨.bl (g i j),H,I,rfl,q⟩
def A3s (i j:Int):Prop:=0<j/\j<1073741824
def A3a (i j:Int):Prop:=0<=j/\j<=1000000/\i.natAbs<2^64
def CMul (i j:Int):Prop:=(-(2^64)<i/\i<2^64)\/(-(2^64)<j/\j<2^64)
theorem CMul.ok {i j:Int}(h:CMul i j):IntMulOk i j:=by
 rcases h with⟨h1,h2⟩| ⟨h1,h2⟩
 ·exact .of_left (intBits_le_64 h1 h2)
 ·exact .of_right (intBits_le_64 h1 h2)
theorem fX:OpR X (binaryOp .Add) (rI0 fun i j=> .int (i+j)):=xY fun _ _ _ _ _ _ _ q=>add_int q
theorem nY:OpR X (binaryOp .Sub) (rI0 fun i j=> .int (i - j)):=xY fun _ _ _ _ _ _ _ q=>sub_int q
theorem rK:OpR X (binaryOp .Mult) (rI CMul fun i j=> .int (i*j)):=opI fun _ _ _ _ _ _ _ hc q=>mul_int q hc.ok
theorem pH:OpR X (binaryOp .FloorDiv) (rI A3s fun i j=> .int (i/j)):=opI fun i j _ _ _ _ _ hc q=>by
 have h1:(0:Int)<j:=hc.1
 have h2:j<1073741824:=hc.2
 exact floordiv_int (by omega) (by rw [Int.fdiv_eq_ediv_of_nonneg i (by omega)];exact q) (.inl (PyProof.noPylong_small (by omega)))
theorem jR:OpR X (binaryOp .Mod) (rI (fun _ j=>0<j) fun i j=> .int (i%j)):=opI fun i j _ _ _ _ _ hc q=>by
 have h1:(0:Int)<j:=hc
 exact mod_int' (by omega) (by rw [Int.fmod_eq_emod_of_nonneg i (by omega)];exact q)
theorem rS:OpR X (binaryOp .Pow) (rI A3a fun i j=> .int (i^j.toNat)):=opI fun _ _ _ _ _ _ _ hc q=>pow_int_small hc.1 hc.2.1 hc.2.2 q
theorem unI {f:Value->Sem Value}{g:Int->Int}
  (rule:∀(i:Int)(t:Tok)(s:Shared)(Q:Value->Shared->Prop)(E:Value->Shared->Prop),Q (.int (g i) s.toks) {s with toks:=s.toks+1}->wpAny (model X.prog X.w) X.A (f (.int i t)) Q E s):
  UnR X f (rU fun i=> .int (g i)):=by
 intro pins s σ H x v Q I rx h
 obtain⟨i,rfl,q⟩:=h
 obtain⟨t,rfl⟩:=rx
 exact rule i t s _ _ ⟨.int (g i),H,I.tok _,⟨_,rfl⟩,q⟩
theorem yI:UnR X (unaryOp .USub) (rU fun i=> .int (-i)):=unI fun _ _ _ _ _ q=>neg_int q
end
def scal:V->V->Bool
 | .non,.non=>true| .non,.int _=>true| .int _,.non=>true| .non,.bl _=>true| .bl _,.non=>true| .non,.str _=>true| .str _,.non=>true
 | .int _,.int _=>true| .bl _,.bl _=>true| .str _,.str _=>true| .byt _,.byt _=>true
 | .int _,.str _=>true| .str _,.int _=>true| .bl _,.str _=>true| .str _,.bl _=>true
 |_,_=>false
def rEq:R2:=fun x y H Q=>scal x y=true/\Q (.bl (decide (x=y))) H
def rNe:R2:=fun x y H Q=>scal x y=true/\Q (.bl (!decide (x=y))) H
theorem A0v {i j:Int}:decide (V.int i=V.int j)=(i==j):=by
 rw [Bool.eq_iff_iff]
 simp
theorem A19 {i j:Bool}:decide (V.bl i=V.bl j)=(i==j):=by
 rw [Bool.eq_iff_iff]
 simp
theorem xX {i j:Str}:decide (V.str i=V.str j)=(i==j):=by
 rw [Bool.eq_iff_iff]
 simp
theorem A0n {i j:Array UInt8}:decide (V.byt i=V.byt j)=(i.toList==j.toList):=by
 rw [Bool.eq_iff_iff]
 cases i
 cases j
 simp
section
variable {X:Cx}{a b c:Expr}{ta tb tc:TE}{pos:Pos}
theorem cC {pins:List (Addr×Obj)}{σ:St}{H:Hp}{s:Shared}{Q:VK}{k k':Bool}(I:Inv X pins σ H s)(q:Q (.bl k) H)(e:k=k'):EP X pins σ Q (.bool k') s:=by
 subst e
 exact⟨.bl k,H,I,rfl,q⟩
theorem dG:OpR X (compareOp .Eq) rEq:=by
 intro pins s σ H x y v u Q I rx ry h
 obtain⟨hs,q⟩:=h
 cases x with
 |non=>
  cases rx
  cases y with
  |non=>cases ry;exact PySem.EqNone.eq_none_none (cC I q (by simp))
  |bl j=>cases ry;exact PySem.EqNone.eq_none_bool (cC I q (by simp))
  |int j=>obtain⟨t',rfl⟩:=ry;exact PySem.EqNone.eq_none_int (cC I q (by simp))
  |str j=>obtain⟨t',rfl⟩:=ry;exact PySem.EqNone.eq_none_str (cC I q (by simp))
  |_=>exact absurd (show false=true from hs) Bool.false_ne_true
 |bl i=>
  cases rx
  cases y with
  |non=>cases ry;exact PySem.EqNone.eq_bool_none (cC I q (by simp))
  |bl j=>cases ry;exact eq_bool (cC I q A19)
  |str j=>obtain⟨t',rfl⟩:=ry;exact PySem.EqMixed.eq_bool_str (cC I q (by simp))
  |_=>exact absurd (show false=true from hs) Bool.false_ne_true
 |int i=>
  obtain⟨t,rfl⟩:=rx
  cases y with
  |non=>cases ry;exact PySem.EqNone.eq_int_none (cC I q (by simp))
  |int j=>obtain⟨t',rfl⟩:=ry;exact eq_int (cC I q A0v)
  |str j=>obtain⟨t',rfl⟩:=ry;exact PySem.EqMixed.eq_int_str (cC I q (by simp))
  |_=>exact absurd (show false=true from hs) Bool.false_ne_true
 |str i=>
  obtain⟨t,rfl⟩:=rx
  cases y with
  |non=>cases ry;exact PySem.EqNone.eq_str_none (cC I q (by simp))
  |bl j=>cases ry;exact PySem.EqMixed.eq_str_bool (cC I q (by simp))
  |int j=>obtain⟨t',rfl⟩:=ry;exact PySem.EqMixed.eq_str_int (cC I q (by simp))
  |str j=>obtain⟨t',rfl⟩:=ry;exact eq_str (cC I q xX)
  |_=>exact absurd (show false=true from hs) Bool.false_ne_true
 |byt i=>
  obtain⟨t,rfl⟩:=rx
  cases y with
  |byt j=>obtain⟨t',rfl⟩:=ry;exact W.eq_bytes (cC I q A0n)
  |_=>exact absurd (show false=true from hs) Bool.false_ne_true
 |_=>cases y<;>exact absurd (show false=true from hs) Bool.false_ne_true
theorem uE:OpR X (compareOp .NotEq) rNe:=by
 intro pins s σ H x y v u Q I rx ry h
 obtain⟨hs,q⟩:=h
 cases x with
 |non=>
  cases rx
  cases y with
  |non=>cases ry;exact PySem.EqNone.ne_none_none (cC I q (by simp))
  |bl j=>cases ry;exact PySem.EqNone.ne_none_bool (cC I q (by simp))
  |int j=>obtain⟨t',rfl⟩:=ry;exact PySem.EqNone.ne_none_int (cC I q (by simp))
  |str j=>obtain⟨t',rfl⟩:=ry;exact PySem.EqNone.ne_none_str (cC I q (by simp))
  |_=>exact absurd (show false=true from hs) Bool.false_ne_true
 |bl i=>
  cases rx
  cases y with
  |non=>cases ry;exact PySem.EqNone.ne_bool_none (cC I q (by simp))
  |bl j=>cases ry;exact ne_bool (cC I q (congrArg not A19))
  |str j=>obtain⟨t',rfl⟩:=ry;exact PySem.EqMixed.ne_bool_str (cC I q (by simp))
  |_=>exact absurd (show false=true from hs) Bool.false_ne_true
 |int i=>
  obtain⟨t,rfl⟩:=rx
  cases y with
  |non=>cases ry;exact PySem.EqNone.ne_int_none (cC I q (by simp))
  |int j=>obtain⟨t',rfl⟩:=ry;exact ne_int (cC I q (congrArg not A0v))
  |str j=>obtain⟨t',rfl⟩:=ry;exact PySem.EqMixed.ne_int_str (cC I q (by simp))
  |_=>exact absurd (show false=true from hs) Bool.false_ne_true
 |str i=>
  obtain⟨t,rfl⟩:=rx
  cases y with
  |non=>cases ry;exact PySem.EqNone.ne_str_none (cC I q (by simp))
  |bl j=>cases ry;exact PySem.EqMixed.ne_str_bool (cC I q (by simp))
  |int j=>obtain⟨t',rfl⟩:=ry;exact PySem.EqMixed.ne_str_int (cC I q (by simp))
  |str j=>obtain⟨t',rfl⟩:=ry;exact ne_str (cC I q (congrArg not xX))
  |_=>exact absurd (show false=true from hs) Bool.false_ne_true
 |byt i=>
  obtain⟨t,rfl⟩:=rx
  cases y with
  |byt j=>obtain⟨t',rfl⟩:=ry;exact W.ne_bytes (cC I q (congrArg not A0n))
  |_=>exact absurd (show false=true from hs) Bool.false_ne_true
 |_=>cases y<;>exact absurd (show false=true from hs) Bool.false_ne_true
theorem mV:OpR X (compareOp .Lt) (rI0 fun i j=> .bl (decide (i<j))):=oZ fun _ _ _ _ _ _ _ q=>lt_int q
theorem iG:OpR X (compareOp .LtE) (rI0 fun i j=> .bl (decide (i<=j))):=oZ fun _ _ _ _ _ _ _ q=>le_int q
theorem tY:OpR X (compareOp .Gt) (rI0 fun i j=> .bl (decide (j<i))):=oZ fun _ _ _ _ _ _ _ q=>gt_int q
theorem yV:OpR X (compareOp .GtE) (rI0 fun i j=> .bl (decide (j<=i))):=oZ fun _ _ _ _ _ _ _ q=>ge_int q
theorem A4q:OpR X (compareOp .Is) (fun x y H Q=>y= .non/\Q (.bl (decide (x= .non))) H):=by
 intro pins s σ H x y v u Q I rx ry h
 obtain⟨rfl,q⟩:=h
 cases ry
 refine is_none_gen (cC I q ?_)
 cases x<;>first
  | (cases rx;rfl)
  | (obtain⟨t,rfl⟩:=rx;rfl)
theorem A39:OpR X (compareOp .IsNot) (fun x y H Q=>y= .non/\Q (.bl (!decide (x= .non))) H):=by
 intro pins s σ H x y v u Q I rx ry h
 obtain⟨rfl,q⟩:=h
 cases ry
 refine isnot_none_gen (cC I q ?_)
 cases x<;>first
  | (cases rx;rfl)
  | (obtain⟨t,rfl⟩:=rx;rfl)
theorem nomark (b:Expr){op:CmpOp}(h:op≠ .In:=by decide)(h2:op≠ .NotIn:=by decide):behindInMarks op b=false:=by
 have e1:(op==CmpOp.In)=false:=by cases op<;>first|rfl|exact absurd rfl h
 have e2:(op==CmpOp.NotIn)=false:=by cases op<;>first|rfl|exact absurd rfl h2
 cases b<;>simp [behindInMarks,e1,e2]
theorem jJ {op:CmpOp}{r:R2}(ho:OpR X (compareOp op) r)(ha:PE X a ta)(hb:PE X b tb)(hm:behindInMarks op b=false):PE X (.Compare a [op] [b] pos) (tOp r ta tb):=by
 intro pins s σ H Q I h
 exact wpAny_Compare1 (uL ha hb I h fun v u s2 x y H2 I2 rx ry q=>ho pins s2 σ H2 x y v u Q I2 rx ry q) hm
def yD (t:TE):TT:=fun σ H Q=>t σ H fun x H'=> ∃k,x= .bl k/\Q k H'
theorem bP {op:CmpOp}{r:R2}(ho:OpR X (compareOp op) r)(ha:PE X a ta)(hb:PE X b tb)(hm:behindInMarks op b=false):PT X (.Compare a [op] [b] pos) (yD (tOp r ta tb)):=by
 intro pins s σ H Q I h
 refine wpAny_isTrue_Compare1 (thn (ha pins s σ H _ I h) fun v s1 ⟨x,H1,I1,r1,q1⟩=>thn (hb pins s1 σ H1 _ I1 q1) fun u s2 ⟨y,H2,I2,r2,q2⟩=>
  thn (ho pins s2 σ H2 x y v u _ I2 r1 r2 q2) fun c s3 ⟨z,H3,I3,r3,k,e,q3⟩=> ?_) hm
 subst e
 cases r3
 exact wpAny_truthy_bool ⟨H3,I3,q3⟩
def zP (r r':R2)(ta tb tc:TE):TE:=fun σ H Q=>ta σ H fun x H1=>tb σ H1 fun y H2=>r x y H2 fun z H3=> ∃k,z= .bl k/\
 (if k=true then tc σ H3 fun w' H4=>r' y w' H4 Q else Q (.bl false) H3)
theorem sE {op op':CmpOp}{r r':R2}(ho:OpR X (compareOp op) r)(ho':OpR X (compareOp op') r')(ha:PE X a ta)(hb:PE X b tb)(hc:PE X c tc)
  (hm:lastMarks [op,op'] [b,c]=false:=by with_unfolding_all rfl):PE X (.Compare a [op,op'] [b,c] pos) (zP r r' ta tb tc):=by
 intro pins s σ H Q I h
 refine Compare_chain (thn (ha pins s σ H _ I h) fun v s1 ⟨x,H1,I1,r1,q1⟩=>chain_link (thn (hb pins s1 σ H1 _ I1 q1) fun u s2 ⟨y,H2,I2,r2,q2⟩=>
  thn (ho pins s2 σ H2 x y v u _ I2 r1 r2 q2) fun d s3 ⟨z,H3,I3,r3,k,e,q3⟩=> ?_)) hm
 subst e
 cases r3
 refine wpAny_truthy_bool ?_
 cases k with
 |false=>exact ite_ff ⟨.bl false,H3,I3,rfl,q3⟩
 |true=>exact ite_tt (chain_last (thn (hc pins s3 σ H3 _ I3 q3) fun w' s4 ⟨z',H4,I4,r4,q4⟩=>ho' pins s4 σ H4 y z' u w' Q I4 r2 r4 q4))
theorem A0k {op op':CmpOp}{r r':R2}(ho:OpR X (compareOp op) r)(ho':OpR X (compareOp op') r')(ha:PE X a ta)(hb:PE X b tb)(hc:PE X c tc)
  (hm:lastMarks [op,op'] [b,c]=false:=by with_unfolding_all rfl):PT X (.Compare a [op,op'] [b,c] pos) (yD (zP r r' ta tb tc)):=by
 intro pins s σ H Q I h
 refine isTrue_chain (thn (ha pins s σ H _ I h) fun v s1 ⟨x,H1,I1,r1,q1⟩=>test_link (thn (hb pins s1 σ H1 _ I1 q1) fun u s2 ⟨y,H2,I2,r2,q2⟩=>
  thn (ho pins s2 σ H2 x y v u _ I2 r1 r2 q2) fun d s3 ⟨z,H3,I3,r3,k,e,q3⟩=> ?_)) hm
 subst e
 cases r3
 refine wpAny_truthy_bool ?_
 cases k with
 |false=>
  obtain⟨k',e',q'⟩:=q3
  cases e'
  exact ite_ff ⟨H3,I3,q'⟩
 |true=>
  refine ite_tt (test_last (thn (hc pins s3 σ H3 _ I3 q3) fun w' s4 ⟨z',H4,I4,r4,q4⟩=>thn (ho' pins s4 σ H4 y z' u w' _ I4 r2 r4 q4) fun d' s5 ⟨z2,H5,I5,r5,k2,e2,q5⟩=> ?_))
  subst e2
  cases r5
  exact wpAny_truthy_bool ⟨H5,I5,q5⟩
theorem qW:(sizeLine:Nat)<2^63:=by rw [sizeLine_eq];decide
theorem eT {x:V}{us:List Value}(r:Vals [x] us):∃u,us=[u]/\RelV x u:=by
 cases r with
 |cons r1 r2=>cases r2;exact⟨_,rfl,r1⟩
theorem qZ {x y:V}{us:List Value}(r:Vals [x,y] us):∃u w',us=[u,w']/\RelV x u/\RelV y w':=by
 cases r with
 |cons r1 r2=>
  cases r2 with
  |cons r3 r4=>cases r4;exact⟨_,_,rfl,r1,r3⟩
theorem wL:dX X (.type "int") (fun xs H Q=>(∃i,xs=[.int i]/\Q (.int i) H)\/ ∃k,xs=[.bl k]/\Q (.int (if k then 1 else 0)) H):=by
 intro pins s σ H xs us Q I r h
 rcases h with⟨i,rfl,q⟩| ⟨k,rfl,q⟩
 ·obtain⟨u,rfl,t,rfl⟩:=eT r
  exact call_int_int ⟨.int i,H,I,⟨_,rfl⟩,q⟩
 ·obtain⟨u,rfl,r1⟩:=eT r
  cases r1
  exact call_int_bool ⟨.int (if k then 1 else 0),H,I.tok _,⟨_,rfl⟩,q⟩
end
structure ObjM (h:Heap)(x dx C:Addr)(mA:Str->Option Value):Prop where
 obj:h.get? x=some (W.instObj C dx)
 ns:h.Ns1 dx mA
 ne:dx≠x
theorem A0c {h:Heap}{dx:Addr}{mA:Str->Option Value}(n:h.Ns1 dx mA):∃od,h.get? dx=some od/\∀name,W.lookIn name od=some (mA name):=by
 obtain⟨o,es,ep,ho,hd,hk,_,hm⟩:=n
 refine⟨o,ho,fun name=> ?_⟩
 have e:=hm name
 unfold nsFind findBy at e
 rw [←Array.find?_toList]at e
 unfold W.lookIn
 rw [hd]
 dsimp only
 split
 ·rename_i y q
  rw [q]at e
  exact congrArg some e
 ·rename_i q
  rw [q]at e
  have a:es.toList.any (·.refKey)=false:=by
   rw [List.any_eq_false]
   intro y hy
   obtain⟨z,t,hkey⟩:=hk y (Array.mem_toList_iff.mp hy)
   simp [DictEntry.refKey,hkey]
  have a':¬es.toList.any (·.refKey)=true:=by rw [a];exact Bool.false_ne_true
  rw [if_neg a']
  exact congrArg some e
theorem ObjM.look {h:Heap}{x dx C:Addr}{mA:Str->Option Value}(I:ObjM h x dx C mA):∃od,W.InstAt h x (W.instObj C dx) C (some od)/\∀name,W.lookIn name od=some (mA name):=
 let ⟨od,ho,hl⟩:=A0c I.ns
 ⟨od,⟨I.obj,rfl,rfl,ho⟩,hl⟩
section
variable {prog:Program}{w:World}{A:Around}{E:Value->Shared->Prop}{s:Shared}{K:W.Frag}{x dx C f:Addr}{mA:Str->Option Value}{name:Str}{v:Value}
end
def cT (f:Str)(v:V):List (Str×V)->List (Str×V)
 | []=> [(f,v)]
 | (g,x)::r=>if g=f then(g,v)::r else(g,x)::cT f v r
theorem zV (f g:Str)(v:V):∀fs:List (Str×V),(cT f v fs).lookup g=if g=f then some v else fs.lookup g
 | []=>by
  show List.lookup g [(f,v)]=_
  by_cases h:g=f
  ·have hb:(g==f)=true:=beq_iff_eq.mpr h
   simp only [List.lookup,hb,if_pos h]
  ·have hb:(g==f)=false:=beq_eq_false_iff_ne.mpr h
   simp only [List.lookup,hb,if_neg h]
 | (k,x)::r=>by
  have ih:=zV f g v r
  rw [show cT f v ((k,x)::r)=(if k=f then(k,v)::r else(k,x)::cT f v r)from rfl]
  by_cases hk:k=f
  ·rw [if_pos hk]
   by_cases h:g=k
   ·have hb:(g==k)=true:=beq_iff_eq.mpr h
    simp only [List.lookup,hb,if_pos (h.trans hk)]
   ·have hb:(g==k)=false:=beq_eq_false_iff_ne.mpr h
    simp only [List.lookup,hb,if_neg (fun e:g=f=>h (e.trans hk.symm))]
  ·rw [if_neg hk]
   by_cases h:g=k
   ·have hb:(g==k)=true:=beq_iff_eq.mpr h
    simp only [List.lookup,hb,if_neg (fun e:g=f=>hk (h.symm.trans e))]
   ·have hb:(g==k)=false:=beq_eq_false_iff_ne.mpr h
    simp only [List.lookup,hb]
    exact ih
theorem uS (f:Str)(v:V):∀fs:List (Str×V),f∈(cT f v fs).map (·.1)/\∀g,g∈fs.map (·.1)->g∈(cT f v fs).map (·.1)
 | []=> ⟨by simp [cT],fun g h=>by simp at h⟩
 | (k,x)::r=>by
  obtain⟨i1,i2⟩:=uS f v r
  rw [show cT f v ((k,x)::r)=(if k=f then(k,v)::r else(k,x)::cT f v r)from rfl]
  by_cases hk:k=f
  ·rw [if_pos hk]
   subst hk
   exact⟨by simp,fun g h=>by simpa using h⟩
  ·rw [if_neg hk]
   refine⟨?_,fun g h=> ?_⟩
   ·rw [List.map_cons]
    exact List.mem_cons_of_mem _ i1
   ·rw [List.map_cons]at h⊢
    rcases List.mem_cons.mp h with e|e
    ·exact List.mem_cons.mpr (.inl e)
    ·exact List.mem_cons_of_mem _ (i2 g e)
theorem RelO.some_of {v:V}{o:Option Value}(r:RelO (some v) o):∃u,o=some u/\RelV v u:=by
 cases o with
 |none=>exact(show False from r).elim
 |some u=>exact⟨u,rfl,r⟩
theorem A3v {v:V}{u:Value}(r:RelV v u):W.handedIn u=true:=by
 cases v with
 |non=>cases (show u=Value.none from r);rfl
 |bl b=>cases (show u=Value.bool b from r);rfl
 |int i=>obtain⟨t,e⟩:=(show∃t,u=Value.int i t from r);cases e;rfl
 |str x=>obtain⟨t,e⟩:=(show∃t,u=Value.str x t from r);cases e;rfl
 |byt b=>obtain⟨t,e⟩:=(show∃t,u=Value.bytes b t from r);cases e;rfl
 |flt b=>obtain⟨t,e⟩:=(show∃t,u=Value.float b t from r);cases e;rfl
 |ref a=>cases (show u=Value.ref a from r);rfl
 |ty n=>cases (show u=Value.type n from r);rfl
section
variable {P:Program}{w:World}{H H':Hp}{h h':Heap}{a C dx:Addr}{fs fs':List (Str×V)}
theorem A48 (hok:HOk P w H h)(e:H a=some (.ins C dx fs)):∃mA,ObjM h a dx C mA/\(∀f,RelO (fs.lookup f) (mA f))/\PySem.Within mA (fs.map (·.1))/\fs.length<=1000/\H dx=some (.own a):=by
 obtain⟨d,z,ne,ob,mA,n,r,q⟩:=(show ObjOk P w H h a (.ins C dx fs)from hok a _ e)
 exact⟨mA,⟨ob,n,ne⟩,r,q,z,d⟩
end
structure Cls (K:W.Frag)(C:Addr):Prop where
 pg:W.plainGet K C Str.empty=true
 hd:W.hasDictIn K C=true
 po:W.plainOver K C=true
 sa:W.findIn K (.ref C) "__setattr__" =some (some (.builtin "object.__setattr__"))
theorem Cls.get {K:W.Frag}{C:Addr}(c:Cls K C)(f:Str):W.plainGet K C f=true:=c.pg
def NoAttr (K:W.Frag)(C:Addr)(f:Str):Prop:=W.findIn K (.ref C) f=some none
theorem NoAttr.taker {K:W.Frag}{C:Addr}{f:Str}(n:NoAttr K C f):W.takerIn K C f=some none:=by
 unfold W.takerIn
 rw [show W.findIn K (.ref C) f=some none from n]
 rfl
section
variable {X:Cx}{pins:List (Addr×Obj)}{σ:St}{H:Hp}{s:Shared}{a C dx:Addr}{fs:List (Str×V)}{f:Str}{v:V}{A:Around}{E:Value->Shared->Prop}
theorem A2s {prog:Program}{w:World}{env:Env}{e:Expr}{f:Str}{pos:Pos}{s:Shared}{Q:Value->Shared->Prop}(hb:attributeBase e f env (eval e env)=eval e env)
  (h:wpAny (model prog w) A (eval e env) (fun o s₁=>wpAny (model prog w) A (getAttr o f true) Q E s₁) E s):wpAny (model prog w) A (eval (.Attribute e f pos) env) Q E s:=
 Attribute_any_ h (by rw [arm_eval_Attribute,hb])
end
section
variable {X:Cx}{o e value:Expr}{f:Str}{pos pos' tpos:Pos}{ta tv:TE}
end
section
variable {X:Cx}{pins:List (Addr×Obj)}{σ:St}{H:Hp}{s:Shared}{A:Around}{E:Value->Shared->Prop}{Q:Value->Shared->Prop}{c:Value}{b:Bool}
inductive TyOf (K:W.Frag) (H:Hp):V->Value->Prop where
 |non:TyOf K H .non (.type "NoneType")
 |bl (x:Bool):TyOf K H (.bl x) (.type "bool")
 |int (i:Int):TyOf K H (.int i) (.type "int")
 |str (x:Str):TyOf K H (.str x) (.type "str")
 |flt (x:UInt64):TyOf K H (.flt x) (.type "float")
 |lst {a:Addr} {xs:List V} (e:H a=some (.lst xs)):TyOf K H (.ref a) (.type "list")
 |frz {a:Addr} {o:Obj} {xs:List V} (e:H a=some (.frz o (.lst xs))):TyOf K H (.ref a) (.type "list")
 |tup {a:Addr} {xs:List V} (e:H a=some (.tup xs)):TyOf K H (.ref a) (.type "tuple")
 |dK {a:Addr} {kvs:List (Key×V)} (e:H a=some (.dK kvs)):TyOf K H (.ref a) (.type "dict")
 |dT {a:Addr} {kvs:List (List Key×V)} (e:H a=some (.dT kvs)):TyOf K H (.ref a) (.type "dict")
 |ins {a C dx:Addr} {fs:List (Str×V)} (e:H a=some (.ins C dx fs)) (cl:Cls K C) (ha:W.findIn K (.ref C) "__class__" =some (some (.builtin "object.__class__")))
   (hn:W.specialIn K (.builtin "object.__class__") "__get__" =some (some (.builtin "getset_descriptor.__get__"))) (htk:W.takesIn K (.builtin "object.__class__")=some true)
   (hm:W.mroIn K C (.type "object")=some true):TyOf K H (.ref a) (.ref C)
theorem A6k {x:V}{u t:Value}(I:Inv X pins σ H s)(rx:RelV x u)(ty:TyOf X.K H x t)(e:W.kitOne X.K t c=some b)(h:∀tk,Q (.bool b) {s with toks:=tk}):
  wpAny (model X.prog X.w) A (call (.builtin "isinstance") [u,c]) Q E s:=by
 cases ty with
 |non=>cases (show u=Value.none from rx);exact W.kia_one W.kitx_none I.kIn True.intro e (fun z=>nomatch z) h
 |bl y=>cases (show u=Value.bool y from rx);exact W.kia_one W.kitx_bool I.kIn True.intro e (fun z=>nomatch z) h
 |int i=>obtain⟨t,q⟩:=(show∃t,u=Value.int i t from rx);cases q;exact W.kia_one W.kitx_int I.kIn True.intro e (fun z=>nomatch z) h
 |str y=>obtain⟨t,q⟩:=(show∃t,u=Value.str y t from rx);cases q;exact W.kia_one W.kitx_str I.kIn True.intro e (fun z=>nomatch z) h
 |flt y=>obtain⟨t,q⟩:=(show∃t,u=Value.float y t from rx);cases q;exact W.kia_one W.kitx_float I.kIn True.intro e (fun z=>nomatch z) h
 | @lst a xs ea=>
  cases (show u=Value.ref a from rx)
  obtain⟨_,_,n,_,h1⟩:=(show ObjOk X.prog X.w H s.heap a (.lst xs)from I.hok a _ ea)
  exact W.kia_one W.kitx_list I.kIn ⟨_,h1,rfl⟩ e (fun z=>nomatch z) h
 | @frz a ob xs ea=>
  cases (show u=Value.ref a from rx)
  obtain⟨_,_,_,n,_,h1⟩:=(show ObjOk X.prog X.w H s.heap a (.frz ob (.lst xs))from I.hok a _ ea)
  exact W.kia_one W.kitx_list I.kIn ⟨_,h1,rfl⟩ e (fun z=>nomatch z) h
 | @tup a xs ea=>
  cases (show u=Value.ref a from rx)
  obtain⟨_,_,_,p⟩:=(show ObjOk X.prog X.w H s.heap a (.tup xs)from I.hok a _ ea)
  obtain⟨o,h1,h2,_⟩:=p
  exact W.kia_one W.kitx_tuple I.kIn ⟨o,h1,h2⟩ e (fun z=>nomatch z) h
 | @dK a kvs ea=>
  cases (show u=Value.ref a from rx)
  obtain⟨_,_,vs,_,p⟩:=(show ObjOk X.prog X.w H s.heap a (.dK kvs)from I.hok a _ ea)
  obtain⟨o,es,ep,h1,h2,_⟩:=p
  exact W.kia_one W.kitx_dict I.kIn ⟨o,h1,h2.1⟩ e (fun z=>nomatch z) h
 | @dT a kvs ea=>
  cases (show u=Value.ref a from rx)
  obtain⟨_,_,xs,_,o,es,ep,h1,h2,_⟩:=(show ObjOk X.prog X.w H s.heap a (.dT kvs)from I.hok a _ ea)
  exact W.kia_one W.kitx_dict I.kIn ⟨o,h1,h2.1⟩ e (fun z=>nomatch z) h
 | @ins a C dx fs ea cl ha hn htk hm=>
  cases (show u=Value.ref a from rx)
  obtain⟨mA,O,_⟩:=A48 I.hok ea
  obtain⟨od,J,_⟩:=O.look
  exact W.kia_one (W.kitx_own (cl.get _) cl.hd ha hn htk hm) I.kIn J e (fun z=>nomatch z) h
end
structure Room (k:Nat)(A:Around):Prop where
 hd:A.handled=none
 dp:A.depth+3*k+5<recursionLimit
 un:A.units+16*k+200<cLine
 gd:A.guards=some []
theorem Room.mono {j k:Nat}{A:Around}(r:Room k A)(h:j<=k):Room j A:=⟨r.hd,by have:=r.dp;omega,by have:=r.un;omega,r.gd⟩
theorem Room.deeper {k:Nat}{A:Around}(r:Room (k+1) A)(env:Env):Room k (A.deeper env):=
 ⟨r.hd,by have:=r.dp;show A.depth+1+3*k+5<_;omega,by have:=r.un;show A.units+3+16*k+200<_;omega,r.gd⟩
theorem B0k {A:Around}{C:Addr}{us:List Value}{kw:List (Str×Value)}:(A.under (.builtin "type.__call__" ⟨.ref C::us,kw⟩)).depth=A.depth+1:=by
 first|rfl|simp [Around.under,Code.weight,Code.isCreation,Code.isGuard,Code.isCaller,Code.frames,Code.isFrame,guardIds]
theorem A82 {A:Around}{C:Addr}{us:List Value}{kw:List (Str×Value)}:(A.under (.builtin "type.__call__" ⟨.ref C::us,kw⟩)).units=A.units+1:=by
 first|rfl|simp [Around.under,Code.cUnits,Code.frames,Code.isFrame]
theorem A4c {A:Around}{C:Addr}{us:List Value}{kw:List (Str×Value)}:(A.under (.builtin "type.__call__" ⟨.ref C::us,kw⟩)).guards=A.guards:=by
 have h:Code.guards (.builtin "type.__call__" ⟨.ref C::us,kw⟩)=[]:=by first|rfl|simp [Code.guards,Code.isGuard,guardIds]
 unfold Around.under
 dsimp only
 rw [h];cases A.guards<;>rfl
theorem Room.make {k:Nat}{A:Around}(r:Room (k+1) A)(C:Addr)(us:List Value)(kw:List (Str×Value)):Room k (A.under (.builtin "type.__call__" ⟨.ref C::us,kw⟩)):=
 ⟨r.hd,by have:=r.dp;rw [B0k];omega,by have:=r.un;rw [A82];omega,by rw [A4c];exact r.gd⟩
theorem Room.depth {k:Nat}{A:Around}(r:Room k A):A.depth<recursionLimit:=by have:=r.dp;omega
theorem Room.units {k:Nat}{A:Around}(r:Room k A):A.units+64<cLine:=by have:=r.un;omega
def lP:TA:=fun _ H Q=>Q [] H
def cF (ta:TE)(tr:TA):TA:=fun σ H Q=>ta σ H fun x H1=>tr σ H1 fun xs H2=>Q (x::xs) H2
section
variable {X:Cx}{e:Expr}{es:List Expr}{te:TE}{t:TA}{pos:Pos}
theorem aF:PA X [] lP:=fun _ _ _ _ H Q I h=>Calls.spliced_nil ⟨[],H,I,.nil,h⟩
theorem bD (ha:PE X e te)(hr:PA X es t)(hs:starEach (e::es) X.env=(false,eval e X.env)::starEach es X.env:=by rfl):PA X (e::es) (cF te t):=by
 intro pos pins s σ H Q I h
 rw [hs]
 show wpAny _ _ (spliced ((false,eval e X.env)::backTo pos (starEach es X.env))) _ _ s
 refine Calls.spliced_cons (thn (ha pins s σ H _ I h) fun u s1 ⟨x,H1,I1,r1,q1⟩=> ?_)
 exact thn (hr pos pins s1 σ H1 _ I1 q1) fun us s2 ⟨xs,H2,I2,r2,q2⟩=> ⟨x::xs,H2,I2,.cons r1 r2,q2⟩
def sQ (t:TA):TE:=fun σ H Q=>t σ H fun xs H1=>xs.length<=sizeLine/\∀p,H1 p=none->Q (.ref p) (upd H1 p (.tup xs))
def sI (t:TA):TE:=fun σ H Q=>t σ H fun xs H1=>xs.length<=sizeLine/\∀p,H1 p=none->Q (.ref p) (upd H1 p (.lst xs))
theorem dF {x1}(h:PA X es t):PE X (.Tuple es x1 pos) (sQ t):=by
 intro pins s σ H Q I hq
 refine wpAny_Tuple_spliced (thn (h pos pins s σ H _ I hq) fun us s1 ⟨xs,H1,I1,r,z,q⟩=> ⟨by rw [←r.length];exact z,?_⟩)
 have hf:H1 s1.heap.objs.size=none:=I1.hok.fresh (Nat.le_refl _)
 refine⟨.ref s1.heap.objs.size,upd H1 s1.heap.objs.size (.tup xs),I1.laid (t':=s1.toks) (fun b u e=>Heap.get?_push_of_some _ e) (Nat.le_refl _) ?_,rfl,q _ hf⟩
 exact⟨z,us,r,⟨_,Heap.get?_push_size _ rfl,rfl,_,rfl⟩⟩
theorem fC (h:PA X es t):PE X (.List es pos) (sI t):=by
 intro pins s σ H Q I hq
 refine wpAny_List_spliced (thn (h pos pins s σ H _ I hq) fun us s1 ⟨xs,H1,I1,r,z,q⟩=> ⟨by rw [←r.length];exact z,?_⟩)
 have hf:H1 s1.heap.objs.size=none:=I1.hok.fresh (Nat.le_refl _)
 refine⟨.ref s1.heap.objs.size,upd H1 s1.heap.objs.size (.lst xs),I1.laid (t':=s1.toks) (fun b u e=>Heap.get?_push_of_some _ e) (Nat.le_refl _) ?_,rfl,q _ hf⟩
 exact⟨z,us,0,r,Heap.get?_push_size _ rfl⟩
end
abbrev Sp:=List V->Hp->VK->XK->Prop
abbrev CXT:=List Env->Hp->Shared->XK->Value->Shared->Prop
structure Env0 (P:Program)(w:World)(K:W.Frag)(mg:Str->Option Value)(base:Heap)(A:Around)(outer:List Env)(s:Shared)(H:Hp):Prop where
 frames:A.frames=some outer
 mod:Mod K mg base
 bs:∀b o,base.get? b=some o->s.heap.get? b=some o/\H b=none
 bsz:base.objs.size<=s.heap.objs.size
 funs:s.heap.FunFrames base outer
 frf:∀b∈frs outer,H b=none
 hok:HOk P w H s.heap
 bare:AllBare s.gens
def CE (outer:List Env)(P:Program)(w:World)(H:Hp)(s:Shared)(Q:VK)(u:Value)(s':Shared):Prop:=
 ∃v H',s'.os=s.os/\AllBare s'.gens/\Un (frs outer) [] H H' s.heap s'.heap/\HOk P w H' s'.heap/\RelV v u/\Q v H'
def CR (CX:CXT)(outer:List Env)(P:Program)(w:World)(H:Hp)(s:Shared)(Q:VK)(E:XK)(r:Result)(s':Shared):Prop:=
 match r with
 | .ok (.ret u)=>CE outer P w H s Q u s'
 | .ok _=>False
 | .error e=>CX outer H s E e s'
structure aR (P:Program)(w:World)(K:W.Frag)(mg:Str->Option Value)(base:Heap)(CX:CXT)(k:Nat)(f:Addr)(fd:FuncData)(ps:List Str)(sp:Sp):Prop where
 len:∀vs H Q E,sp vs H Q E->vs.length=ps.length
 run:∀(A:Around)(outer:List Env)(s:Shared)(H:Hp)(args:Args)(us:List Value)(vs:List V)(Q:VK)(E:XK),Room k A->Env0 P w K mg base A outer s H->BindsTo s fd args (ps.zip us)->Vals vs us->sp vs H Q E->
  codeAny (model P w) A (.call (.ref f) args) (CR CX outer P w H s Q E) s
theorem Env0.make {P:Program}{w:World}{K:W.Frag}{mg:Str->Option Value}{base:Heap}{A:Around}{outer:List Env}{s:Shared}{H:Hp}(e:Env0 P w K mg base A outer s H)(C:Addr)(us:List Value)(kw:List (Str×Value)):
  Env0 P w K mg base (A.under (.builtin "type.__call__" ⟨.ref C::us,kw⟩)) outer s H:=⟨by first|exact e.frames| (simpa [Around.under,Code.envs,Code.isFrame,pushEnvs]using e.frames),e.mod,e.bs,e.bsz,e.funs,e.frf,e.hok,e.bare⟩
section
variable {X:Cx}{pins:List (Addr×Obj)}{σ:St}{H:Hp}{s s':Shared}
theorem Inv.env0 (I:Inv X pins σ H s):Env0 X.prog X.w X.K X.mg X.base X.A X.stack s H:=
 ⟨I.ok.frames,I.ok.mod,I.bs,Nat.le_trans I.ok.bsz I.sz,I.stack,I.stkFree,I.hok,I.bare⟩
theorem Inv.after {Q:VK}{u:Value}(I:Inv X pins σ H s)(h:CE X.stack X.prog X.w H s Q u s'):EP X pins σ Q u s':=by
 obtain⟨v,H',os,bare,un,hok,r,q⟩:=h
 obtain⟨hh,g,d,t,os'⟩:=s'
 obtain rfl:os'=s.os:=os
 exact⟨v,H',I.call (h':=hh) (g':=g) (d':=d) (t':=t) (ch:=[]) un hok bare (fun b z=>absurd z (by simp)),r,q⟩
end
def sO (sp:Sp)(dvs:List V)(E:XK)(t:TA):TE:=fun σ H Q=>t σ H fun vs H1=>sp (vs++dvs) H1 Q E
def Binds (K:W.Frag)(fd:FuncData)(ps:List Str)(ds:List Value):Prop:=
 ∀(s:Shared)(us:List Value),K.In s.heap->(us++ds).length=ps.length->BindsTo s fd ⟨us,[]⟩ (ps.zip (us++ds))
theorem Binds.all {K:W.Frag}{fd:FuncData}{ps:List Str}(h:∀us:List Value,us.length=ps.length->bindArgs fd ⟨us,[]⟩=pure (ps.zip us)):Binds K fd ps []:=fun s us _ hl=>by
 rw [List.append_nil]at hl⊢
 exact .of_eq (h us hl)
def iB (CX:CXT)(X:Cx)(E:XK):Prop:=∀(pins:List (Addr×Obj))(σ:St)(H:Hp)(s:Shared)(e:Value)(s':Shared),Inv X pins σ H s->CX X.stack H s E e s'->X.xe e s'
section
variable {X:Cx}{CX:CXT}{k:Nat}{f C:Addr}{fd:FuncData}{ps:List Str}{sp:Sp}{dvs:List V}{ds:List Value}{E:XK}{x m:Str}{p pos apos:Pos}{e o:Expr}{es:List Expr}{ta:TE}{t:TA}
theorem A03 {pins:List (Addr×Obj)}{σ:St}{H:Hp}{s:Shared}{Q:VK}{us:List Value}{vs:List V}(F:aR X.prog X.w X.K X.mg X.base CX k f fd ps sp)(hr:Room k X.A)(hb:Binds X.K fd ps ds)(hd:Vals dvs ds)(hx:iB CX X E)
  (I:Inv X pins σ H s)(r:Vals vs us)(h:sp (vs++dvs) H Q E):wpAny (model X.prog X.w) X.A (call (.ref f) us) (EP X pins σ Q) X.xe s:=by
 have r2:Vals (vs++dvs) (us++ds):=r.append hd
 have hl:(us++ds).length=ps.length:=by rw [←r2.length];exact F.len _ _ _ _ h
 refine wpAny_call (codeAny_mono (F.run X.A X.stack s H ⟨us,[]⟩ (us++ds) (vs++dvs) Q E hr I.env0 (hb s us I.kIn hl) r2 h) fun r s' hq=> ?_)
 cases r with
 |error e=>exact hx pins σ H s e s' I hq
 |ok fl=>
  cases fl with
  |ret u=>exact I.after hq
  |next=>exact False.elim hq
  |brk=>exact False.elim hq
  |cont=>exact False.elim hq
theorem aX (F:aR X.prog X.w X.K X.mg X.base CX k f fd ps sp)(hr:Room k X.A)(hg:Gl X x)(hm:X.mg x=some (.ref f))(hk:W.keepIn X.K (.ref f)=true)(hb:Binds X.K fd ps ds)(hd:Vals dvs ds)(hx:iB CX X E)
  (ha:PA X (e::es) t)(hdb:(x==("__debug__":Str))=false:=by decide)(he:starEach (e::es) X.env=(false,eval e X.env)::starEach es X.env:=by rfl)(hpl:(backTo pos (starEach es X.env)).any (·.1)=false:=by rfl):
  PE X (.Call (.Name x p) (e::es) [] pos) (sO sp dvs E t):=by
 intro pins s σ H Q I h
 refine wpAny_Call_Name_kw (jV I hg hm ?_ hdb)
 refine W.callWith_K (h₀:=X.base) I.ok.mod.kin hk (thn (ha pos pins s σ H _ I h) fun us s1 ⟨vs,H1,I1,r,q⟩=> ⟨I1.kIn,?_⟩) he hpl
 exact A03 F hr hb hd hx I1 r q
structure Mk (K:W.Frag)(C f:Addr):Prop where
 makes:W.makesIn K C=true
 init:W.findIn K (.ref C) "__init__" =some (some (.ref f))
 fn:W.isFn K (.ref f)=true
 kp:W.keepIn K (.ref C)=true
end
section
variable {X:Cx}{CX:CXT}{k:Nat}{f C:Addr}{fd:FuncData}{ps ks:List Str}{sp:Sp}{E:XK}{x m:Str}{p pos apos kpos:Pos}{e o:Expr}{es:List Expr}{kws:List Keyword}{te ta:TE}{t tk:TA}{nm:Option Str}
variable {g:List Value->List Value->List Value}{gV:List V->List V->List V}
end
structure bH (N P:List Str)(sc:Scope):Prop where
 kind:sc.kind= .function
 co:sc.isCoroutine=false
 gen:sc.isGenerator=false
 nd:N.Nodup
 pre:N.take P.length=P
 par:∀x∈P,sc.names.lookup x=some .local\/sc.names.lookup x=some .cell
 nofree:∀y∈sc.names,y.2≠ .free
theorem zN {kindOf:Str->Option NameKind}{x:Str}:∀{binds:List (Str×Value)}{m:Str->Option Value},(∀v,(x,v)∉binds)->bindL kindOf binds m x=m x
 | [],_,_=>rfl
 | (n,v)::r,m,h=>by
  unfold bindL
  rw [zN fun w hw=>h w (List.mem_cons_of_mem _ hw)]
  split
  ·have:x≠n:=by rintro rfl;exact h v List.mem_cons_self
   simp [this]
  ·rfl
theorem A0u {kindOf:Str->Option NameKind}{x:Str}:∀{binds:List (Str×Value)}{m:Str->Option Value},(∀v,(x,v)∉binds)->bindC kindOf binds m x=m x
 | [],_,_=>rfl
 | (n,v)::r,m,h=>by
  unfold bindC
  rw [A0u fun w hw=>h w (List.mem_cons_of_mem _ hw)]
  split
  ·rfl
  ·have:x≠n:=by rintro rfl;exact h v List.mem_cons_self
   simp [this]
theorem yR {kindOf:Str->Option NameKind}{x:Str}{v:Value}:∀{P:List Str}{vs:List Value}{i:Nat}{m:Str->Option Value},P.Nodup->P[i]?=some x->vs[i]?=some v->kindOf x=some .local->
  bindL kindOf (P.zip vs) m x=some v
 | [],_,_,_,_,h,_,_=>by simp at h
 |_::_,[],_,_,_,_,h,_=>by simp at h
 |p::P,w::vs,0,m,nd,h1,h2,hk=>by
  simp at h1 h2;subst h1;subst h2
  show bindL kindOf ((p,w)::P.zip vs) m p=_
  unfold bindL
  rw [zN fun v hv=>(List.nodup_cons.mp nd).1 (List.of_mem_zip hv).1,if_pos hk]
  simp
 |p::P,w::vs,i+1,m,nd,h1,h2,hk=>by
  show bindL kindOf ((p,w)::P.zip vs) m x=_
  unfold bindL
  exact yR (i:=i) (List.nodup_cons.mp nd).2 (by simpa using h1) (by simpa using h2) hk
theorem A0y {kindOf:Str->Option NameKind}{x:Str}{v:Value}:∀{P:List Str}{vs:List Value}{i:Nat}{m:Str->Option Value},P.Nodup->P[i]?=some x->vs[i]?=some v->kindOf x≠some .local->
  bindC kindOf (P.zip vs) m x=some v
 | [],_,_,_,_,h,_,_=>by simp at h
 |_::_,[],_,_,_,_,h,_=>by simp at h
 |p::P,w::vs,0,m,nd,h1,h2,hk=>by
  simp at h1 h2;subst h1;subst h2
  show bindC kindOf ((p,w)::P.zip vs) m p=_
  unfold bindC
  rw [A0u fun v hv=>(List.nodup_cons.mp nd).1 (List.of_mem_zip hv).1,if_neg hk]
  simp
 |p::P,w::vs,i+1,m,nd,h1,h2,hk=>by
  show bindC kindOf ((p,w)::P.zip vs) m x=_
  unfold bindC
  exact A0y (i:=i) (List.nodup_cons.mp nd).2 (by simpa using h1) (by simpa using h2) hk
def start (N:List Str)(vs:List V):St:=vs.map some++List.replicate (N.length - vs.length) none
def cN (CX:CXT)(P:Program)(w:World)(K:W.Frag)(mg:Str->Option Value)(base:Heap)(N:List Str)(qual:Str)(scope:Scope)(f:Addr)(cd:Value)(A:Around)(outer:List Env)(s:Shared)(H:Hp)(E:XK):Cx where
 prog:=P
 w:=w
 K:=K
 mg:=mg
 base:=base
 A:=A.deeper (envOfC qual scope s.heap.objs.size f cd)
 N:=N
 s₀:=s
 H₀:=H
 env:=envOfC qual scope s.heap.objs.size f cd
 outer:=outer
 stack:=envOfC qual scope s.heap.objs.size f cd::outer
 ex:=[]
 calm:=true
 fn:=fun _=>true
 pn:=[]
 xe:=fun e s'=>wpAny (model P w) (A.deeper (envOfC qual scope s.heap.objs.size f cd)) (leaving (envOfC qual scope s.heap.objs.size f cd) e) (fun _ s''=>CX outer H s E e s'') (fun e' s''=>CX outer H s E e' s'') s'
theorem A0q {sc:Scope}{n:Nat}{x:Str}(h:sc.names.lookup x=some .cell):∃c,(cellsFrom n sc.names []).lookup x=some c:=by
 have q:=W.cellsFrom_some sc.names n [] (.inl h)
 exact Option.isSome_iff_exists.mp q
theorem vV {CX:CXT}{P:Program}{w:World}{K:W.Frag}{mg:Str->Option Value}{base:Heap}{N ps:List Str}{qual:Str}{scope:Scope}{f:Addr}{cd:Value}{A:Around}{outer:List Env}{s s1:Shared}{H:Hp}{E:XK}{us:List Value}{vs:List V}
  (S:bH N ps scope)(hd:A.handled=none)(e0:Env0 P w K mg base A outer s H)(hl:vs.length=ps.length)(r:Vals vs us)
  (x:InCallC s s.heap.objs.size (bindL (envOfC qual scope s.heap.objs.size f cd).kindOf (ps.zip us) fun _=>none) (cellsFrom (s.heap.objs.size+1) scope.names []) (bindC (envOfC qual scope s.heap.objs.size f cd).kindOf (ps.zip us) fun _=>none) s1):
  Inv (cN CX P w K mg base N qual scope f cd A outer s H E) [] (start N vs) H s1:=by
 have hpl:ps.length<=N.length:=by have:=congrArg List.length S.pre;rw [List.length_take]at this;omega
 obtain⟨h1,tk,rfl,hk⟩:=x.done
 have noA:∀b:Addr,b∉(cN CX P w K mg base N qual scope f cd A outer s H E).ex:=fun b z=>absurd (show b∈([]:List Addr)from z) (by simp)
 refine⟨⟨e0.mod,S.kind,rfl,rfl,Nat.le_refl _,fun y z c h1 h2=> ?_,fun y hy=> ?_,fun y c _ h=> ?_,fun _=>hd,Around.frames_deeper e0.frames,.inr ⟨rfl,rfl⟩,fun b z=>absurd z (noA b),e0.bs,e0.bsz,fun b _ _=>noA b,fun b z=>absurd z (noA b),e0.funs,e0.frf⟩,
  rfl,e0.bare,Un.kept hk,⟨_,x.toInCall.ns,fun i y v h1 h2 h3=> ?_⟩,fun y c h=> ⟨_,x.cell y c h⟩,e0.hok.fresh (Nat.le_refl _),fun y c h=> ?_,fun p hp=>absurd (show p∈([]:List (Addr×Obj))from hp) (by simp),e0.hok.kept hk,?_⟩
 ·exact name_of_addr x.apart (PySem.mem_of_lookup h1) (PySem.mem_of_lookup h2)
 ·have hy:scope.names.lookup y=some .cell\/scope.names.lookup y=some .free:=hy
  rcases hy with hy|hy
  ·exact A0q hy
  ·exact absurd rfl (S.nofree _ (PySem.mem_of_lookup hy))
 ·exact Nat.le_of_lt (x.above y c (PySem.mem_of_lookup h))
 ·have hi:i<vs.length:=by
   unfold start at h2
   by_cases hi:i<vs.length
   ·exact hi
   ·rw [List.getElem?_append_right (by simpa using hi)]at h2
    rw [List.getElem?_replicate]at h2
    split at h2<;>cases h2
  have ha:vs[i]?=some v:=by
   unfold start at h2
   rw [List.getElem?_append_left (by simpa using hi),List.getElem?_map]at h2
   cases e:vs[i]? with
   |none=>rw [e]at h2;cases h2
   |some a=>rw [e]at h2;cases h2;rfl
  obtain⟨u,hu,rv⟩:=r.get ha
  have hp:ps[i]?=some y:=by
   rw [←S.pre,List.getElem?_take_of_lt (by omega)];exact h1
  have ndP:ps.Nodup:=by rw [←S.pre];exact S.nd.sublist (List.take_sublist _ _)
  refine⟨u,rv,?_⟩
  rcases S.par y (List.mem_of_getElem? hp)with k|k
  ·exact .inl ⟨k,yR ndP hp hu k⟩
  ·obtain⟨c,e⟩:=A0q (n:=s.heap.objs.size+1) k
   refine .inr ⟨.inl k,c,e,?_⟩
   have q:=x.cell y c e
   rw [A0y ndP hp hu (by show scope.names.lookup y≠_;rw [k];decide)]at q
   exact q
 ·exact e0.hok.fresh (Nat.le_of_lt (x.above y c (PySem.mem_of_lookup h)))
 ·unfold start
  show _=N.length
  rw [List.length_append,List.length_map,List.length_replicate]
  omega
theorem uW {CX:CXT}{P:Program}{w:World}{K:W.Frag}{mg:Str->Option Value}{base:Heap}{k:Nat}{f:Addr}{name qual:Str}{params:Arguments}{body:List Stmt}{scope:Scope}{dV kV doc pm cdv ct oc:Value}{an od:Option Addr}
  {osl:Array (Option Value)}{N ps:List Str}{sp:Sp}(lk:K.lookup f=some ⟨oc,od,.func (W.fnOf name qual params body scope dV kV doc pm an cdv ct),osl⟩)(hcd:W.codeIn K cdv qual=true)(S:bH N ps scope)
  (len:∀vs H Q E,sp vs H Q E->vs.length=ps.length)
  (hbody:∀(A:Around)(outer:List Env)(s:Shared)(H:Hp)(vs:List V)(Q:VK)(E:XK),Room k (A.deeper (envOfC qual scope s.heap.objs.size f cdv))->sp vs H Q E->
   ∃t,PSs (cN CX P w K mg base N qual scope f cdv A outer s H E) body t/\t {nx:=fun _ H'=>Q .non H',rt:=Q} (start N vs) H):
  aR P w K mg base CX (k+1) f (W.fnOf name qual params body scope dV kV doc pm an cdv ct) ps sp:=by
 refine⟨len,fun A outer s H args us vs Q E hr e0 hb r hsp=> ?_⟩
 have hl:=len _ _ _ _ hsp
 have KX:K.In s.heap:=e0.mod.kin.keeps fun b o e=>(e0.bs b o e).1
 have lim:s.heap.NoLimit:=e0.mod.nolimit.keeps fun b o e=>(e0.bs b o e).1
 have hkind:∀y∈ps.zip us,scope.names.lookup y.1=some .local\/(scope.names.lookup y.1=some .cell/\((cellsFrom (s.heap.objs.size+1) scope.names []).lookup y.1).isSome=true):=fun⟨n,v⟩ hy=>by
  rcases S.par n (List.of_mem_zip hy).1 with q|q
  ·exact .inl q
  ·exact .inr ⟨q,W.cellsFrom_some _ _ _ (.inl q)⟩
 refine codeAny_call_function hr.depth (KX _ _ lk) rfl S.co S.gen rfl (W.codeRec_of KX hcd) (hb _ _ _ _ ?_)
 refine wpAny_newFunctionEnv_cells S.kind hkind fun env he s1 x=> ?_
 subst he
 refine⟨lim.keeps x.toInCall.keep,codeAny_func ?_⟩
 obtain⟨t,ht,hq⟩:=hbody A outer s H vs Q E (hr.deeper _) hsp
 have I:Inv (cN CX P w K mg base N qual scope f cdv A outer s H E) [] (start N vs) H s1:=vV S hr.hd e0 hl r x
 refine wpAny_mono (ht [] s1 (start N vs) H _ I hq) (fun fl s' hs=> ?_) fun e s' hs=>hs
 have fin:∀{σ':St}{H':Hp}{v:V}{u:Value},Inv (cN CX P w K mg base N qual scope f cdv A outer s H E) [] σ' H' s'->RelV v u->Q v H'->CE outer P w H s Q u s':=
  fun{σ' H' v u} J rv q=> ⟨v,H',J.os,J.bare,J.base,J.hok,rv,q⟩
 cases fl with
 |ret u=>
  obtain⟨v,σ',H',J,rv,q⟩:=hs
  exact fin J rv q
 |next=>
  obtain⟨σ',H',J,q⟩:=hs
  exact fin (v:=V.non) (u:=Value.none) J rfl q
 |brk=>
  obtain⟨_,_,_,q⟩:=hs
  exact False.elim q
 |cont=>
  obtain⟨_,_,_,q⟩:=hs
  exact False.elim q
section
variable {X:Cx}{x:Str}{p pos:Pos}{e:Expr}{es:List Expr}{t:TA}{id T:String}{r:List V->Hp->VK->Prop}
def tCB (r:List V->Hp->VK->Prop)(t:TA):TE:=fun σ H Q=>t σ H fun vs H1=>r vs H1 Q
theorem bB (hc:dX X (.builtin id) r)(hg:Gl X x)(hm:X.mg x=none)(hv:bootBuiltins x=some (.builtin id))(ha:PA X (e::es) t)(hn:x≠ "__name__":=by decide)(hdb:(x==("__debug__":Str))=false:=by decide)
  (he:starEach (e::es) X.env=(false,eval e X.env)::starEach es X.env:=by rfl)(hpl:(backTo pos (starEach es X.env)).any (·.1)=false:=by rfl):PE X (.Call (.Name x p) (e::es) [] pos) (tCB r t):=by
 intro pins s σ H Q I h
 refine wpAny_Call_Name_kw (lC I hg hm hv ?_ hn hdb)
 exact PyProof.Rows.callWith_builtin1 (thn (ha pos pins s σ H _ I h) fun us s1 ⟨vs,H1,I1,r1,q1⟩=>hc pins s1 σ H1 vs us Q I1 r1 q1) he hpl
theorem fS (hc:dX X (.type T) r)(hg:Gl X x)(hm:X.mg x=none)(hv:bootBuiltins x=some (.type T))(ha:PA X (e::es) t)(hn:x≠ "__name__":=by decide)(hdb:(x==("__debug__":Str))=false:=by decide)
  (he:starEach (e::es) X.env=(false,eval e X.env)::starEach es X.env:=by rfl)(hpl:(backTo pos (starEach es X.env)).any (·.1)=false:=by rfl):PE X (.Call (.Name x p) (e::es) [] pos) (tCB r t):=by
 intro pins s σ H Q I h
 refine wpAny_Call_Name_kw (lC I hg hm hv ?_ hn hdb)
 exact PyProof.Rows.callWith_type1 (thn (ha pos pins s σ H _ I h) fun us s1 ⟨vs,H1,I1,r1,q1⟩=>hc pins s1 σ H1 vs us Q I1 r1 q1) he hpl
end
end L2
namespace HT
open PySem PyProof.Rows
def lexLt:List Int->List Int->Bool
 | [],[]=>false
 | [],_::_=>true
 |_::_,[]=>false
 |x::xs,y::ys=>if x=y then lexLt xs ys else decide (x<y)
theorem lexLt_cons (x y:Int)(xs ys:List Int):lexLt (x::xs) (y::ys)=if x=y then lexLt xs ys else decide (x<y):=rfl
theorem B1w:lexLt [] []=false:=rfl
theorem A9b (y:Int)(ys:List Int):lexLt [] (y::ys)=true:=rfl
theorem B1c (x:Int)(xs:List Int):lexLt (x::xs) []=false:=rfl
theorem A2l (A:Around)(s:Shared)(a:Int)(t:Tok)(c:Int)(u:Tok):∃e,SeqAt.EqAt A s (.int a t) (.int c u) e/\(e=true↔a=c):=
 ⟨(a==c),SeqAt.EqAt.int_int a t c u,by simp⟩
theorem A5e (A:Around)(s:Shared)(a:Int)(t:Tok)(c:Int)(u:Tok)(prog:Program)(w:World)(E:Value->Shared->Prop)(Q:Value->Shared->Prop)(h:Q (.bool (decide (a<c))) s):
  wpAny (model prog w) A (richCompare .Lt (.int a t) (.int c u)) Q E s:=
 (PyProof.Rows.lt_int h:wpAny (model prog w) A (compareOp .Lt (.int a t) (.int c u)) Q E s)
section
open PySem.SeqAt
open PySem.AutoSeq1 (wpAny_loadPart')
open PySem.MeetsSeq PySem.MeetsSeq2 PySem.MeetsSeq3
theorem A4v (l b:Addr)(items items2:Array Value)(n n2:Nat)(dd dd2:Option Addr)(sl sl2:Array (Option Value))(ns ms:List Int)(hi:IntsAre items.toList ns)(hj:IntsAre items2.toList ms):
  Meets (Builtin.«tuple.__lt__» ⟨[.ref l,.ref b],[]⟩)
   (fun _ R s=>s.heap.get? l=some {cls:=.type "tuple",dict:=dd,data:=.seq items n,slots:=sl}/\s.heap.get? b=some {cls:=.type "tuple",dict:=dd2,data:=.seq items2 n2,slots:=sl2}/\
    R (.ok (.ret (.bool (lexLt ns ms)))) s):=
 .of_wp fun prog w A R s h=>by
  obtain⟨hp,g,d,tk,os⟩:=s;obtain⟨hl,hb,h⟩:=h
  have f2:=AutoSeq1.sub_tuple_tuple
  have z1:items.size=ns.length:=by rw [←hi.length];simp
  have z2:items2.size=ms.length:=by rw [←hj.length];simp
  wp_walk using wpAny_loadPart' hl,wpAny_loadPart' hb,wpAny_forIn_list _ (fun rest b s'=>b.1=none/\s'=⟨hp,g,d,tk,os⟩/\∃(vs ws:List Value)(ns' ms':List Int),rest=vs.zip ws/\
   IntsAre vs ns'/\IntsAre ws ms'/\ns'.length+items2.size=ms'.length+items.size/\R (.ok (.ret (.bool (lexLt ns' ms')))) ⟨hp,g,d,tk,os⟩) _
  case turn=>
   rintro⟨y,x⟩ rest b s' ⟨hb',rfl,vs,ws,ns',ms',hz,hvi,hwi,hlen,hR⟩
   cases hvi with
   |nil=>rw [List.zip_nil_left]at hz;cases hz
   |cons a t hvi'=>
    cases hwi with
    |nil=>rw [List.zip_nil_right]at hz;cases hz
    |cons c u hwi'=>
     rw [List.zip_cons_cons]at hz
     injection hz with hyx hrest
     injection hyx with hy hx
     subst hy hx
     rw [lexLt_cons]at hR
     simp only [List.length_cons]at hlen
     obtain⟨e,he,hiff⟩:=A2l A.in1 ⟨hp,g,d,tk,os⟩ a t c u
     refine wpAny_bind (he prog w _ _ ?_)
     cases e with
     |true=>
      rw [if_pos (hiff.mp rfl)]at hR
      wp_walk
      exact⟨rfl,rfl,_,_,_,_,hrest,hvi',hwi',by omega,hR⟩
     |false=>
      rw [if_neg (fun q=>absurd (hiff.mpr q) Bool.false_ne_true)]at hR
      have hri:=A5e A.in1 ⟨hp,g,d,tk,os⟩ a t c u prog w
      wp_walk using hri
      exact⟨_,rfl,by simpa using hR⟩
  case fin=>
   rintro⟨b1,b2⟩ s' ⟨hb',rfl,vs,ws,ns',ms',hz,hvi,hwi,hlen,hR⟩
   simp only at hb'
   subst hb'
   have hv:lexLt ns' ms'=decide (items.size<items2.size):=by
    cases hvi with
    |nil=>
     cases hwi with
     |nil=>
      simp only [List.length_nil]at hlen
      rw [B1w]
      exact(decide_eq_false (by omega)).symm
     |cons c u hw=>
      simp only [List.length_nil,List.length_cons]at hlen
      rw [A9b]
      exact(decide_eq_true (by omega)).symm
    |cons a t hv=>
     cases hwi with
     |nil=>
      simp only [List.length_nil,List.length_cons]at hlen
      rw [B1c]
      exact(decide_eq_false (by omega)).symm
     |cons c u hw=>
      rw [List.zip_cons_cons]at hz
      cases hz
   rw [hv]at hR
   wp_walk
   exact⟨_,rfl,by simpa [Builtin.Tuple.tupleCompareSizes]using hR⟩
  case h=>
   exact⟨rfl,rfl,items.toList,items2.toList,ns,ms,rfl,hi,hj,by omega,h⟩
end
section
variable {prog:Program}{w:World}{A:Around}{E:Value->Shared->Prop}{s:Shared}
theorem lt_tupInts {l b:Addr}{items items2:Array Value}{ns ms:List Int}{Q:Value->Shared->Prop}(hl:IsTup s.heap l items)(hb:IsTup s.heap b items2)(hi:IntsAre items.toList ns)(hj:IntsAre items2.toList ms)
  (hu:A.units<cLine)(h:Q (.bool (lexLt ns ms)) s):wpAny (model prog w) A (compareOp .Lt (.ref l) (.ref b)) Q E s:=by
 obtain⟨⟨cls,dd,data,sl⟩,ho,hc,n,hd⟩:=id hl
 obtain⟨⟨cls2,dd2,data2,sl2⟩,ho2,hc2,n2,hd2⟩:=id hb
 simp only at hc hd hc2 hd2
 subst hc hd hc2 hd2
 exact richCompare_meets_room (op:=.Lt) ⟨_,ho,rfl⟩ ⟨_,ho2,rfl⟩ PySem.F.slot_tuple_lt PySem.F.entry_tuple_lt (PySem.F.args_tuple_lt_2 _ _) (A4v l b items items2 n n2 dd dd2 sl sl2 ns ms hi hj)
  ⟨ho,ho2,show Value.bool (lexLt ns ms)≠Value.notImplemented/\Q (.bool (lexLt ns ms)) s from⟨(fun x=>nomatch x),h⟩⟩ hu
theorem cat_tup {t b:Addr}{vs ws:List Value}{Q:Value->Shared->Prop}(ht:IsTup s.heap t vs.toArray)(hb:IsTup s.heap b ws.toArray)(hv:vs≠[])
  (h1:ws=[]->Q (.ref t) s)(h2:ws≠[]->Q (.ref s.heap.objs.size) {s with heap:=s.heap.push {cls:=.type "tuple",data:=.seq (vs++ws).toArray}})
  (hsz:vs.length+ws.length<=sizeLine):wpAny (model prog w) A (binaryOp .Add (.ref t) (.ref b)) Q E s:=by
 obtain⟨⟨cls,dd,data,sl⟩,ho,hc,n,hd⟩:=id ht
 obtain⟨⟨cls2,dd2,data2,sl2⟩,ho2,hc2,n2,hd2⟩:=id hb
 simp only at hc hd hc2 hd2
 subst hc hd hc2 hd2
 have e:vs.toArray++ws.toArray=(vs++ws).toArray:=by simp
 by_cases hw:ws=[]
 ·exact concat_meets ⟨_,ho,rfl⟩ ⟨_,ho2,rfl⟩ noFill_tuple_add seq_tuple_add PySem.F.slot_tuple_add PySem.F.entry_tuple_add (PySem.F.args_tuple_add_2 _ _)
   (tuple_addW1 t b vs.toArray ws.toArray n n2 dd dd2 sl sl2 (by simpa using hv) (by simp [hw])) ⟨ho,ho2,h1 hw⟩
 ·refine concat_meets ⟨_,ho,rfl⟩ ⟨_,ho2,rfl⟩ noFill_tuple_add seq_tuple_add PySem.F.slot_tuple_add PySem.F.entry_tuple_add (PySem.F.args_tuple_add_2 _ _)
   (tuple_addW2 t b vs.toArray ws.toArray n n2 dd dd2 sl sl2 (by simpa using hv) (by simpa using hw) (by rw [List.size_toArray,List.size_toArray];exact hsz)) ⟨ho,ho2,?_⟩
  rw [e]
  exact h2 hw
def sIx (n d:Nat):Option Int->Nat
 |none=>d
 |some v=>if v<0 then(v+(n:Int)).toNat else min v.toNat n
theorem sIx_nat (n d k:Nat):sIx n d (some (k:Int))=min k n:=by
 show(if (k:Int)<0 then((k:Int)+(n:Int)).toNat else min (k:Int).toNat n)=min k n
 rw [if_neg (by omega),Int.toNat_natCast]
theorem A94 (n d:Nat)(hd:d<=n)(o:Option Int):sIx n d o<=n:=by
 cases o with
 |none=>exact hd
 |some v=>
  show(if v<0 then(v+(n:Int)).toNat else min v.toNat n)<=n
  by_cases hv:v<0
  ·rw [if_pos hv];omega
  ·rw [if_neg hv];exact Nat.min_le_right _ _
theorem A1d (v:Int)(n d:Nat):(if v<0 then max (v+(n:Int)) 0 else min v (n:Int))=((sIx n d (some v):Nat):Int):=by
 show(if v<0 then max (v+(n:Int)) 0 else min v (n:Int))=(((if v<0 then(v+(n:Int)).toNat else min v.toNat n):Nat):Int)
 by_cases hv:v<0
 ·simp only [if_pos hv];omega
 ·simp only [if_neg hv];omega
theorem A6e (lo hi:Option Int)(n:Nat):Builtin.Slice.sliceAdjust lo hi 1 (n:Int)=(((sIx n 0 lo:Nat):Int),((sIx n n hi:Nat):Int)):=by
 have h1:¬((1:Int)<0):=by omega
 unfold Builtin.Slice.sliceAdjust
 simp only [h1,if_false]
 refine Prod.ext ?_ ?_
 ·cases lo with
  |none=>rfl
  |some v=>exact A1d v n 0
 ·cases hi with
  |none=>rfl
  |some v=>exact A1d v n n
theorem A32 (i j:Nat):Builtin.Slice.slicePlaces (i:Int) (j:Int) 1=j - i:=by
 unfold Builtin.Slice.slicePlaces
 have h1:(1:Int)>0:=by omega
 simp only [h1,if_true,Int.ediv_one]
 split<;>omega
theorem A16 {v:Value}{o:Option Int}{Q:Option Int->Shared->Prop}(p:IsPart v o)(h:Q o s):wpAny (model prog w) A (Builtin.Slice.slicePartIndex v) Q E s:=by
 cases p with
 |none=>exact slicePart_none h
 |int i t=>exact slicePart_int h
theorem sliceApplied_gen {sl:Addr}{vl vu:Value}{lo hi:Option Int}{n:Nat}{Q:Int×Int×Nat->Shared->Prop}(hs:s.heap.IsSliceOf sl vl vu .none)(pl:IsPart vl lo)(pu:IsPart vu hi)
  (h:Q (((sIx n 0 lo:Nat):Int),1,sIx n n hi - sIx n 0 lo) s):wpAny (model prog w) A (Builtin.Slice.sliceApplied (.ref sl) (pure (n:Int))) Q E s:=by
 obtain⟨os,hos,hcs,hds⟩:=id hs
 unfold Builtin.Slice.sliceApplied Builtin.Slice.sliceFields
 refine wpAny_bind (wpAny_bind (wpAny_field hos hds (x:=vl) rfl (wpAny_bind (wpAny_field hos hds (x:=vu) rfl (wpAny_bind (wpAny_field hos hds (x:=.none) rfl (wpAny_pure ?_)))))))
 refine wpAny_bind (slicePart_none ?_)
 show wpAny _ _ (if ((1:Int)==0)=true then _ else _) _ _ s
 rw [if_neg (by decide)]
 refine wpAny_bind (A16 pl (wpAny_bind (A16 pu (wpAny_bind (wpAny_pure ?_)))))
 show wpAny _ _ (match Builtin.Slice.sliceAdjust lo hi 1 (n:Int)with| (lo,hi)=>pure (lo,(1:Int),Builtin.Slice.slicePlaces lo hi 1)) _ _ s
 rw [A6e lo hi n]
 show wpAny _ _ (pure (((sIx n 0 lo:Nat):Int),(1:Int),Builtin.Slice.slicePlaces ((sIx n 0 lo:Nat):Int) ((sIx n n hi:Nat):Int) 1)) _ _ s
 rw [A32]
 exact wpAny_pure h
theorem A4n (xs:Array Value)(i k:Nat):((List.range k).filterMap fun(m:Nat)=>xs[((i:Int)+(m:Int)*1).toNat]?).toArray=((xs.toList.drop i).take k).toArray:=by
 have e:(fun(m:Nat)=>xs[((i:Int)+(m:Int)*1).toNat]?)=fun m=>xs[i+m]?:=by
  funext m
  have:((i:Int)+(m:Int)*1).toNat=i+m:=by omega
  rw [this]
 rw [e]
 have:=pick_run xs i k
 rw [List.filterMap_map]at this
 have e2:((fun x=>xs[x]?)∘fun x=>i+x)=fun m=>xs[i+m]?:=rfl
 rw [e2]at this
 rw [this]
theorem getItem_tuple_cut {t sl:Addr}{items:Array Value}{vl vu:Value}{lo hi:Option Int}{Q:Value->Shared->Prop}(ht:IsTup s.heap t items)(hs:s.heap.IsSliceOf sl vl vu .none)(pl:IsPart vl lo)(pu:IsPart vu hi)
  (hw:¬(sIx items.size 0 lo=0/\sIx items.size items.size hi=items.size))
  (h:Q (.ref s.heap.objs.size) {s with heap:=s.heap.push {cls:=.type "tuple",data:=.seq ((items.toList.drop (sIx items.size 0 lo)).take (sIx items.size items.size hi - sIx items.size 0 lo)).toArray}})
  (hsz:items.size<=sizeLine):wpAny (model prog w) A (getItem (.ref t) (.ref sl)) Q E s:=by
 have htake:sizeOk (.seq ((items.toList.drop (sIx items.size 0 lo)).take (sIx items.size items.size hi - sIx items.size 0 lo)).toArray):=by
  show((items.toList.drop (sIx items.size 0 lo)).take (sIx items.size items.size hi - sIx items.size 0 lo)).toArray.size<=sizeLine
  rw [List.size_toArray,List.length_take,List.length_drop,Array.length_toList]
  omega
 have hj:sIx items.size items.size hi<=items.size:=A94 _ _ (Nat.le_refl _) hi
 obtain⟨os,hos,hcs,hds⟩:=id hs
 have hTs:s.TypeIs (.ref sl) "slice":=⟨os,hos,hcs⟩
 unfold getItem
 try with_reducible refine wpAny_holding ?_
 first|refine wpAny_bind (wpAny_pure ?_)|skip
 refine wpAny_bind (wpAny_sequenceKey ht.typeIs (by decide) ?_)
 refine wpAny_bind (wpAny_callSpecial?_slot (name:=Str.ofString "__getitem__") ht.typeIs PyProof.Rows.slot_tuple_getitem
  (wpAny_call_entry PyProof.Rows.slot_tuple_getitem ht.typeIs entry_tuple_getitem ?_ (args_tuple_getitem _ _)))
 show wpAny _ _ (Builtin.Tuple.tupleItemsOf (.ref t)>>=_) _ _ s
 refine wpAny_bind (tupleItemsOf_ ht ?_)
 refine wpAny_bind (wpAny_typeOf hTs ?_)
 rw [if_pos (by decide)]
 refine wpAny_bind (sliceApplied_gen hs pl pu ?_)
 have hno:¬((((sIx items.size 0 lo:Nat):Int)==0&&(1:Int)==1&&(sIx items.size items.size hi - sIx items.size 0 lo)==items.size)=true):=by
  intro q
  rw [Bool.and_eq_true,Bool.and_eq_true]at q
  have q1:((sIx items.size 0 lo:Nat):Int)=0:=eq_of_beq q.1.1
  have q2:sIx items.size items.size hi - sIx items.size 0 lo=items.size:=eq_of_beq q.2
  exact hw ⟨by omega,by omega⟩
 show wpAny _ _ (if (((sIx items.size 0 lo:Nat):Int)==0&&(1:Int)==1&&(sIx items.size items.size hi - sIx items.size 0 lo)==items.size)=true then _ else _) _ _ s
 rw [if_neg hno,A4n]
 first
  |exact wpAny_bind (m:=Builtin.Tuple.tupleExact _) (wpAny_newObj_type (wpAny_pure ⟨_,rfl,wpAny_pure h⟩) htake)
  |exact wpAny_bind (m:=Builtin.Tuple.tupleExact _) (wpAny_newObj_type (wpAny_bind (wpAny_pure (wpAny_pure ⟨_,rfl,wpAny_pure h⟩))) htake)
  |exact wpAny_bind (wpAny_bind (m:=Builtin.Tuple.tupleExact _) (wpAny_newObj_type (wpAny_pure (wpAny_pure ⟨_,rfl,wpAny_pure h⟩)) htake))
  |exact wpAny_bind (wpAny_bind (m:=Builtin.Tuple.tupleExact _) (wpAny_newObj_type (wpAny_pure ⟨_,rfl,wpAny_pure h⟩) htake))
end
end HT
namespace L2
open PySem PySem.Spec PyProof.Rows
abbrev TO:=St->Hp->(Option Int->Hp->Prop)->Prop
def PO (X:Cx)(e:Option Expr)(t:TO):Prop:=
 ∀(pins:List (Addr×Obj))(s:Shared)(σ:St)(H:Hp)(Q:Option Int->Hp->Prop),Inv X pins σ H s->t σ H Q->
  wpAny (model X.prog X.w) X.A (evalPart e X.env) (fun u s'=> ∃o H',Inv X pins σ H' s'/\IsPart u o/\Q o H') X.xe s
def A31:TO:=fun _ H Q=>Q none H
def A6r (t:TE):TO:=fun σ H Q=>t σ H fun x H1=> ∃i,x= .int i/\Q (some i) H1
theorem A1x {ns:List Int}:∀{us:List Value},Vals (ns.map V.int) us->IntsAre us ns:=by
 induction ns with
 |nil=>intro us r;rw [List.map_nil]at r;cases r;exact .nil
 |cons n ns ih=>
  intro us r
  rw [List.map_cons]at r
  cases r with
  |cons r1 r2=>
   obtain⟨t,e⟩:=r1
   subst e
   exact .cons n t (ih r2)
section
variable {X:Cx}{e:Expr}{te:TE}{lo hi:Option Expr}{tl th:TO}{pos p2:Pos}
theorem fM:PO X none A31:=by
 intro pins s σ H Q I h
 rw [evalPart_none]
 exact wpAny_pure ⟨none,H,I,.none,h⟩
theorem fA (h:PE X e te):PO X (some e) (A6r te):=by
 intro pins s σ H Q I hw
 rw [evalPart_some]
 refine thn (h pins s σ H _ I hw) fun u s1 ⟨x,H1,I1,r1,q1⟩=> ?_
 obtain⟨i,rfl,q⟩:=q1
 obtain⟨t,rfl⟩:=r1
 exact⟨some i,H1,I1,.int i t,q⟩
def SlR (X:Cx)(r:V->Option Int->Option Int->Hp->VK->Prop):Prop:=
 ∀(pins:List (Addr×Obj))(s:Shared)(σ:St)(H:Hp)(x:V)(v vl vu:Value)(lo hi:Option Int)(sl:Addr)(Q:VK),Inv X pins σ H s->RelV x v->s.heap.IsSliceOf sl vl vu .none->IsPart vl lo->IsPart vu hi->r x lo hi H Q->
  ∃T id,typeLookup (.type T) "__getitem__" =pure (some (.builtin id))/\s.TypeIs v T/\wpAny (model X.prog X.w) X.A (getItem v (.ref sl)) (EP X pins σ Q) X.xe s
def tSl (r:V->Option Int->Option Int->Hp->VK->Prop)(te:TE)(tl th:TO):TE:=fun σ H Q=>te σ H fun x H1=>tl σ H1 fun l H2=>th σ H2 fun u H3=>r x l u H3 Q
theorem fF {r:V->Option Int->Option Int->Hp->VK->Prop}(hr:SlR X r)(he:PE X e te)(hl:PO X lo tl)(hu:PO X hi th):PE X (.Subscript e (.Slice lo hi none p2) pos) (tSl r te tl th):=by
 intro pins s σ H Q I h
 refine Subscript_ (thn (he pins s σ H _ I h) fun v s1 ⟨x,H1,I1,r1,q1⟩=> ?_)
 refine wpAny_Slice (thn (hl pins s1 σ H1 _ I1 q1) fun vl s2 ⟨l,H2,I2,pl,q2⟩=>thn (hu pins s2 σ H2 _ I2 q2) fun vu s3 ⟨u,H3,I3,pu,q3⟩=> ?_)
 rw [evalPart_none]
 refine wpAny_pure ?_
 have I4:Inv X pins σ H3 {s3 with heap:=s3.heap.push {cls:=.type "slice",data:=.fields #[vl,vu,.none]}}:=I3.kept (t':=s3.toks) fun b ob q=>Heap.get?_push_of_some _ q
 obtain⟨T,id,hT,ht,hg⟩:=hr pins {s3 with heap:=s3.heap.push {cls:=.type "slice",data:=.fields #[vl,vu,.none]}} σ H3 x v vl vu l u s3.heap.objs.size Q I4 r1 (Heap.IsSliceOf.new ..) pl pu q3
 show wpAny (model X.prog X.w) X.A (subscriptTail e (.Slice lo hi none p2) v (.ref s3.heap.objs.size)) (EP X pins σ Q) X.xe {s3 with heap:=s3.heap.push {cls:=.type "slice",data:=.fields #[vl,vu,.none]}}
 exact tail_any (ops:=[.ref s3.heap.objs.size,v]) ht hT hg (by with_unfolding_all rfl)
def cO (xs:List V)(lo hi:Option Int):List V:=(xs.drop (HT.sIx xs.length 0 lo)).take (HT.sIx xs.length xs.length hi - HT.sIx xs.length 0 lo)
theorem iW (xs:List V)(lo hi:Option Int):(cO xs lo hi).length<=xs.length:=by
 unfold cO
 rw [List.length_take,List.length_drop]
 omega
def B0o (K:W.Frag):R2:=fun x y H Q=> ∃a b ns ms,x= .ref a/\y= .ref b/\SqT K H a (ns.map V.int)/\SqT K H b (ms.map V.int)/\Q (.bl (HT.lexLt ns ms)) H
theorem A78 (hu:X.A.units<cLine):OpR X (compareOp .Lt) (B0o X.K):=by
 intro pins s σ H x y v u Q I rx ry h
 obtain⟨a,b,ns,ms,rfl,rfl,ha,hb,q⟩:=h
 cases rx
 cases ry
 obtain⟨its,r1,p1,_⟩:=I.tuple ha
 obtain⟨its2,r2,p2,_⟩:=I.tuple hb
 have i1:IntsAre its.toArray.toList ns:=A1x r1
 have i2:IntsAre its2.toArray.toList ms:=A1x r2
 exact HT.lt_tupInts p1 p2 i1 i2 hu ⟨.bl (HT.lexLt ns ms),H,I,rfl,q⟩
theorem Vals.nil_iff {xs:List V}{us:List Value}(r:Vals xs us):us=[]↔xs=[]:=by
 cases r with
 |nil=>simp
 |cons _ _=>simp
end
def ixN (n:Nat)(i:Int):Option Nat:=if 0<=i then(if i<n then some i.toNat else none)else if -(n:Int)<=i then some (i+n).toNat else none
def atI {α:Type}(xs:List α)(i:Int):Option α:=(ixN xs.length i).bind fun j=>xs[j]?
theorem yX {n:Nat}{i:Int}{j:Nat}(h:ixN n i=some j):seqIndex? i n=some j/\j<n/\-(n:Int)<=i/\i<n:=by
 unfold ixN at h
 by_cases h0:0<=i
 ·rw [if_pos h0]at h
  by_cases h1:i<n
  ·rw [if_pos h1]at h
   have e:i.toNat=j:=Option.some.inj h
   exact⟨by rw [seqIndex_of h0 h1,e],by omega,by omega,h1⟩
  ·rw [if_neg h1]at h;cases h
 ·rw [if_neg h0]at h
  by_cases h1:-(n:Int)<=i
  ·rw [if_pos h1]at h
   have e:(i+n).toNat=j:=Option.some.inj h
   exact⟨by rw [seqIndex_neg (by omega) h1,e],by omega,h1,by omega⟩
  ·rw [if_neg h1]at h;cases h
theorem pR {α:Type}{xs:List α}{i:Int}{v:α}(h:atI xs i=some v):∃j,seqIndex? i xs.length=some j/\xs[j]?=some v/\j<xs.length/\-(xs.length:Int)<=i/\i<xs.length:=by
 unfold atI at h
 cases e:ixN xs.length i with
 |none=>rw [e]at h;cases h
 |some j=>
  rw [e]at h
  obtain⟨h1,h2,h3,h4⟩:=yX e
  exact⟨j,h1,h,h2,h3,h4⟩
theorem bF {α:Type}{xs:List α}{j:Nat}{v:α}(h:xs[j]?=some v):atI xs (j:Int)=some v:=by
 have hj:j<xs.length:=(List.getElem?_eq_some_iff.mp h).1
 have e:ixN xs.length (j:Int)=some j:=by
  unfold ixN
  rw [if_pos (by omega),if_pos (by omega)];simp
 unfold atI;rw [e];exact h
def A7y (b:Expr):Prop:=∀o i,subscripted b false o i=operate [o,i] (getItem o i)
def IxR (X:Cx)(r:R2):Prop:=
 ∀(value slice:Expr)(pins:List (Addr×Obj))(s:Shared)(σ:St)(H:Hp)(x y:V)(v u:Value)(Q:VK),Inv X pins σ H s->RelV x v->RelV y u->r x y H Q->
  subscripted slice false v u=operate [v,u] (getItem v u)->wpAny (model X.prog X.w) X.A (subscriptTail value slice v u) (EP X pins σ Q) X.xe s
def MtR (X:Cx)(id:String)(r:V->List V->Hp->VK->Prop):Prop:=
 ∀(pins:List (Addr×Obj))(s:Shared)(σ:St)(H:Hp)(x:V)(xs:List V)(v:Value)(us:List Value)(Q:VK),Inv X pins σ H s->RelV x v->Vals xs us->r x xs H Q->
  wpAny (model X.prog X.w) X.A (call (.builtin id) (v::us)) (EP X pins σ Q) X.xe s
section
variable {X:Cx}{a b:Expr}{ta tb:TE}{pos:Pos}
theorem bR {r:R2}(hr:IxR X r)(ha:PE X a ta)(hb:PE X b tb)(hs:A7y b):PE X (.Subscript a b pos) (tOp r ta tb):=by
 intro pins s σ H Q I h
 exact Subscript_ (uL ha hb I h fun v u s2 x y H2 I2 rx ry q=>hr a b pins s2 σ H2 x y v u Q I2 rx ry q (hs _ _))
def A21 (K:W.Frag):R2:=fun x y H Q=> ∃p xs i v,x= .ref p/\y= .int i/\SqL K H p xs/\atI xs i=some v/\Q v H
def yH (K:W.Frag):R2:=fun x y H Q=> ∃p xs i v,x= .ref p/\y= .int i/\SqT K H p xs/\atI xs i=some v/\Q v H
theorem cG:IxR X (A21 X.K):=by
 intro value slice pins s σ H x y v u Q I rx ry h hs
 obtain⟨p,xs,i,z,rfl,rfl,hq,he,q⟩:=h
 cases rx
 obtain⟨t,rfl⟩:=ry
 obtain⟨its,r,pl,hz⟩:=I.list hq
 obtain⟨j,h1,h2,h3,h4,h5⟩:=pR he
 obtain⟨w,ew,rw'⟩:=r.get h2
 have hl:=r.length
 have hn:=qW
 have fin:EP X pins σ Q w s:=⟨z,H,I,rw',q⟩
 by_cases h0:0<=i
 ·have hj:i.toNat=j:=by
   rw [seqIndex_of h0 h5]at h1
   exact Option.some.inj h1
  exact item_listR pl.isList h0 (by omega) (by rw [hj];simpa using ew) fin hs
 ·have hj:(i+(its.toArray.size:Int)).toNat=j:=by
   rw [seqIndex_neg (by omega) h4]at h1
   rw [List.size_toArray,←hl]
   exact Option.some.inj h1
  exact subscriptTail_builtinR (x:=w) pl.isList.typeIs slot_list_getitem.lookup
   (wpAny_getItem_list_neg (Q:=fun r s'=>r=w/\EP X pins σ Q r s') pl.isList (by omega) (by rw [List.size_toArray]<;>omega) (by omega) (by rw [hj];simpa using ew) ⟨rfl,fin⟩) hs
theorem fU:IxR X (yH X.K):=by
 intro value slice pins s σ H x y v u Q I rx ry h hs
 obtain⟨p,xs,i,z,rfl,rfl,hq,he,q⟩:=h
 cases rx
 obtain⟨t,rfl⟩:=ry
 obtain⟨its,r,pl,hz⟩:=I.tuple hq
 obtain⟨j,h1,h2,h3,h4,h5⟩:=pR he
 obtain⟨w,ew,rw'⟩:=r.get h2
 have hl:=r.length
 have hn:=qW
 have fin:EP X pins σ Q w s:=⟨z,H,I,rw',q⟩
 exact subscriptTail_builtinR (x:=w) pl.typeIs slot_tuple_getitem.lookup
  (getItem_tuple (j:=j) (Q:=fun r s'=>r=w/\EP X pins σ Q r s') pl (by omega) (by omega) (by rw [List.size_toArray,←hl];exact h1) (by simpa using ew) ⟨rfl,fin⟩) hs
theorem A2u (its:List Value)(n j:Nat)(u:Value):Obj.mapSeq (·.setIfInBounds j u) {cls:=.type "list",data:=.seq its.toArray n}={cls:=.type "list",data:=.seq (its.set j u).toArray n}:=by
 simp [Obj.mapSeq]
theorem Inv.lst {pins:List (Addr×Obj)}{σ:St}{H:Hp}{s:Shared}{p:Addr}{xs:List V}(I:Inv X pins σ H s)(h:H p=some (.lst xs)):
  ∃(its:List Value)(n:Nat),Vals xs its/\s.heap.get? p=some {cls:=.type "list",data:=.seq its.toArray n}/\xs.length<=sizeLine:=by
 obtain⟨z,its,n,r,e⟩:=I.hok p _ h
 exact⟨its,n,r,e,z⟩
theorem Inv.lstUpd {pins:List (Addr×Obj)}{σ:St}{H:Hp}{s:Shared}{p:Addr}{xs ys:List V}{its its':List Value}{n n':Nat}{f:Obj->Obj}(I:Inv X pins σ H s)(h:H p=some (.lst xs))
  (ho:s.heap.get? p=some {cls:=.type "list",data:=.seq its.toArray n})(hf:f {cls:=.type "list",data:=.seq its.toArray n}={cls:=.type "list",data:=.seq its'.toArray n'})(r:Vals ys its')(hz:ys.length<=sizeLine)(t:Nat):
  Inv X pins σ (upd H p (.lst ys)) {s with heap:=s.heap.update p f,toks:=t}:=by
 have e:(s.heap.update p f).get? p=some {cls:=.type "list",data:=.seq its'.toArray n'}:=by
  rw [Heap.get?_update_self f ho (by rw [hf]<;>rfl),hf]
 refine I.write (x:=p) (e:=p) (by rw [h];trivial) (.inl rfl) (fun b u hb q=>(Heap.get?_update_other _ _ (Ne.symm hb)).trans q) ⟨_,e⟩ ?_
 exact⟨hz,its',n',r,e⟩
def A8i:V->V->V->Hp->(Hp->Prop)->Prop:=fun o i v H Q=> ∃p xs k j,o= .ref p/\i= .int k/\H p=some (.lst xs)/\ixN xs.length k=some j/\Q (upd H p (.lst (xs.set j v)))
theorem rY:A11 X A8i:=by
 intro pins s σ H o i v ov iv u Q I ro ri rv h
 obtain⟨p,xs,k,j,rfl,rfl,hp,hj,q⟩:=h
 cases ro
 obtain⟨t,rfl⟩:=ri
 obtain⟨its,n,r,ho,hz⟩:=I.lst hp
 obtain⟨h1,h2,h3,h4⟩:=yX hj
 have hl:=r.length
 have hn:=qW
 have I':Inv X pins σ (upd H p (.lst (xs.set j v))) {s with heap:=s.heap.update p (Obj.mapSeq (·.setIfInBounds j u))}:=
  I.lstUpd hp ho (A2u its n j u) (r.set rv j) (by rw [List.length_set];exact hz) s.toks
 by_cases h0:0<=k
 ·have hk:k.toNat=j:=by
   rw [seqIndex_of h0 h4]at h1
   exact Option.some.inj h1
  exact W.ki_setAt ho h0 (by omega) (by rw [List.size_toArray,←hl];exact h4) (by rw [hk];exact⟨_,I',q⟩)
 ·have hk:(k+(its.toArray.size:Int)).toNat=j:=by
   rw [seqIndex_neg (by omega) h3]at h1
   rw [List.size_toArray,←hl]
   exact Option.some.inj h1
  exact W.ki_setBack ho (by omega) (by rw [List.size_toArray,←hl];exact h3) (by omega) (by rw [hk];exact⟨_,I',q⟩)
theorem A7g (lo hi:Option Int)(n:Nat):(sliceBounds lo hi none n).1=((HT.sIx n 0 lo:Nat):Int)/\(sliceBounds lo hi none n).2.1=((HT.sIx n n hi:Nat):Int)/\(sliceBounds lo hi none n).2.2=1:=by
 refine⟨?_,?_,rfl⟩
 ·cases lo with
  |none=>simp [sliceBounds,HT.sIx]
  |some i=>
   simp only [sliceBounds,HT.sIx,Option.getD_none,show(1:Int)>0 by decide,if_true]
   by_cases h:i<0
   ·simp only [h,if_true]<;>omega
   ·simp only [h,if_false]<;>omega
 ·cases hi with
  |none=>simp [sliceBounds,HT.sIx]
  |some i=>
   simp only [sliceBounds,HT.sIx,Option.getD_none,show(1:Int)>0 by decide,if_true]
   by_cases h:i<0
   ·simp only [h,if_true]<;>omega
   ·simp only [h,if_false]<;>omega
theorem B1g (its:List Value)(lo hi:Option Int):slicePick its.toArray lo hi none=((its.drop (HT.sIx its.length 0 lo)).take (HT.sIx its.length its.length hi - HT.sIx its.length 0 lo)).toArray:=by
 obtain⟨h1,h2,h3⟩:=A7g lo hi its.toArray.size
 unfold slicePick
 rw [h1,h2,h3]
 simp only [sliceRange_one,pick_run,List.size_toArray]<;>rfl
def A36 (K:W.Frag):V->Option Int->Option Int->Hp->VK->Prop:=fun x lo hi H Q=> ∃a xs,x= .ref a/\SqL K H a xs/\∀p,H p=none->Q (.ref p) (upd H p (.lst (cO xs lo hi)))
theorem vQ:SlR X (A36 X.K):=by
 intro pins s σ H x v vl vu lo hi sl Q I rx hs pl pu h
 obtain⟨a,xs,rfl,hx,q⟩:=h
 cases rx
 obtain⟨its,r,ht,hz⟩:=I.list hx
 have hlen:=r.length
 refine⟨"list",_,slot_list_getitem.lookup,ht.isList.typeIs,?_⟩
 refine wpAny_getItem_list_slice ht.isList hs pl pu .none (by simp) ?_ (by rw [List.size_toArray]<;>omega)
 rw [B1g,←hlen]
 refine⟨.ref s.heap.objs.size,_,I.laid (t':=s.toks) (o:=.lst (cO xs lo hi)) (fun b ob q=>Heap.get?_push_of_some _ q) (Nat.le_refl _) ?_,rfl,q _ (I.hok.fresh (Nat.le_refl _))⟩
 exact⟨Nat.le_trans (iW xs lo hi) hz,_,0,(r.drop (HT.sIx xs.length 0 lo)).take (HT.sIx xs.length xs.length hi - HT.sIx xs.length 0 lo),Heap.get?_push_size _ rfl⟩
theorem eR:dX X (.builtin "len") (fun xs H Q=> ∃p ys,xs=[.ref p]/\(SqL X.K H p ys\/SqT X.K H p ys)/\Q (.int ys.length) H):=by
 intro pins s σ H xs us Q I r h
 obtain⟨p,ys,rfl,hq,q⟩:=h
 obtain⟨u,rfl,rx⟩:=eT r
 cases rx
 have hn:=qW
 rcases hq with hq|hq
 ·obtain⟨its,r',pl,hz⟩:=I.list hq
  have hlen:=r'.length
  exact Calls.call_len_list pl.isList (by simp only [List.size_toArray]<;>omega) ⟨.int ys.length,H,I.tok _,⟨s.toks+1,by rw [List.size_toArray,hlen]⟩,q⟩
 ·obtain⟨its,r',pl,hz⟩:=I.tuple hq
  have hlen:=r'.length
  exact len_tuple pl (by simp only [List.size_toArray]<;>omega) ⟨.int ys.length,H,I.tok _,⟨s.toks+1,by rw [List.size_toArray,hlen]⟩,q⟩
theorem A08:dX X (.type "list") (fun xs H Q=> ∃p ys,xs=[.ref p]/\(SqL X.K H p ys\/SqT X.K H p ys)/\∀l,H l=none->Q (.ref l) (upd H l (.lst ys))):=by
 intro pins s σ H xs us Q I r h
 obtain⟨p,ys,rfl,hq,q⟩:=h
 obtain⟨u,rfl,rx⟩:=eT r
 cases rx
 have fin:∀(its:List Value),Vals ys its->ys.length<=sizeLine->∀(h':Heap)(c':Nat),(∀b o',s.heap.get? b=some o'->h'.get? b=some o')->
   h'.get? s.heap.objs.size=some {cls:=.type "list",dict:=none,data:=.seq its.toArray c',slots:=#[]}->EP X pins σ Q (.ref s.heap.objs.size) {s with heap:=h'}:=fun its r' hz h' c' kp e=>
  ⟨.ref s.heap.objs.size,_,I.laid (t':=s.toks) kp (Nat.le_refl _) (show ObjOk X.prog X.w _ h' _ (.lst ys)from⟨hz,its,c',r',e⟩),rfl,q _ (I.hok.fresh (Nat.le_refl _))⟩
 rcases hq with hq|hq
 ·obtain⟨its,r',pl,hz⟩:=I.list hq
  have hlen:=r'.length
  obtain⟨o,ho,hc,n,hd⟩:=pl.isList
  exact call_list_seq p (.inl rfl) ho hc hd (fun h' c' kp e=>fin its r' hz h' c' kp e) (by simp only [List.size_toArray]<;>omega)
 ·obtain⟨its,r',pl,hz⟩:=I.tuple hq
  have hlen:=r'.length
  obtain⟨o,ho,hc,n,hd⟩:=pl
  exact call_list_seq p (.inr rfl) ho hc hd (fun h' c' kp e=>fin its r' hz h' c' kp e) (by simp only [List.size_toArray]<;>omega)
theorem kK:dX X (.type "tuple") (fun xs H Q=> ∃p ys,xs=[.ref p]/\((SqL X.K H p ys/\∀l,H l=none->Q (.ref l) (upd H l (.tup ys)))\/(SqT X.K H p ys/\Q (.ref p) H))):=by
 intro pins s σ H xs us Q I r h
 obtain⟨p,ys,rfl,h⟩:=h
 obtain⟨u,rfl,rx⟩:=eT r
 cases rx
 rcases h with⟨hq,q⟩| ⟨hq,q⟩
 ·obtain⟨its,r',pl,hz⟩:=I.list hq
  have hlen:=r'.length
  refine call_tuple_list pl.isList (fun h' kp=> ?_) (by simp only [List.size_toArray]<;>omega)
  have I1:Inv X pins σ H {s with heap:=h'}:=I.kept (t':=s.toks) kp
  have I2:Inv X pins σ (upd H h'.objs.size (.tup ys)) {s with heap:=h'.push {cls:=.type "tuple",data:=.seq its.toArray}}:=
   I1.laid (t':=s.toks) (fun b o e=>Heap.get?_push_of_some _ e) (Nat.le_refl _) (show ObjOk X.prog X.w _ _ _ (.tup ys)from⟨hz,its,r',IsTup.new _ _⟩)
  exact⟨.ref h'.objs.size,_,I2,rfl,q _ (I1.hok.fresh (Nat.le_refl _))⟩
 ·obtain⟨its,r',pl,hz⟩:=I.tuple hq
  exact call_tuple_same pl ⟨.ref p,H,I,rfl,q⟩
def tyV (K:W.Frag)(T:String)(x:V)(H:Hp):Prop:=match x with
 | .str _=>T= "str"
 | .int _=>T= "int"
 | .ref p=>(T= "list"/\∃xs,SqL K H p xs)\/(T= "tuple"/\∃o,K.lookup p=some o/\o.cls= .type "tuple"/\o.dict=none)\/
   (T= "dict"/\((∃kvs,H p=some (.dK kvs))\/ ∃kvs,H p=some (.dT kvs)))\/(T= "set"/\∃S n,H p=some (.set S n))
 |_=>False
theorem B0q {pins:List (Addr×Obj)}{σ:St}{H:Hp}{s:Shared}{T:String}{x:V}{v:Value}(I:Inv X pins σ H s)(r:RelV x v)(ty:tyV X.K T x H):
  s.TypeIs v T/\∀a,v= .ref a->∃ob,s.heap.get? a=some ob/\ob.dict=none:=by
 cases x with
 |str z=>
  obtain⟨t,rfl⟩:=r
  cases (show T= "str" from ty)
  exact⟨typeIs_str s z t,fun _ e=>nomatch e⟩
 |int i=>
  obtain⟨t,rfl⟩:=r
  cases (show T= "int" from ty)
  exact⟨typeIs_int s i t,fun _ e=>nomatch e⟩
 |ref p=>
  cases r
  rcases ty with⟨rfl,xs,hq⟩| ⟨rfl,o,hk,hc,hd⟩| ⟨rfl,hk⟩| ⟨rfl,S,n,hk⟩
  ·obtain⟨its,_,pl,_⟩:=I.list hq
   refine⟨pl.isList.typeIs,fun a e=> ?_⟩
   cases e
   obtain⟨o,n,e,c,hd,_⟩:=pl
   exact⟨o,e,hd⟩
  ·refine⟨⟨o,I.kIn p o hk,hc⟩,fun a e=> ?_⟩
   cases e
   exact⟨o,I.kIn _ o hk,hd⟩
  ·have z:∃o,s.heap.get? p=some o/\o.ExactDict:=by
    rcases hk with⟨kvs,hk⟩| ⟨kvs,hk⟩
    ·obtain⟨_,_,_,_,o,_,_,e,ex,_⟩:=I.hok p _ hk
     exact⟨o,e,ex⟩
    ·obtain⟨_,_,_,_,o,_,_,e,ex,_⟩:=I.hok p _ hk
     exact⟨o,e,ex⟩
   obtain⟨o,e,ex⟩:=z
   refine⟨⟨o,e,ex.1⟩,fun a e2=> ?_⟩
   cases e2
   exact⟨o,e,ex.2.1⟩
  ·obtain⟨o,_,_,_,e,ex,_⟩:=I.hok p _ hk
   refine⟨⟨o,e,ex.1⟩,fun a e2=> ?_⟩
   cases e2
   exact⟨o,e,ex.2.1⟩
 |_=>exact False.elim ty
def tBM (K:W.Frag)(T:String)(r:V->List V->Hp->VK->Prop)(to:TE)(t:TA):TE:=fun σ H Q=>to σ H fun x H1=>tyV K T x H1/\t σ H1 fun xs H2=>r x xs H2 Q
variable {o e:Expr}{es:List Expr}{to:TE}{t:TA}{name:Str}{apos cpos:Pos}{T id:String}{r:V->List V->Hp->VK->Prop}
theorem vS (pa:PlainAttrs T)(slot:Slot T name id)(hty:typeOf (.builtin id)=pure (.type "method_descriptor"))(hm:MtR X id r)(ho:PE X o to)(ha:PA X (e::es) t)
  (hbase:attributeBase o name X.env (eval o X.env)=eval o X.env:=by rfl)
  (hfew:((backTo cpos (starEach (e::es) X.env)).all (fun x=> !x.1)&&(backToKw cpos (keywordEach [] X.env)).all (fun x=>x.1.isSome)
   &&decide ((e::es).length+([]:List Keyword).length+(if ([]:List Keyword).isEmpty then 0 else 1)<30))=true:=by rfl)
  (hline:(apos.endLine==cpos.line)=true:=by rfl)(hs:starEach (e::es) X.env=(false,eval e X.env)::starEach es X.env:=by rfl)(hplain:(backTo cpos (starEach es X.env)).any (·.1)=false:=by rfl):
  PE X (.Call (.Attribute o name apos) (e::es) [] cpos) (tBM X.K T r to t):=by
 intro pins s σ H Q I h
 refine wpAny_Call_method_late hbase hfew hline rfl (thn (ho pins s σ H _ I h) fun v s1 ⟨x,H1,I1,r1,ty,q1⟩=> ?_)
 obtain⟨h1,h2⟩:=B0q I1 r1 ty
 refine⟨T,id,pa,slot,hty,h1,h2,?_⟩
 have hA:=ha cpos pins s1 σ H1 _ I1 q1
 rw [hs]at hA⊢
 refine Calls.callWith_builtin (by show(false|| (backTo cpos (starEach es X.env)).any (·.1))=false;rw [hplain]<;>rfl) (Calls.evalArgs_plain ?_)
 exact thn hA fun us s2 ⟨vs,H2,I2,r2,q2⟩=>hm pins s2 σ H2 x vs v us Q I2 r1 r2 q2
/- xs.append(e),list.index on a module's tuple .. are MtR facts of 06m -/
end
def MtM (X:Cx)(id:String)(r:V->List V->Hp->VK->Prop):Prop:=
 ∀(pins:List (Addr×Obj))(s:Shared)(σ:St)(H:Hp)(x:V)(xs:List V)(v:Value)(us:List Value)(Q:VK),Inv X pins σ H s->RelV x v->Vals xs us->r x xs H Q->
  wpAny (model X.prog X.w) X.A (call (.builtin id) (v::us)) (EP X pins σ Q) X.xe s
theorem Vals.one:∀{x:V}{us:List Value},Vals [x] us->∃u,us=[u]/\RelV x u
 |_,_,.cons r .nil=> ⟨_,rfl,r⟩
section
variable {X:Cx}{pins:List (Addr×Obj)}{σ:St}{H:Hp}{s:Shared}{l b:Addr}{xs ys zs:List V}
theorem Inv.lset {its its':List Value}{n:Nat}{f:Array Value->Array Value}{t':Nat}(I:Inv X pins σ H s)(hH:H l=some (.lst xs))
  (e:s.heap.get? l=some {cls:=.type "list",data:=.seq its.toArray n})(hf:f its.toArray=its'.toArray)(hv:Vals ys its')(hz:ys.length<=sizeLine):
  Inv X pins σ (upd H l (.lst ys)) {s with heap:=s.heap.update l (Obj.mapSeq f),toks:=t'}:=by
 have q:=PySem.IsL.update e f
 rw [hf]at q
 refine I.write (x:=l) (e:=l) (by rw [hH];exact trivial) (.inl rfl) (fun b' u hb hu=>(Heap.get?_update_other s.heap (Obj.mapSeq f) (Ne.symm hb)).trans hu) ⟨_,q⟩ ?_
 exact⟨hz,its',_,hv,q⟩
theorem Inv.lnew {its:List Value}{t':Nat}(I:Inv X pins σ H s)(hv:Vals ys its)(hz:ys.length<=sizeLine):
  Inv X pins σ (upd H s.heap.objs.size (.lst ys)) {s with heap:=s.heap.push {cls:=.type "list",data:=.seq its.toArray},toks:=t'}:=
 I.laid (fun _ _ q=>Heap.get?_push_of_some _ q) (Nat.le_refl _) ⟨hz,its,0,hv,Heap.get?_push_size _ rfl⟩
theorem Inv.fresh (I:Inv X pins σ H s):H s.heap.objs.size=none:=I.hok.fresh (Nat.le_refl _)
theorem Inv.lstM (I:Inv X pins σ H s)(hH:H l=some (.lst xs)):xs.length<=sizeLine/\∃(its:List Value)(n:Nat),Vals xs its/\xs.length=its.length/\s.heap.get? l=some {cls:=.type "list",data:=.seq its.toArray n}:=by
 obtain⟨z,its,n,r,e⟩:=I.hok l _ hH
 exact⟨z,its,n,r,r.length,e⟩
end
section
variable {X:Cx}
def A7b:V->List V->Hp->VK->Prop:=fun x vs H Q=> ∃l xs y,x= .ref l/\vs=[y]/\H l=some (.lst xs)/\xs.length<sizeLine/\Q .non (upd H l (.lst (xs++[y])))
theorem A8g:MtM X "list.append" A7b:=by
 intro pins s σ H x vs v us Q I rx rv h
 obtain⟨l,xs,y,rfl,rfl,hH,hz,q⟩:=h
 cases rx
 obtain⟨u,rfl,ru⟩:=rv.one
 obtain⟨z,its,n,r,hl,e⟩:=I.lstM hH
 refine call_meets F.slot_list_append ⟨_,e,rfl⟩ F.entry_list_append (F.args_list_append_2 _ _) (PySem.list_append l its.toArray n u (by rw [List.size_toArray];omega)) ⟨e,?_⟩
 refine⟨.non,_,I.lset (its':=its++[u]) hH e (by simp) (r.append (.cons ru .nil)) ?_,rfl,q⟩
 rw [List.length_append,List.length_singleton]
 omega
def A27:R2:=fun x y H Q=> ∃l b xs zs,x= .ref l/\y= .ref b/\H l=some (.lst xs)/\H b=some (.lst zs)/\xs.length+zs.length<=sizeLine/\∀p,H p=none->Q (.ref p) (upd H p (.lst (xs++zs)))
theorem kR:OpR X (binaryOp .Add) A27:=by
 intro pins s σ H x y v u Q I rx ry h
 obtain⟨l,b,xs,zs,rfl,rfl,hH,hB,hz,q⟩:=h
 cases rx
 cases ry
 obtain⟨z,its,n,r,hl,e⟩:=I.lstM hH
 obtain⟨z2,its2,n2,r2,hl2,e2⟩:=I.lstM hB
 refine PySem.P.add_list e e2 ?_ (by rw [List.size_toArray,List.size_toArray];omega)
 have ea:its.toArray++its2.toArray=(its++its2).toArray:=by simp
 rw [ea]
 exact⟨.ref _,_,I.lnew (t':=s.toks) (r.append r2) (by rw [List.length_append];omega),rfl,q _ I.fresh⟩
end
section
variable {prog:Program}{w:World}{A:Around}{E:Value->Shared->Prop}{s:Shared}
set_option maxRecDepth 100000 in
end
section
variable {X:Cx}
end
end L2
namespace Att
open PySem PySem.W PySem.Calls PyProof.Rows
theorem A4w {P:Params}{h:Heap}:∀(ns:List Int)(vs:List Value),WellAll P h vs (ns.map WData.int)->IntsAre vs ns:=by
 intro ns
 induction ns with
 |nil=>
  intro vs w
  rw [List.map_nil]at w
  cases w
  exact .nil
 |cons n ns ih=>
  intro vs w
  rw [List.map_cons]at w
  cases w with
  |cons a b=>
   cases a
   exact .cons _ _ (ih _ b)
theorem A6w {l:OpenLaw}{n:Nat}(hn:l.most=some n){P:Params}{h:Heap}{args:List WData}{vals:List Value}
  (hpre:l.row.toRowW.claim.pre args=true)(hwl:WellAll P h vals args):
  ∃a vs ns,vals=[Value.ref a]/\args=[WData.list (ns.map WData.int)]/\h.get? a=some {cls:=.type "list",data:=.seq vs.toArray}/\IntsAre vs ns/\ns.length<=n:=by
 have hsh:WShape.hasAll [] args [.list .int]=true:=(pre_splitW hpre).1
 have hc:l.pre.holds [] {args:=args}=true:=(pre_splitW hpre).2
 obtain⟨d,r,rfl,h1,h2⟩:=hasAllW_cons hsh
 obtain rfl:=hasAllW_nil h2
 obtain⟨xs,rfl,h3⟩:=hasW_list h1
 obtain⟨ns,rfl⟩:=items_int h3
 have hlen:ns.length<=n:=by
  unfold OpenLaw.pre at hc
  have h4:(WTm.not (.lt (.lit (.int (n:Int))) (.len (.arg 0)))).holds [] {args:=[.list (ns.map .int)]}=true:=by
   have h4:=(holds_andW hc).1
   rw [hn]at h4
   exact h4
  have h5:=condW_of h4 (w_not (w_lt w_lit (w_len_list (w_arg rfl))))
  rw [List.length_map]at h5
  refine Nat.le_of_not_lt fun q=> ?_
  have q':(n:Int)<((ns.length:Nat):Int):=by omega
  first
   | (rw [decide_eq_true q']at h5;exact absurd h5 (by decide))
   | (simp at h5;omega)
 cases hwl with
 |cons w1 w2=>
  cases w2
  cases w1 with
  |list ho hall=>exact⟨_,_,ns,rfl,rfl,ho,A4w ns _ hall,hlen⟩
theorem B1f (l:OpenLaw)(args:List WData):l.row.toRowW.claim.post args (.bool true) args=true:=
 postW_of (r:=l.row.toRowW) (X:=(true==true))
  (show WShape.has [] (.bool true) .bool=true by first|rfl|decide|simp [WShape.has,WShape.arms,WShape.armsAll])
  (show(WTm.eq .res (.lit (.bool true))).value [] {args:=args,res:=some (.bool true),after:=args}=some (.bool (true==true))from w_eq_bool (w_res rfl) w_lit) rfl
theorem attach_call {l:OpenLaw}{n:Nat}{q:Program}{loose:List Str}{XP:(Str->Option Value)->Heap->Prop}{YP:World->Heap->Prop}{d:DefRec}
  (hn:l.most=some n)(hdf:d.params.defaults=[])
  (call:∀(w:World)(s₀ s₁:Shared)(mg mb:Str->Option Value)(fa:Addr)(o:Obj)(pm cd doc:Value)(a:Addr)(vs:List Value)(ns:List Int),
   Ground q loose [] XP w s₀ mg mb s₁.heap->YP w s₁.heap->
   s₁.heap.get? fa=some o->o.data= .func (docDef d.name d.params d.body d.scope pm cd doc)->s₁.heap.CodeRec cd d.name->mg d.name=some (.ref fa)->
   s₁.heap.get? a=some {cls:=.type "list",data:=.seq vs.toArray}->IntsAre vs ns->ns.length<=n->s₁.gens= #[]->
   codeAny (model l.prog w) callerA (.call (.ref fa) ⟨[.ref a],[]⟩) (fun r s'=>r= .ok (.ret (.bool true))/\OldK s₁.heap s'.heap/\s'.os=s₁.os/\AllBare s'.gens) s₁):
  WalkO q loose XP YP l.row.toRowW d [] (fun f vs=>PySem.call f vs):=by
 intro w s₀ s₁ mg mb G Y fa o pm cd doc dV kV ho hd hcd hD hmg hg args vals as hpre hlay hrd hwl hlo
 obtain rfl:dV= .none:=Dflts.none hD hdf
 obtain rfl:kV= .none:=Dflts.noKw hD
 obtain⟨a,vs,ns,rfl,rfl,hobj,hints,hlen⟩:=A6w hn hpre hwl
 refine enter_call (codeAny_mono (call w s₀ s₁ mg mb fa o pm cd doc a vs ns G Y ho (fd_plain hd) hcd hmg hobj hints hlen hg) fun r s' hq=> ?_)
 obtain⟨rfl,h2,h3,h4⟩:=hq
 exact⟨.inl ⟨.bool true,.bool true,[],rfl,fun _=>rfl,.bool true,B1f l _,fun _=> ⟨List.Pairwise.nil,fun _ hm=>(nomatch hm)⟩⟩,h2,h3,h4⟩
section
variable {prog:Program}{w:World}{A:Around}{E:Value->Shared->Prop}{s:Shared}{K:Frag}
def ledger (h:Heap)(L d:Addr):List (Addr×Obj):=(List.range h.objs.size).filterMap fun a=>if a=L\/a=d then none else(h.get? a).map fun o=>(a,o)
end
end Att
namespace L2
open PySem PySem.Spec PyProof.Rows
theorem xP:∀{vs:List Value}{ns:List Int},IntsAre vs ns->Vals (ns.map V.int) vs
 |_,_,.nil=> .nil
 |_,_,.cons n t h=> .cons ⟨t,rfl⟩ (xP h)
def jO (s:Stmt):Arguments:=match s with
 | .FunctionDef _ a _ _ _ _ _ _ _ _=>a
 |_=> {posonlyargs:=[],args:=[],vararg:=none,kwonlyargs:=[],kw_defaults:=[],kwarg:=none,defaults:=[]}
def bX (s:Stmt):List Stmt:=match s with
 | .FunctionDef _ _ b _ _ _ _ _ _ _=>b
 |_=> []
def aQ (s:Stmt):Scope:=match s with
 | .FunctionDef _ _ _ _ _ _ sc _ _ _=>sc
 |_=> {kind:=.function,names:=[],isGenerator:=false,isCoroutine:=false}
abbrev CX0:CXT:=fun _ _ _ _ _ _=>False
abbrev E0:XK:=fun _ _ _=>False
theorem bA {X:Cx}:iB CX0 X E0:=fun _ _ _ _ _ _ _ h=>h.elim
structure Fun (K:W.Frag)(x qual:Str)(st:Stmt)(f:Addr)(fd:FuncData):Prop where
 ex:∃(oc:Value)(od:Option Addr)(kV doc pm:Value)(an:Option Addr)(cdv ct:Value)(osl:Array (Option Value)),
  fd=W.fnOf x qual (jO st) (bX st) (aQ st) .none kV doc pm an cdv ct/\K.lookup f=some ⟨oc,od,.func fd,osl⟩/\W.codeIn K cdv qual=true
 kp:W.keepIn K (.ref f)=true
section
variable {P:Program}{w:World}{K:W.Frag}{mg:Str->Option Value}{base:Heap}
theorem Fun.ok {x qual:Str}{st:Stmt}{f:Addr}{fd:FuncData}{N ps:List Str}{k:Nat}{sp:Sp}(F:Fun K x qual st f fd)(S:bH N ps (aQ st))(len:∀vs H Q E,sp vs H Q E->vs.length=ps.length)
  (hbody:∀(cdv:Value)(A:Around)(outer:List Env)(s:Shared)(H:Hp)(vs:List V)(Q:VK)(E:XK),Room k (A.deeper (envOfC qual (aQ st) s.heap.objs.size f cdv))->sp vs H Q E->
   ∃t,PSs (cN CX0 P w K mg base N qual (aQ st) f cdv A outer s H E).nox (bX st) t/\t {nx:=fun _ H'=>Q .non H',rt:=Q} (start N vs) H):aR P w K mg base CX0 (k+1) f fd ps sp:=by
 obtain⟨oc,od,kV,doc,pm,an,cdv,ct,osl,rfl,lk,hcd⟩:=F.ex
 refine uW lk hcd S len fun A outer s H vs Q E hr hsp=> ?_
 obtain⟨t,h,q⟩:=hbody cdv A outer s H vs Q E hr hsp
 exact⟨t,h.nox,q⟩
theorem Fun.binds {x qual:Str}{st:Stmt}{f:Addr}{fd:FuncData}{ps:List Str}(F:Fun K x qual st f fd)
  (h:∀(kV doc pm:Value)(an:Option Addr)(cdv ct:Value)(us:List Value),us.length=ps.length->bindArgs (W.fnOf x qual (jO st) (bX st) (aQ st) .none kV doc pm an cdv ct) ⟨us,[]⟩=pure (ps.zip us)):Binds K fd ps []:=by
 obtain⟨oc,od,kV,doc,pm,an,cdv,ct,osl,rfl,lk,hcd⟩:=F.ex
 exact .all (h kV doc pm an cdv ct)
theorem bO {x qual:Str}{st:Stmt}{f:Addr}{oc:Value}{od an:Option Addr}{osl:Array (Option Value)}{kV doc pm cdv ct:Value}(l:K.lookup f=some ⟨oc,od,.func (W.fnOf x qual (jO st) (bX st) (aQ st) .none kV doc pm an cdv ct),osl⟩)
  (c:W.codeIn K cdv qual=true)(k:W.keepIn K (.ref f)=true):Fun K x qual st f (W.fnOf x qual (jO st) (bX st) (aQ st) .none kV doc pm an cdv ct):=⟨⟨oc,od,kV,doc,pm,an,cdv,ct,osl,rfl,l,c⟩,k⟩
end
theorem iL {A:Around}{k:Nat}(hr:Room k A):A.units+1<cLine:=Nat.lt_of_le_of_lt (Nat.add_le_add_left (by decide:1<=64) _) hr.units
theorem eW {n:Nat}(h:n<=1000):n<sizeLine:=Nat.lt_of_le_of_lt h (by decide)
section
variable {X:Cx}
theorem pv (i:Nat){x:Str}{pos:Pos}(hN:X.N[i]?=some x:=by rfl)(hv:Vis X.env.scope x:=by first|exact Or.inl rfl|exact Or.inr (Or.inl rfl)|exact Or.inr (Or.inr rfl))(hd:(x==("__debug__":Str))=false:=by decide)
  (hcd:(x==("__classdict__":Str))=false:=by decide):PE X (.Name x pos) (fD i):=A18 hN hv hd hcd
end
theorem aY {A B:Prop}(h:B):if false=true then A else B:=by
 rw [if_neg Bool.false_ne_true]
 exact h
theorem bE {A B:Prop}(h:A):if true=true then A else B:=by
 rw [if_pos rfl]
 exact h
theorem nR {c A B:Prop} [Decidable c](hc:c)(h:B):if (!decide c)=true then A else B:=by
 rw [decide_eq_true hc]
 exact aY h
def Same (H H':Hp):Prop:=∀b o,H b=some o->H' b=some o
theorem Same.refl (H:Hp):Same H H:=fun _ _ h=>h
theorem Same.trans {H H1 H2:Hp}(a:Same H H1)(b:Same H1 H2):Same H H2:=fun c o h=>b c o (a c o h)
theorem Same.seq {K:W.Frag}{H H':Hp}{a:Addr}{xs:List V}(e:Same H H')(h:SqL K H a xs):SqL K H' a xs:=by
 rcases h with(h| ⟨o,h⟩)|h
 ·exact .inl (.inl (e _ _ h))
 ·exact .inl (.inr ⟨o,e _ _ h⟩)
 ·exact .inr h
section
variable {κ:Type} [DecidableEq κ]
def iE (kvs:List (κ×V))(k:κ):Option V:=(kvs.find? fun kv=>decide (kv.1=k)).map (·.2)
def eK (kvs:List (κ×V))(k:κ)(v:V):List (κ×V):=
 if (kvs.any fun kv=>decide (kv.1=k))=true then kvs.map (fun kv=>if kv.1=k then(kv.1,v)else kv)else kvs++[(k,v)]
theorem tJ {p:κ×V}{r:List (κ×V)}{k:κ}(e:p.1=k):iE (p::r) k=some p.2:=by simp [iE,List.find?_cons,e]
theorem vH {p:κ×V}{r:List (κ×V)}{k:κ}(e:¬p.1=k):iE (p::r) k=iE r k:=by simp [iE,List.find?_cons,e]
theorem A2e (k:κ):∀kvs:List (κ×V),(kvs.any fun kv=>decide (kv.1=k))=(iE kvs k).isSome
 | []=>rfl
 |p::r=>by
  rw [List.any_cons]
  by_cases e:p.1=k
  ·simp only [tJ e,decide_eq_true e,Bool.true_or,Option.isSome_some]
  ·rw [vH e,decide_eq_false e,Bool.false_or];exact A2e k r
theorem wK (kvs:List (κ×V))(k:κ)(v:V):(eK kvs k v).length<=kvs.length+1:=by
 unfold eK
 split
 ·rw [List.length_map];omega
 ·rw [List.length_append,List.length_cons,List.length_nil];omega
theorem RelO.isSome_eq {o:Option V}{u:Option Value}(r:RelO o u):o.isSome=u.isSome:=by
 cases o with
 |none=>cases u with
  |none=>rfl
  |some _=>exact(show False from r).elim
 |some _=>cases u with
  |none=>exact(show False from r).elim
  |some _=>rfl
theorem KV.val {kvs:List (κ×V)}{vs:List (κ×Value)}(r:KV kvs vs)(k:κ):RelO (iE kvs k) (valueAt vs k):=by
 unfold KV at r
 induction r with
 |nil=>exact True.intro
 | @cons p q ps qs h t ih=>
  obtain⟨h1,h2⟩:=h
  by_cases e:p.1=k
  ·have e':q.1=k:=h1.symm.trans e
   have b:valueAt (q::qs) k=some q.2:=by simp [valueAt,List.find?_cons,e']
   rw [tJ e,b];exact h2
  ·have e':¬q.1=k:=fun z=>e (h1.trans z)
   have b:valueAt (q::qs) k=valueAt qs k:=by simp [valueAt,List.find?_cons,e']
   rw [vH e,b];exact ih
theorem KV.any {kvs:List (κ×V)}{vs:List (κ×Value)}(r:KV kvs vs)(k:κ):(kvs.any fun kv=>decide (kv.1=k))=vs.any fun kv=>decide (kv.1=k):=by
 unfold KV at r
 induction r with
 |nil=>rfl
 |cons h t ih=>rw [List.any_cons,List.any_cons,ih,h.1]
theorem KV.repl {kvs:List (κ×V)}{vs:List (κ×Value)}(r:KV kvs vs)(k:κ){y:V}{u:Value}(ry:RelV y u):
  KV (kvs.map fun kv=>if kv.1=k then(kv.1,y)else kv) (vs.map fun kv=>if kv.1=k then(kv.1,u)else kv):=by
 unfold KV at r⊢
 induction r with
 |nil=>exact .nil
 | @cons p q ps qs h t ih=>
  rw [List.map_cons,List.map_cons]
  refine .cons ?_ ih
  obtain⟨h1,h2⟩:=h
  by_cases e:p.1=k
  ·rw [if_pos e,if_pos (h1.symm.trans e)];exact⟨h1,ry⟩
  ·rw [if_neg e,if_neg (fun z=>e (h1.trans z))];exact⟨h1,h2⟩
theorem KV.put {kvs:List (κ×V)}{vs:List (κ×Value)}(r:KV kvs vs)(k:κ){y:V}{u:Value}(ry:RelV y u):KV (eK kvs k y) (stored vs k u):=by
 unfold eK stored
 rw [r.any k]
 by_cases e:(vs.any fun kv=>decide (kv.1=k))=true
 ·rw [if_pos e,if_pos e];exact r.repl k ry
 ·rw [if_neg e,if_neg e];exact Paired.snoc r ⟨rfl,ry⟩
theorem KV.length {kvs:List (κ×V)}{vs:List (κ×Value)}(r:KV kvs vs):kvs.length=vs.length:=Paired.length r
end
theorem qM {P:Program}{w:World}{k:Key}{u:Value}(r:RelV (kV k) u):(eA P w).is k u=true:=by
 cases k with
 |inl i=>obtain⟨t,e⟩:=(show∃t,u=Value.int i t from r);subst e;exact A7v P w i t
 |inr x=>obtain⟨t,e⟩:=(show∃t,u=Value.str x t from r);subst e;exact B1n P w x t
theorem zR {P:Program}{w:World}:∀{ks:List Key}{us:List Value},Vals (ks.map kV) us->ItemsAre (eA P w) ks us
 | [],_,r=>by rw [List.map_nil]at r;cases r;exact .nil
 |k::ks,_,r=>by
  rw [List.map_cons]at r
  cases r with
  |cons h t=>exact .cons (qM h) (zR t)
abbrev KT (H:Hp):List (List Key×V)->List (List Key×Addr×Value)->Prop:=Paired fun p q=>p.1=q.1/\H q.2.1=some (.tup (p.1.map kV))/\RelV p.2 q.2.2
theorem KT.val {H:Hp}{kvs:List (List Key×V)}{xs:List (List Key×Addr×Value)}(r:KT H kvs xs)(k:List Key):RelO (iE kvs k) ((atKey xs k).map (·.2)):=by
 induction r with
 |nil=>exact True.intro
 | @cons p q ps qs h t ih=>
  obtain⟨h1,_,h2⟩:=h
  by_cases e:p.1=k
  ·have e':q.1=k:=h1.symm.trans e
   have b:atKey (q::qs) k=some q.2:=by simp [atKey,List.find?_cons,e']
   rw [tJ e,b];exact h2
  ·have e':¬q.1=k:=fun z=>e (h1.trans z)
   have b:atKey (q::qs) k=atKey qs k:=by simp [atKey,List.find?_cons,e']
   rw [vH e,b];exact ih
theorem KT.repl {H:Hp}{kvs:List (List Key×V)}{xs:List (List Key×Addr×Value)}(r:KT H kvs xs)(k:List Key){y:V}{u:Value}(ry:RelV y u):
  KT H (kvs.map fun kv=>if kv.1=k then(kv.1,y)else kv) (xs.map (putAt k u)):=by
 induction r with
 |nil=>exact .nil
 | @cons p q ps qs h t ih=>
  rw [List.map_cons,List.map_cons]
  refine .cons ?_ ih
  obtain⟨h1,h2,h3⟩:=h
  unfold putAt
  by_cases e:p.1=k
  ·rw [if_pos e,if_pos (h1.symm.trans e)];exact⟨h1,h2,ry⟩
  ·rw [if_neg e,if_neg (fun z=>e (h1.trans z))];exact⟨h1,h2,h3⟩
theorem KT.put {H:Hp}{kvs:List (List Key×V)}{xs:List (List Key×Addr×Value)}(r:KT H kvs xs)(k:List Key){b:Addr}{y:V}{u:Value}(hb:H b=some (.tup (k.map kV)))(ry:RelV y u):
  KT H (eK kvs k y) (storedH xs k b u):=by
 have e:(kvs.any fun kv=>decide (kv.1=k))=(atKey xs k).isSome:=by
  rw [A2e,(r.val k).isSome_eq,Option.isSome_map]
 unfold eK storedH
 rw [e]
 by_cases q:(atKey xs k).isSome=true
 ·rw [if_pos q,if_pos q];exact r.repl k ry
 ·rw [if_neg q,if_neg q];exact Paired.snoc r ⟨rfl,hb,ry⟩
theorem KT.keeps {H H':Hp}{kvs:List (List Key×V)}{xs:List (List Key×Addr×Value)}(r:KT H kvs xs)(ht:∀b ys,H b=some (.tup ys)->H' b=some (.tup ys)):KT H' kvs xs:=
 Paired.mapP r fun _ _ z=> ⟨z.1,ht _ _ z.2.1,z.2.2⟩
section
variable {P:Program}{w:World}{H:Hp}{h:Heap}{a:Addr}
theorem A1w {u:HO}(ok:HOk P w H h)(e:Rd H a u):ObjOk P w H h a u:=e.ok ok
theorem vB {kvs:List (Key×V)}(ok:HOk P w H h)(e:Rd H a (.dK kvs)):kvs.length<=sizeLine/\(a==sysModules)=false/\∃vs,KV kvs vs/\h.DictOf (eA P w) a vs:=
 show ObjOk P w H h a (.dK kvs)from A1w ok e
theorem zD {kvs:List (Key×V)}(ok:HOk P w H h)(e:H a=some (.dK kvs)):kvs.length<=sizeLine/\(a==sysModules)=false/\∃vs,KV kvs vs/\h.DictOf (eA P w) a vs:=vB ok (.inl e)
theorem vX {ks:List Key}(ok:HOk P w H h)(e:H a=some (.tup (ks.map kV))):(tupleKind (eA P w)).is h ks a:=by
 obtain⟨_,its,r,o,h1,h2,n,h3⟩:=(show ObjOk P w H h a (.tup (ks.map kV))from ok a _ e)
 exact⟨o,its.toArray,n,h1,h2,h3,by simpa using zR r⟩
theorem sC {kvs:List (List Key×V)}(ok:HOk P w H h)(e:Rd H a (.dT kvs)):kvs.length<=sizeLine/\(a==sysModules)=false/\
  ∃xs,KT H kvs xs/\h.DictOfH (tupleKind (eA P w)) a xs:=by
 obtain⟨z,y,xs,r,o,es,ep,h1,h2,h3,h4,h5⟩:=(show ObjOk P w H h a (.dT kvs)from A1w ok e)
 refine⟨z,y,xs,r,o,es,ep,h1,h2,h3,h4,fun x hx=> ?_,h5⟩
 have all:∀{l:List (List Key×V)}{m:List (List Key×Addr×Value)},KT H l m->∀x∈m,(tupleKind (eA P w)).is h x.1 x.2.1:=by
  intro l m q
  induction q with
  |nil=>intro x hx;exact nomatch hx
  | @cons p q ps qs hq t ih=>
   intro x hx
   rcases List.mem_cons.mp hx with e|hx
   ·subst e
    exact vX ok (by rw [←hq.1];exact hq.2.1)
   ·exact ih x hx
 exact all r x hx
theorem A9f {kvs:List (List Key×V)}(ok:HOk P w H h)(e:H a=some (.dT kvs)):kvs.length<=sizeLine/\(a==sysModules)=false/\
  ∃xs,KT H kvs xs/\h.DictOfH (tupleKind (eA P w)) a xs:=sC ok (.inl e)
end
def qO (H:Hp)(a:Addr)(y:V)(r:Option V):Prop:=
 (∃kvs k,Rd H a (.dK kvs)/\y=kV k/\r=iE kvs k)\/ ∃kvs k b,Rd H a (.dT kvs)/\y= .ref b/\H b=some (.tup (k.map kV))/\r=iE kvs k
def DPut (H:Hp)(a:Addr)(y v:V)(H':Hp):Prop:=
 (∃kvs k,H a=some (.dK kvs)/\y=kV k/\kvs.length<sizeLine/\H'=upd H a (.dK (eK kvs k v)))\/
 ∃kvs k b,H a=some (.dT kvs)/\y= .ref b/\H b=some (.tup (k.map kV))/\kvs.length<sizeLine/\H'=upd H a (.dT (eK kvs k v))
theorem DPut.t {H:Hp}{a b:Addr}{kvs:List (List Key×V)}{k:List Key}{v:V}(e:H a=some (.dT kvs))(eb:H b=some (.tup (k.map kV)))(hl:kvs.length<sizeLine):
  DPut H a (.ref b) v (upd H a (.dT (eK kvs k v))):=.inr ⟨kvs,k,b,e,rfl,eb,hl,rfl⟩
section
variable {X:Cx}{pins:List (Addr×Obj)}{σ:St}{H:Hp}{s:Shared}{a:Addr}{y v:V}{u r:Value}{o:Option V}{A:Around}{E:Value->Shared->Prop}
theorem Inv.big (I:Inv X pins σ H s):sysModules<s.heap.objs.size:=by
 have h:mainGlobals<s.heap.objs.size:=(I.mod.glob.keeps I.bk).lt
 exact Nat.lt_trans (by decide) h
theorem B2e {Q:Value->Shared->Prop}(hu:A.units+1<cLine)(I:Inv X pins σ H s)(g:qO H a y (some v))(ry:RelV y u)(h:∀w' s',Inv X pins σ H s'->RelV v w'->Q w' s'):
  wpAny (model X.prog X.w) A (getItem (.ref a) u) Q E s:=by
 rcases g with⟨kvs,k,e,ey,l⟩| ⟨kvs,k,b,e,ey,eb,l⟩
 ·subst ey
  obtain⟨z,hd,vs,rel,dd⟩:=vB I.hok e
  obtain⟨w',hw,rw'⟩:=RelO.some_of (v:=v) (o:=valueAt vs k) (by rw [l];exact rel.val k)
  exact wpAny_getItem_of (qM ry) dd.mapOf hw (h w' _ (I.tok _) rw')
 ·subst ey
  cases (show u=Value.ref b from ry)
  obtain⟨z,hd,xs,rel,dd⟩:=sC I.hok e
  obtain⟨w',hw,rw'⟩:=RelO.some_of (v:=v) (o:=(atKey xs k).map (·.2)) (by rw [l];exact rel.val k)
  obtain⟨p,hp,hp2⟩:=Option.map_eq_some_iff.mp hw
  refine wpAny_getItem_heap (tupleKind_room_in1 hu) (vX I.hok eb) dd hp ?_
  rw [hp2]
  exact h w' _ (I.tok _) rw'
theorem vU {h':Heap}{t':Nat}{ob:HO}(I:Inv X pins σ H s)(mu:Mut (H a))(hs:Heap.SameBut a s.heap h')(he:∃q,h'.get? a=some q)(new:ObjOk X.prog X.w (upd H a ob) h' a ob):
  Inv X pins σ (upd H a ob) {s with heap:=h',toks:=t'}:=
 I.write (x:=a) (e:=a) mu (.inl rfl) (fun b q hb z=>(hs.2 b hb).trans z) he new
theorem xB {P:Program}{w:World}{H':Hp}{h':Heap}{kvs:List (Key×V)}{vs:List (Key×Value)}(z:kvs.length<=sizeLine)(hd:(a==sysModules)=false)(rel:KV kvs vs)(dd:h'.DictOf (eA P w) a vs):
  ObjOk P w H' h' a (.dK kvs):=⟨z,hd,vs,rel,dd⟩
theorem B03 {H':Hp}{Q:Unit->Shared->Prop}(hu:A.units+1<cLine)(I:Inv X pins σ H s)(g:DPut H a y v H')(ry:RelV y u)(rv:RelV v r)(h:∀s',Inv X pins σ H' s'->Q () s'):
  wpAny (model X.prog X.w) A (setItem (.ref a) u r) Q E s:=by
 rcases g with⟨kvs,k,e,ey,l,eH⟩| ⟨kvs,k,b,e,ey,eb,l,eH⟩
 ·subst ey eH
  obtain⟨z,hd,vs,rel,dd⟩:=zD I.hok e
  have hz:vs.length<=sizeLine:=by rw [←rel.length];exact z
  have hl:(eK kvs k v).length<=sizeLine:=by have:=wK kvs k v;omega
  refine wpAny_setItem_pairs (hsz:=hz) (qM ry) dd fun h' dd' hs=>h _ ?_
  have he:∃q,h'.get? a=some q:=let ⟨q,_,_,hq,_⟩:=dd';⟨q,hq⟩
  exact vU I (by rw [e];exact True.intro) hs he (xB hl hd (rel.put k rv) dd')
 ·subst ey eH
  cases (show u=Value.ref b from ry)
  obtain⟨z,hd,xs,rel,dd⟩:=A9f I.hok e
  have hz:xs.length<=sizeLine:=by rw [←Paired.length rel];exact z
  have hl:(eK kvs k v).length<=sizeLine:=by have:=wK kvs k v;omega
  refine wpAny_setItem_heap (hsz:=hz) (tupleKind_room_in1 hu) (vX I.hok eb) dd fun h' dd' hs=>h _ ?_
  obtain⟨q,es,ep,hq,h2,h3,h4,_,h5⟩:=dd'
  refine vU I (by rw [e];exact True.intro) hs ⟨q,hq⟩ ⟨hl,hd,_,(rel.put k eb rv).keeps fun c ys ec=> ?_,q,es,ep,hq,h2,h3,h4,h5⟩
  rw [aS (A6j ec e (fun z=>nomatch z))]
  exact ec
end
section
variable {X:Cx}{pins:List (Addr×Obj)}{σ:St}{H:Hp}{s:Shared}{a:Addr}{kvs:List (Key×V)}{k:Key}{u:Value}{A:Around}{E:Value->Shared->Prop}
end
def A2b (i:Expr):Prop:=∀ov iv,subscripted i false ov iv=operate [ov,iv] (getItem ov iv)
theorem A9x {prog:Program}{w:World}{A:Around}{E:Value->Shared->Prop}{s:Shared}{env:Env}{value slice:Expr}{pos:Pos}{T id:String}{Q:Value->Shared->Prop}
  (hl:typeLookup (.type T) "__getitem__" =pure (some (.builtin id)))(hs:A2b slice)
  (h:wpAny (model prog w) A (eval value env) (fun o s₁=>wpAny (model prog w) A (eval slice env) (fun i s₂=>s₂.TypeIs o T/\wpAny (model prog w) A (getItem o i) Q E s₂) E s₁) E s):
  wpAny (model prog w) A (eval (.Subscript value slice pos) env) Q E s:=by
 refine Subscript_ (wpAny_mono h (fun o s₁ h₁=>wpAny_mono h₁ (fun i s₂ h₂=> ?_) fun _ _ x=>x) fun _ _ x=>x)
 obtain⟨hT,h₂⟩:=h₂
 unfold subscriptTail
 refine wpAny_bind ?_
 rw [getitemInPython_of_ne hT.not_modules]
 refine wpAny_bind (wpAny_specialOf hT hl ?_)
 have fin:wpAny (model prog w) A (subscripted slice false o i) (fun r s₃=>wpAny (model prog w) A (letTemporaryGo value o r>>=fun _=>pure r) Q E s₃) E s₂:=by
  rw [hs o i]
  exact wpAny_operating (wpAny_mono h₂ (fun r s₃ h₃=>wpAny_bind (wpAny_letTemporaryGo (wpAny_pure h₃))) fun _ _ x=>x)
 first
  |exact wpAny_pure (wpAny_bind fin)
  |exact wpAny_bind (wpAny_pure (wpAny_bind fin))
  |exact wpAny_bind fin
theorem B1v {X:Cx}{pins:List (Addr×Obj)}{σ:St}{H:Hp}{s:Shared}{a:Addr}{y:V}{o:Option V}(I:Inv X pins σ H s)(g:qO H a y o):s.TypeIs (.ref a) "dict":=by
 rcases g with⟨kvs,k,e,_,_⟩| ⟨kvs,k,b,e,_,_,_⟩
 ·obtain⟨_,_,vs,_,dd⟩:=vB I.hok e
  exact dd.typeIs
 ·obtain⟨_,_,xs,_,dd⟩:=sC I.hok e
  exact dd.typeIs
def A2t (td ty:TE):TE:=fun σ H Q=>td σ H fun x H1=>ty σ H1 fun y H2=> ∃a v,x= .ref a/\qO H2 a y (some v)/\Q v H2
def A4a (td ty tv:TE):TS:=fun D σ H=>tv σ H fun v H1=>td σ H1 fun x H2=>ty σ H2 fun y H3=> ∃a H4,x= .ref a/\DPut H3 a y v H4/\D.nx σ H4
section
variable {X:Cx}{o i e value:Expr}{pos pos' tpos:Pos}{td ty tv:TE}
theorem A8x (hu:X.A.units+1<cLine)(ho:PE X o td)(hi:PE X i ty)(hs:A2b i):PE X (.Subscript o i pos) (A2t td ty):=by
 intro pins s σ H Q I h
 refine A9x PySem.F.slot_dict_getitem.lookup hs (thn (ho pins s σ H _ I h) fun u s1 ⟨x,H1,I1,rx,q1⟩=>thn (hi pins s1 σ H1 _ I1 q1) fun iv s2 ⟨y,H2,I2,ry,a,v,ex,g,q2⟩=> ?_)
 subst ex
 obtain rfl:u=Value.ref a:=rx
 exact⟨B1v I2 g,B2e hu I2 g ry fun w' s3 I3 rw'=> ⟨v,H2,I3,rw',q2⟩⟩
theorem A49 (hu:X.A.units+1<cLine)(ho:PE X o td)(hi:PE X i ty)(hv:PE X value tv)(hs:swapsWith value (some (.Subscript o i pos')) pos.line X.env=pure false):
  PS X (.Assign [.Subscript o i pos'] value pos) (A4a td ty tv):=by
 intro pins s σ H D I h
 refine wpAny_Assign_Subscript (thn (hv pins s σ H _ I h) fun r s1 ⟨v,H1,I1,rv,q1⟩=>thn (ho pins s1 σ H1 _ I1 q1) fun u s2 ⟨x,H2,I2,rx,q2⟩=>thn (hi pins s2 σ H2 _ I2 q2) fun iv s3 ⟨y,H3,I3,ry,a,H4,ex,g,q3⟩=> ?_) hs
 subst ex
 obtain rfl:u=Value.ref a:=rx
 exact B03 hu I3 g ry rv fun s4 I4=> ⟨σ,H4,I4,q3⟩
end
theorem A1h {P:Program}{w:World}{H:Hp}(h:Heap)(hb:sysModules<h.objs.size):ObjOk P w H (h.push {cls:=.type "dict",data:=.dict #[]}) h.objs.size (.dK []):=
 ⟨Nat.zero_le _,beq_eq_false_iff_ne.mpr (Ne.symm (Nat.ne_of_lt hb)),[],.nil,Heap.DictOf.new h⟩
theorem A8y {P:Program}{w:World}{H:Hp}(h:Heap)(hb:sysModules<h.objs.size):ObjOk P w H (h.push {cls:=.type "dict",data:=.dict #[]}) h.objs.size (.dT []):=
 ⟨Nat.zero_le _,beq_eq_false_iff_ne.mpr (Ne.symm (Nat.ne_of_lt hb)),[],.nil,_,#[],0,Heap.get?_push_size _ rfl,⟨rfl,rfl,rfl⟩,rfl,rfl,List.nodup_nil⟩
def A00:TE:=fun _ H Q=> ∀p,H p=none->Q (.ref p) (upd H p (.dK []))
def A41:TE:=fun _ H Q=> ∀p,H p=none->Q (.ref p) (upd H p (.dT []))
section
variable {X:Cx}{pos:Pos}
theorem A8z:PE X (.Dict [] [] pos) A00:=fun pins s σ H Q I h=>
 wpAny_Dict_empty ⟨.ref s.heap.objs.size,_,I.laid (a:=s.heap.objs.size) (o:=.dK []) (t':=s.toks) (fun _ _ q=>Heap.get?_push_of_some _ q) (Nat.le_refl _) (A1h s.heap I.big),rfl,h _ (I.hok.fresh (Nat.le_refl _))⟩
theorem A6o:PE X (.Dict [] [] pos) A41:=fun pins s σ H Q I h=>
 wpAny_Dict_empty ⟨.ref s.heap.objs.size,_,I.laid (a:=s.heap.objs.size) (o:=.dT []) (t':=s.toks) (fun _ _ q=>Heap.get?_push_of_some _ q) (Nat.le_refl _) (A8y s.heap I.big),rfl,h _ (I.hok.fresh (Nat.le_refl _))⟩
end
def uC:List (TE×TE)->St->Hp->(List (V×V)->Hp->Prop)->Prop
 | [],_,H,Q=>Q [] H
 | (tk,tv)::r,σ,H,Q=>tk σ H fun x H1=>tv σ H1 fun y H2=>uC r σ H2 fun ps H3=>Q ((x,y)::ps) H3
abbrev VV:List (V×V)->List (Value×Value)->Prop:=Paired fun p q=>RelV p.1 q.1/\RelV p.2 q.2
def PPs (X:Cx)(pos:Pos)(keys:List (Option Expr))(values:List Expr)(trs:List (TE×TE)):Prop:=
 ∀(pins:List (Addr×Obj))(s:Shared)(σ:St)(H:Hp)(Q:List (V×V)->Hp->Prop),Inv X pins σ H s->uC trs σ H Q->
  wpAny (model X.prog X.w) X.A (evalPairs (pairTrees keys values X.env pos)) (fun vs s'=> ∃ps H',Inv X pins σ H' s'/\VV ps vs/\Q ps H') X.xe s
theorem A04 {X:Cx}{pos:Pos}:PPs X pos [] [] []:=fun pins s σ H Q I h=>pairTrees_nil_walk ⟨[],H,I,.nil,h⟩
theorem wB {X:Cx}{pos:Pos}{k v:Expr}{ks:List (Option Expr)}{vs:List Expr}{tk tv:TE}{trs:List (TE×TE)}(hk:PE X k tk)(hv:PE X v tv)(hr:PPs X pos ks vs trs):
  PPs X pos (some k::ks) (v::vs) ((tk,tv)::trs):=fun pins s σ H Q I h=>
 pairTrees_cons_walk (thn (hk pins s σ H _ I h) fun u s1 ⟨x,H1,I1,rx,q1⟩=>thn (hv pins s1 σ H1 _ I1 q1) fun w2 s2 ⟨y,H2,I2,ry,q2⟩=>
  thn (hr pins s2 σ H2 _ I2 q2) fun ws s3 ⟨ps,H3,I3,rel,q3⟩=> ⟨(x,y)::ps,H3,I3,.cons ⟨rx,ry⟩ rel,q3⟩)
def iR (kvs more:List (Key×V)):List (Key×V):=more.foldl (fun acc kv=>eK acc kv.1 kv.2) kvs
theorem KV.merge:∀{more:List (Key×V)}{rs:List (Key×Value)}{kvs:List (Key×V)}{vs:List (Key×Value)},KV more rs->KV kvs vs->KV (iR kvs more) (merged vs rs):=by
 intro more rs kvs vs r
 unfold KV at r
 induction r generalizing kvs vs with
 |nil=>intro q;exact q
 | @cons p q ps qs h t ih=>
  intro r0
  have e:KV (eK kvs p.1 p.2) (stored vs q.1 q.2):=by
   have:=r0.put p.1 h.2
   rw [←h.1];exact this
  exact ih e
theorem A0p:∀(more kvs:List (Key×V)),(iR kvs more).length<=kvs.length+more.length
 | [],kvs=>by show kvs.length<=kvs.length+0;omega
 |p::r,kvs=>by
  have h1:=A0p r (eK kvs p.1 p.2)
  have h2:=wK kvs p.1 p.2
  show(iR (eK kvs p.1 p.2) r).length<=_
  rw [List.length_cons];omega
theorem wR {P:Program}{w:World}:∀{kvs:List (Key×V)}{ws:List (Value×Value)},VV (kvs.map fun kv=>(kV kv.1,kv.2)) ws->∃rs,Carries (eA P w) ws rs/\KV kvs rs
 | [],_,r=>by rw [List.map_nil]at r;cases r;exact⟨[],True.intro,.nil⟩
 |p::kvs,_,r=>by
  rw [List.map_cons]at r
  cases r with
  | @cons a b as bs h t=>
   obtain⟨rs,c,q⟩:=wR (P:=P) (w:=w) t
   obtain⟨b1,b2⟩:=b
   exact⟨(p.1,b2)::rs,⟨qM h.1,rfl,c⟩,.cons ⟨rfl,h.2⟩ q⟩
def xU (trs:List (TE×TE)):TE:=fun σ H Q=> ∀p,H p=none->uC trs σ (upd H p (.dK [])) fun ps H2=>H2 p=some (.dK [])/\∃kvs:List (Key×V),ps=kvs.map (fun kv=>(kV kv.1,kv.2))/\kvs.length<=15/\Q (.ref p) (upd H2 p (.dK (iR [] kvs)))
theorem A02 {X:Cx}{pos:Pos}{keys:List (Option Expr)}{values:List Expr}{trs:List (TE×TE)}(h:PPs X pos keys values trs)(hall:keys.all (·.isSome)=true)(hl:keys.length=values.length)(h0:keys≠[])
  (h15:keys.length<=15):PE X (.Dict keys values pos) (xU trs):=by
 intro pins s σ H Q I q
 have hn:=I.hok.fresh (Nat.le_refl s.heap.objs.size)
 have I1:=I.laid (a:=s.heap.objs.size) (o:=.dK []) (h':=s.heap.push {cls:=.type "dict",data:=.dict #[]}) (t':=s.toks) (fun _ _ q=>Heap.get?_push_of_some _ q) (Nat.le_refl _) (A1h s.heap I.big)
 refine wpAny_Dict_walk (knd:=eA X.prog X.w) hall hl h0 h15 (thn (h pins _ σ _ _ I1 (q _ hn)) fun ws s2 ⟨ps,H2,I2,rel,e,kvs,ep,lk,q2⟩=> ?_)
 subst ep
 obtain⟨rs,c,rk⟩:=wR (P:=X.prog) (w:=X.w) rel
 obtain⟨z,hd,vs0,r0,dd⟩:=zD I2.hok e
 cases r0
 refine⟨rs,c,dd,fun h' dd' hs=> ⟨.ref s.heap.objs.size,_,?_,rfl,q2⟩⟩
 have hz:(iR [] kvs).length<=sizeLine:=by
  have h1:=A0p kvs []
  rw [List.length_nil]at h1
  rw [sizeLine_eq];omega
 have he:∃q,h'.get? s.heap.objs.size=some q:=let ⟨q,_,_,hq,_⟩:=dd';⟨q,hq⟩
 exact vU I2 (by rw [e];exact True.intro) hs he (xB hz hd (rk.merge .nil) dd')
end L2
set_option maxHeartbeats 4000000
namespace L2
open PySem PySem.Spec PyProof.Rows
structure fH where
 cl:List (Str×Addr)
 C:Addr
 s:Shared
 H:Hp
 fp:List Addr
 pn:List (Addr×Obj)
def fQ (X:Cx)(N:List Str)(scope:Scope)(Z:fH):Cx where
 prog:=X.prog
 w:=X.w
 K:=X.K
 mg:=X.mg
 base:=X.base
 A:=X.A
 N:=N
 s₀:=Z.s
 H₀:=Z.H
 env:=compEnvC scope Z.cl Z.C X.env
 outer:=X.stack
 stack:=X.stack
 ex:=Z.fp
 fn:=fun _=>false
 calm:=X.calm
 pn:=Z.pn
 xe:=fun _ _=>False
def lQ (ns:List (Str×NameKind))(N:List Str)(scope:Scope)(frees:List (Str×Nat)):Prop:=
 (∀x∈scope.names,x.2≠ .cell/\(x.2= .local->scope.names.lookup x.1=some .local)/\(x.2= .free->ns.lookup x.1=some .cell\/ns.lookup x.1=some .free))/\
 ∀p∈frees,N[p.2]?=some p.1/\scope.names.lookup p.1=some .free/\(ns.lookup p.1=some .cell\/ns.lookup p.1=some .free)
instance (ns:List (Str×NameKind)) (N:List Str) (scope:Scope) (frees:List (Str×Nat)):Decidable (lQ ns N scope frees):=by unfold lQ;infer_instance
def σC (n:Nat)(frees:List (Str×Nat))(σ:St):St:=List.replicate n none++frees.map fun p=>(σ[p.2]?).join
theorem zJ {env:Env}{scope:Scope}(hf:∀x∈scope.names,x.2= .free->∃c,env.cells.lookup x.1=some c):
  ∃cl,closureFor scope env=pure cl/\(∀x c,cl.lookup x=some c->env.cells.lookup x=some c)/\∀x,(x,NameKind.free)∈scope.names->∃c,cl.lookup x=some c:=by
 have go:∀(names:List (Str×NameKind))(cs:List (Str×Addr)),(∀x∈names,x.2= .free->∃c,env.cells.lookup x.1=some c)->(∀x c,cs.lookup x=some c->env.cells.lookup x=some c)->
   ∃cl,(forIn names cs (fun(x:Str×NameKind) (r:List (Str×Addr))=>(if (x.2==NameKind.free)=true then(do let a←cellOf env x.1;pure (ForInStep.yield ((x.1,a)::r)))else pure (ForInStep.yield r):Sem (ForInStep (List (Str×Addr))))))=pure cl/\
    (∀x c,cl.lookup x=some c->env.cells.lookup x=some c)/\(∀x c,cs.lookup x=some c->∃c',cl.lookup x=some c')/\∀x,(x,NameKind.free)∈names->∃c,cl.lookup x=some c:=by
  intro names
  induction names with
  |nil=>intro cs _ h;exact⟨cs,rfl,h,fun x c e=> ⟨c,e⟩,fun x hx=>nomatch hx⟩
  |cons y r ih=>
   intro cs hf h
   obtain⟨n,k⟩:=y
   have hr:∀x∈r,x.2= .free->∃c,env.cells.lookup x.1=some c:=fun x hx=>hf x (List.mem_cons_of_mem _ hx)
   by_cases hk:k= .free
   ·subst hk
    obtain⟨c,hc⟩:=hf (n,.free) List.mem_cons_self rfl
    have h2:∀x c',((n,c)::cs).lookup x=some c'->env.cells.lookup x=some c':=fun x c' e=>by
     rw [List.lookup_cons]at e
     cases hx:x==n with
     |true=>
      rw [hx]at e
      have:x=n:=eq_of_beq hx
      cases e
      rw [this];exact hc
     |false=>rw [hx]at e;exact h x c' e
    obtain⟨cl,e1,e2,e3,e4⟩:=ih ((n,c)::cs) hr h2
    refine⟨cl,?_,e2,fun x c' e=> ?_,fun x hx=> ?_⟩
    ·rw [List.forIn_cons]
     have:cellOf env n=pure c:=by unfold cellOf;rw [hc]
     simp only [beq_self_eq_true,if_true,this,pure_bind]
     exact e1
    ·cases hx:x==n with
     |true=>exact e3 x c (by rw [List.lookup_cons,hx])
     |false=>exact e3 x c' (by rw [List.lookup_cons,hx];exact e)
    ·rcases List.mem_cons.mp hx with z|z
     ·cases z
      exact e3 n c (by rw [List.lookup_cons,beq_self_eq_true])
     ·exact e4 x z
   ·obtain⟨cl,e1,e2,e3,e4⟩:=ih cs hr h
    refine⟨cl,?_,e2,e3,fun x hx=> ?_⟩
    ·rw [List.forIn_cons]
     have hb:(k==NameKind.free)=false:=by simpa using hk
     simp only [hb,Bool.false_eq_true,if_false,pure_bind]
     exact e1
    ·rcases List.mem_cons.mp hx with z|z
     ·cases z;exact absurd rfl hk
     ·exact e4 x z
 obtain⟨cl,e1,e2,_,e4⟩:=go scope.names [] hf (fun x c e=>by simp at e)
 refine⟨cl,?_,e2,e4⟩
 unfold closureFor
 first
  | (rw [e1];rfl)
  | (simp only [e1];rfl)
  |simp [e1]
theorem zT {env:Env}:∀{names:List (Str×NameKind)}{x:Str},names.lookup x=some .free->
  (names.map fun(n,k)=>if (k==NameKind.free&&env.scope.kind== .function&&env.kindOf n==some .cell)then(n,NameKind.cell)else(n,k)).lookup x=some .cell\/
  (names.map fun(n,k)=>if (k==NameKind.free&&env.scope.kind== .function&&env.kindOf n==some .cell)then(n,NameKind.cell)else(n,k)).lookup x=some .free
 | [],_,h=>by simp at h
 | (n,k)::r,x,h=>by
  have ih:=@zT env r x
  show List.lookup x ((if (k==NameKind.free&&env.scope.kind== .function&&env.kindOf n==some .cell)=true then(n,NameKind.cell)else(n,k))::_)=_\/List.lookup x ((if (k==NameKind.free&&env.scope.kind== .function&&env.kindOf n==some .cell)=true then(n,NameKind.cell)else(n,k))::_)=_
  cases hx:x==n with
  |true=>
   simp only [List.lookup_cons,hx]at h
   cases h
   by_cases hc:(NameKind.free==NameKind.free&&env.scope.kind== .function&&env.kindOf n==some .cell)=true
   ·rw [if_pos hc];left;rw [List.lookup_cons,hx]
   ·rw [if_neg hc];right;rw [List.lookup_cons,hx]
  |false=>
   simp only [List.lookup_cons,hx]at h
   by_cases hc:(k==NameKind.free&&env.scope.kind== .function&&env.kindOf n==some .cell)=true
   ·rw [if_pos hc];simp only [List.lookup_cons,hx];exact ih h
   ·rw [if_neg hc];simp only [List.lookup_cons,hx];exact ih h
theorem relabel_back {env:Env}:∀{names:List (Str×NameKind)}{x:Str},
    ((names.map fun(n,k)=>if (k==NameKind.free&&env.scope.kind== .function&&env.kindOf n==some .cell)then(n,NameKind.cell)else(n,k)).lookup x=some .cell\/
     (names.map fun(n,k)=>if (k==NameKind.free&&env.scope.kind== .function&&env.kindOf n==some .cell)then(n,NameKind.cell)else(n,k)).lookup x=some .free)->
    (x,NameKind.free)∈names\/(x,NameKind.cell)∈names
  | [],_,h=>by simp at h
  | (n,k)::r,x,h=>by
    have ih:=@relabel_back env r x
    replace h:List.lookup x ((if (k==NameKind.free&&env.scope.kind== .function&&env.kindOf n==some .cell)=true then(n,NameKind.cell)else(n,k))::_)=_\/List.lookup x ((if (k==NameKind.free&&env.scope.kind== .function&&env.kindOf n==some .cell)=true then(n,NameKind.cell)else(n,k))::_)=_:=h
    cases hx:x==n with
    |true=>
      have e:x=n:=eq_of_beq hx
      subst e
      by_cases hc:(k==NameKind.free&&env.scope.kind== .function&&env.kindOf x==some .cell)=true
      · have:k= .free:=by
          simp only [Bool.and_eq_true]at hc
          exact eq_of_beq hc.1.1
        subst this
        exact .inl List.mem_cons_self
      · rw [if_neg hc]at h
        simp only [List.lookup_cons,hx,Option.some.injEq]at h
        rcases h with h|h
        · subst h;exact .inr List.mem_cons_self
        · subst h;exact .inl List.mem_cons_self
    |false=>
      have h':_:=h
      by_cases hc:(k==NameKind.free&&env.scope.kind== .function&&env.kindOf n==some .cell)=true
      · rw [if_pos hc]at h;simp only [List.lookup_cons,hx]at h
        rcases ih h with z|z
        · exact .inl (List.mem_cons_of_mem _ z)
        · exact .inr (List.mem_cons_of_mem _ z)
      · rw [if_neg hc]at h;simp only [List.lookup_cons,hx]at h
        rcases ih h with z|z
        · exact .inl (List.mem_cons_of_mem _ z)
        · exact .inr (List.mem_cons_of_mem _ z)
section
variable {X:Cx}{pins:List (Addr×Obj)}{σ:St}{H2:Hp}{s2:Shared}{scope:Scope}{loc:List Str}{frees:List (Str×Nat)}{ns:List (Str×NameKind)}{N:List Str}{fp:List Addr}{cl:List (Str×Addr)}
theorem A8j (I2:Inv X pins σ H2 s2)(hns:X.env.scope.names=ns)(hN:X.N=N)(hk:scope.kind= .function)(ok:lQ ns N scope frees)(f2:∀b∈fp,fP X pins H2 b)(hlive:∀b∈fp,∃o,s2.heap.get? b=some o)
  (hc1:∀x c,cl.lookup x=some c->X.env.cells.lookup x=some c)(hc2:∀x,(x,NameKind.free)∈scope.names->∃c,cl.lookup x=some c)
  {C:Addr}{h4:Heap}{tk:Nat}(hC:C=s2.heap.objs.size+1)(hnsC:∃m,h4.Ns C m)(hacc:h4.get? s2.heap.objs.size=some {cls:=.type "list",dict:=none,data:=.seq ([]:List Value).toArray})
  (hkeep:∀b o,s2.heap.get? b=some o->h4.get? b=some o):
  Inv (fQ X (loc++frees.map (·.1)) scope ⟨cl,C,s2,H2,fp,X.pn++pins⟩) [] (σC loc.length frees σ) (upd H2 s2.heap.objs.size (.lst [])) {s2 with heap:=h4,toks:=tk}:=by
 have below:∀{b:Addr}{o:Obj},s2.heap.get? b=some o->b≠C:=fun{b o} e z=>by
  have:=Heap.lt_size e
  rw [z,hC]at this
  exact Nat.lt_irrefl _ (Nat.lt_of_succ_lt this)
 have hl:H2 s2.heap.objs.size=none:=I2.hok.fresh (Nat.le_refl _)
 have hCn:H2 C=none:=I2.hok.fresh (by rw [hC];exact Nat.le_succ _)
 have cne:∀x c,X.env.cells.lookup x=some c->∃o v,s2.heap.get? c=some o/\o.data= .cell v:=fun x c e=>by
  obtain⟨v,o,ho,hd⟩:=I2.cell x c e
  exact⟨o,v,ho,hd⟩
 obtain⟨mC,hmC⟩:=hnsC
 have hCl:C≠s2.heap.objs.size:=by rw [hC];exact Nat.succ_ne_self _
 refine⟨⟨I2.ok.mod,hk,I2.ok.glob,I2.ok.blt,?_,fun x y c h1 h2=>I2.ok.inj x y c (hc1 x c h1) (hc1 y c h2),fun x hx=> ?_,fun x c h=>(Bool.false_ne_true h).elim,I2.ok.hd,I2.ok.frames,.inl rfl,fun b hb=> ⟨?_,fun x c e z=> ?_⟩,I2.bs,Nat.le_trans I2.ok.bsz I2.sz,fun b o e hb=> ?_,fun b hb hfs=> ?_,I2.stack,I2.stkFree⟩,
  rfl,I2.bare,?_,⟨mC,hmC,fun i x v h1 h2 h3=> ?_⟩,fun x c e=> ?_,?_,fun x c e=> ?_,fun p hp=> ?_,?_,?_⟩
 ·show s2.heap.objs.size<=C
  rw [hC];exact Nat.le_succ _
 ·
  have hx':(relabel scope X.env).names.lookup x=some .cell\/(relabel scope X.env).names.lookup x=some .free:=hx
  rcases relabel_back hx' with z|z
  ·exact hc2 x z
  ·exact absurd rfl (ok.1 _ z).1
 ·obtain⟨o,ho⟩:=hlive b hb
  exact below ho
 ·exact(f2 b hb).2.2.2.2.1 x c (hc1 x c e) z
 ·rcases(f2 b hb).2.2.2.1 with z|z
  ·exact I2.ok.noex b o e z
  ·exact absurd (Nat.lt_of_lt_of_le (Heap.lt_size (I2.ok.bs b o e).1) z) (Nat.lt_irrefl _)
 ·rcases List.mem_cons.mp (I2.stkSub b hfs)with z|z
  ·exact(f2 b hb).2.1 z
  ·exact(f2 b hb).2.2.1 z
 ·exact Un.laid hkeep (Nat.le_refl _) hl
 ·
  have hi:¬i<loc.length:=fun hlt=>by
   unfold σC at h2
   rw [List.getElem?_append_left (by simpa using hlt),List.getElem?_replicate]at h2
   simp [hlt]at h2
  have h2':(frees[i - loc.length]?).map (fun p=>(σ[p.2]?).join)=some (some v):=by
   unfold σC at h2
   rw [List.getElem?_append_right (by simpa using hi),List.length_replicate,List.getElem?_map]at h2
   exact h2
  have h1':(frees[i - loc.length]?).map (·.1)=some x:=by
   have h1:(loc++frees.map (·.1))[i]?=some x:=h1
   rw [List.getElem?_append_right (by omega),List.getElem?_map]at h1
   exact h1
  cases ep:frees[i - loc.length]? with
  |none=>rw [ep]at h1';simp at h1'
  |some p=>
   rw [ep]at h1' h2'
   simp only [Option.map_some,Option.some.injEq]at h1' h2'
   obtain⟨q1,q2,q3⟩:=ok.2 p (List.mem_of_getElem? ep)
   have hσ:σ[p.2]?=some (some v):=by
    cases e:σ[p.2]? with
    |none=>rw [e]at h2';simp at h2'
    |some o=>rw [e]at h2';simp at h2';rw [h2']
   have vis:Vis X.env.scope p.1:=by
    show _\/_
    rw [hns];rcases q3 with z|z
    ·exact .inr (.inl z)
    ·exact .inr (.inr z)
   obtain⟨m,hn,hlk⟩:=I2.loc
   obtain⟨u,ru,lk⟩:=hlk p.2 p.1 v (by rw [hN];exact q1) hσ vis
   refine⟨u,ru,.inr ?_⟩
   rw [←h1']
   rcases lk with⟨z,_⟩| ⟨_,c,ec,hcell⟩
   ·have z':X.env.scope.names.lookup p.1=some .local:=z
    rw [hns]at z'
    rcases q3 with y|y<;>rw [z']at y<;>cases y
   ·obtain⟨c',hc'⟩:=hc2 p.1 (PySem.mem_of_lookup q2)
    have:c'=c:=by have:=hc1 _ _ hc';rw [ec]at this;exact(Option.some.inj this).symm
    subst this
    refine⟨zT q2,c',hc',?_⟩
    obtain⟨o,ho,hd⟩:=hcell
    exact⟨o,hkeep _ _ ho,hd⟩
 ·obtain⟨o,v,ho,hd⟩:=cne x c (hc1 x c e)
  exact⟨v,o,hkeep _ _ ho,hd⟩
 ·show upd H2 _ _ C=none
  rw [aS hCl];exact hCn
 ·obtain⟨o,v,ho,hd⟩:=cne x c (hc1 x c e)
  have:c≠s2.heap.objs.size:=Nat.ne_of_lt (Heap.lt_size ho)
  rw [aS this]
  exact I2.freeC x c (hc1 x c e)
 ·have hp':p∈X.pn++pins:=by
   rcases List.mem_append.mp hp with z|z
   ·exact z
   ·exact absurd z (by simp)
  obtain⟨e,n,ne,nf,d⟩:=I2.pin p hp'
  refine⟨hkeep _ _ e,?_,below e,fun z=> ?_,d⟩
  ·rw [aS (Nat.ne_of_lt (Heap.lt_size e))];exact n
  ·rcases List.mem_cons.mp (I2.stkSub p.1 z)with y|y
   ·exact ne y
   ·exact nf y
 ·exact I2.hok.laid hkeep (Nat.le_refl _) ⟨by simp,[],_,.nil,hacc⟩
 ·show(σC loc.length frees σ).length=(loc++frees.map (·.1)).length
  unfold σC
  simp
theorem A0o {C:Addr}{H':Hp}{s':Shared}{σ':St}{h':Heap}{pl:List (Addr×Obj)}(I2:Inv X pins σ H2 s2)(f2:∀b∈fp,fP X pins H2 b)(hC:C=s2.heap.objs.size+1)
  (J:Inv (fQ X N scope ⟨cl,C,s2,H2,fp,pl⟩) [] σ' H' s')(hs:Heap.SameBut C s'.heap h'):Inv X pins σ H' {s' with heap:=h'}:=by
 have I3:Inv X pins σ H' s':=I2.call' (ch:=fp) J.os J.base J.hok J.bare fun b hb=> ⟨(f2 b hb).2.2.2.1,(f2 b hb).2.1,(f2 b hb).2.2.2.2.1,(f2 b hb).2.2.2.2.2⟩
 refine I3.turned (it:=C) (t':=s'.toks) (fun b o hb e=>(hs.2 b hb).trans e) J.free ?_ (.inr ?_) (fun x c e z=> ?_) fun p hp z=> ?_
 ·intro z
  have:=I2.lt
  rw [←z,hC]at this;exact Nat.lt_irrefl _ (Nat.lt_of_succ_lt this)
 ·rw [hC];exact Nat.le_trans I2.sz (Nat.le_succ _)
 ·obtain⟨v,q⟩:=I2.cell x c e
  have:=q.lt
  rw [z,hC]at this;exact Nat.lt_irrefl _ (Nat.lt_of_succ_lt this)
 ·have:=Heap.lt_size (I2.pin p hp).1
  rw [z,hC]at this;exact Nat.lt_irrefl _ (Nat.lt_of_succ_lt this)
end
abbrev TC:=St->Hp->(St->Hp->Prop)->Prop
def eN (J:It)(g:TG)(tb:TS)(D:cQ)(σ:St)(H:Hp):Prop:=∃W:Nat->Nat->St->Hp->Prop,(∃m,W 0 m σ H)/\∀i m σ H,W i m σ H->
 (J.stop i H/\D.nx σ H)\/(J.go i H/\∃N:St->Hp->Prop,(∀σ' H',N σ' H'->∃m',m'<m/\W (i+1) m' σ' H')/\∀x H',J.yld i H x H'->g x σ H' fun σ2 H2=>tb {D with nx:=N,ct:=N,bk:=D.nx} σ2 H2)
def eC (Q:St->Hp->Prop):cQ:={nx:=Q,rt:=fun _ _=>False}
def eG (tt:TT)(tb:TC):TS:=fun D σ H=>tt σ H fun b H1=>if b=true then tb σ H1 D.nx else D.nx σ H1
def eL (l:Addr)(te:TE):TC:=fun σ H Q=>te σ H fun v H1=> ∃xs,H1 l=some (.lst xs)/\xs.length<sizeLine/\Q σ (upd H1 l (.lst (xs++[v])))
def A2i (wi:TI)(g:fH->TG)(tt:fH->TT)(te:fH->TE)(n:Nat)(frees:List (Str×Nat)):TE:=fun σ H Q=>wi σ H fun J H1=> ∀(Z:fH)(l:Addr),H1 l=none->
 eN J (g Z) (eG (tt Z) (eL l (te Z))) (eC fun _ H'=>Q (.ref l) H') (σC n frees σ) (upd H1 l (.lst []))
def testsOf (ifs:List Expr)(env:Env):Sem Bool:=forIn ifs true fun c r=>if r=true then do let ok←isTrue c env (eval c env);pure (ForInStep.yield ok)else pure (ForInStep.yield r)
def PTs (Y:Cx)(ifs:List Expr)(t:TT):Prop:=∀(pins:List (Addr×Obj))(s:Shared)(σ:St)(H:Hp)(Q:Bool->Hp->Prop),Inv Y pins σ H s->t σ H Q->
 wpAny (model Y.prog Y.w) Y.A (testsOf ifs Y.env) (TP Y pins σ Q) Y.xe s
def jI:TT:=fun _ H Q=>Q true H
theorem fJ {Y:Cx}:PTs Y [] jI:=fun pins s σ H Q I h=>wpAny_tests_nil ⟨H,I,h⟩
theorem iI {Y:Cx}{c:Expr}{t:TT}(hc:PT Y c t):PTs Y [c] t:=fun pins s σ H Q I h=>wpAny_tests_one (hc pins s σ H Q I h)
def PB (Y:Cx)(tail:(Unit->Sem Fin)->Sem Fin)(r:TC):Prop:=∀(pins:List (Addr×Obj))(s:Shared)(σ:St)(H:Hp)(Q:St->Hp->Prop)(Q':Fin->Shared->Prop)(k:Unit->Sem Fin),Inv Y pins σ H s->r σ H Q->
 (∀σ' H' s',Inv Y pins σ' H' s'->Q σ' H'->wpAny (model Y.prog Y.w) Y.A (k ()) Q' (fun _ _=>False) s')->wpAny (model Y.prog Y.w) Y.A (tail k) Q' (fun _ _=>False) s
theorem mQ {α:Type}{M:Model}{A:Around}{t:Sem α}{Q:α->Shared->Prop}{E E':Value->Shared->Prop}{s:Shared}(h:wpAny M A t Q E s)(hx:E=fun _ _=>False):wpAny M A t Q E' s:=by
 subst hx
 exact wpAny_mono h (fun _ _ q=>q) fun _ _ z=>z.elim
def A0e (elt:Expr)(acc:Value)(env:Env)(k:Unit->Sem Fin):Sem Fin:=(eval elt env>>=fun x=>call (.builtin "list.append") [acc,x]>>=fun _=>pure ())>>=k
theorem xM {Y:Cx}{elt:Expr}{te:TE}{l:Addr}(hx:Y.xe=fun _ _=>False)(he:PE Y elt te):PB Y (A0e elt (.ref l) Y.env) (eL l te):=by
 intro pins s σ H Q Q' k I h hk
 refine wpAny_bind (wpAny_bind (thn (mQ (he pins s σ H _ I h) hx) fun v s1 ⟨x,H1,I1,r1,q1⟩=> ?_))
 obtain⟨xs,e,hz,q⟩:=q1
 refine wpAny_bind (thn (mQ (A8g pins s1 σ H1 (.ref l) [x] (.ref l) [v] (fun _ H2=>Q σ H2) I1 rfl (.cons r1 .nil) ⟨l,xs,x,rfl,rfl,e,hz,q⟩) hx) fun u s2 ⟨y,H2,I2,r2,q2⟩=> ?_)
 exact wpAny_pure (hk σ H2 s2 I2 q2)
def sK (e:Expr)(d:Nat)(it acc:Value)(env:Env)(tg iter:Expr)(ifs:List Expr)(tail:(Unit->Sem Fin)->Sem Fin):Sem Fin:=
 standAt iter.pos>>=fun _=>pyNext it>>=fun r=>match r with
  |none=>pure (.done .next)
  |some v=>letOwnedTupleGo tg it v>>=fun _=>assign tg env v>>=fun _=>testsOf ifs env>>=fun ok=>
   if ok=true then tail (fun _=>again (.compLoop e d it acc env))else again (.compLoop e d it acc env)
theorem zZ (elt tg iter:Expr)(ifs:List Expr)(scope:Scope)(pos:Pos)(it acc:Value)(env:Env):
  compTurn (.ListComp elt [⟨tg,iter,ifs,0⟩] scope pos) 0 it acc env=sK (.ListComp elt [⟨tg,iter,ifs,0⟩] scope pos) 0 it acc env tg iter ifs (A0e elt acc env):=by rfl
section
variable {Y:Cx}
theorem xD {elt tg iter:Expr}{gens:List Comprehension}{scope:Scope}{pos:Pos}{d:Nat}{ifs:List Expr}{it l:Addr}{tail:(Unit->Sem Fin)->Sem Fin}{fp:List Addr}{tn:Nat->Heap->Prop}{J:It}{g:TG}{tt:TT}{tb:TC}{pins:List (Addr×Obj)}{σ:St}{H:Hp}{s:Shared}{Q:St->Hp->Prop}
  (hx:Y.xe=fun _ _=>False)(hc:Y.calm=true)(heq:compTurn (.ListComp elt gens scope pos) d (.ref it) (.ref l) Y.env=sK (.ListComp elt gens scope pos) d (.ref it) (.ref l) Y.env tg iter ifs tail)(hg:PG Y tg g)(ht:PTs Y ifs tt)(hb:PB Y tail tb)
  (I:Inv Y pins σ H s)(T:iH Y.prog Y.w Y.K tg J fp it tn)(st:tn 0 s.heap)(f2:∀b∈fp,fP Y pins H b)(h:eN J g (eG tt tb) (eC Q) σ H):
  codeAny (model Y.prog Y.w) Y.A (.compLoop (.ListComp elt gens scope pos) d (.ref it) (.ref l) Y.env) (fun r s'=>r= .ok .next/\∃σ' H',Inv Y pins σ' H' s'/\Q σ' H') s:=by
 obtain⟨W,⟨m0,w0⟩,turn⟩:=h
 have stat:∀{H':Hp},(∀b∈fp,H' b=none)->∀b∈fp,fP Y pins H' b:=fun hn b hb=> ⟨hn b hb,(f2 b hb).2⟩
 refine codeAny_loop rfl (fun n s'=> ∃i σ' H',Inv Y pins σ' H' s'/\tn i s'.heap/\(∀b∈fp,H' b=none)/\W i n σ' H') (fun n s3 hI=> ?_) m0 ⟨0,σ,H,I,st,fun b hb=>(f2 b hb).1,w0⟩
 obtain⟨i,σ3,H3,I3,st3,fr3,w3⟩:=hI
 show wpAny _ Y.A ((compTurn (.ListComp elt gens scope pos) d (.ref it) (.ref l) Y.env).onRaise (fun x=>do noteFrame x Y.env;theTreesLotGoes x)) _ _ s3
 refine wpAny_noted ?_
 rw [heq]
 unfold sK
 refine wpAny_bind (wpAny_standAt (wpAny_bind ?_))
 rcases turn i n σ3 H3 w3 with⟨stop,qn⟩| ⟨go,N,hN,step⟩
 ·refine thn (T.done Y rfl rfl rfl hc i pins s3 σ3 H3 _ I3 (stat fr3) st3 stop) fun r s4 ⟨hr,I4⟩=> ?_
  subst hr
  exact wpAny_pure ⟨rfl,σ3,H3,I4,qn⟩
 ·refine thn (T.item Y rfl rfl rfl hc i pins s3 σ3 H3 _ I3 (stat fr3) st3 go) fun r s4 ⟨u,hr,h4⟩=> ?_
  subst hr
  refine wpAny_bind (thn h4 fun _ s5 ⟨x,H5,I5,r5,y5,st5,fr5⟩=> ?_)
  have I5':=I5.pinned (stat fr5) (T.obj _ _ st5)
  refine wpAny_bind (thn (mQ (hg _ s5 σ3 H5 x u _ I5' r5 (step x H5 y5)) hx) fun _ s6 ⟨σ6,H6,I6,q6⟩=> ?_)
  refine wpAny_bind (thn (mQ (ht _ s6 σ6 H6 _ I6 q6) hx) fun ok s7 ⟨H7,I7,q7⟩=> ?_)
  have again:∀{σ7:St}{H7:Hp}{s7:Shared},Inv Y (pins++nL fp s5.heap) σ7 H7 s7->N σ7 H7->∃m,m<n/\∃i σ' H',Inv Y pins σ' H' s7/\tn i s7.heap/\(∀b∈fp,H' b=none)/\W i m σ' H':=fun{σ7 H7 s7} I7 n7=>by
   obtain⟨m',hm,w7⟩:=hN σ7 H7 n7
   refine⟨m',hm,i+1,σ7,H7,I7.unpinned,T.keep _ _ _ st5 fun b hb o e=>(I7.pin (b,o) (List.mem_append_right _ (List.mem_append_right _ (rM hb e)))).1,fun b hb=> ?_,w7⟩
   obtain⟨o,e,d⟩:=T.obj _ _ st5 b hb
   exact(I7.pin (b,o) (List.mem_append_right _ (List.mem_append_right _ (rM hb e)))).2.1
  cases ok with
  |false=>
   rw [if_neg Bool.false_ne_true]at q7⊢
   exact wpAny_pure ⟨rfl,again I7 q7⟩
  |true=>
   rw [if_pos rfl]at q7⊢
   exact mQ (hb _ s7 σ6 H7 _ _ _ I7 q7 fun σ8 H8 s8 I8 q8=>wpAny_pure ⟨rfl,again I8 q8⟩) rfl
end
section
variable {X:Cx}{scope:Scope}{loc:List Str}{frees:List (Str×Nat)}{ns:List (Str×NameKind)}{N:List Str}{pos:Pos}
theorem A2k {e:Expr}{gs:List Comprehension}{g0:Comprehension}{wi:TI}{tg iter:Expr}{R:fH->Addr->It->St->Hp->(Hp->Prop)->Prop}{use:Option (Value->Sem Unit)}{Q:Value->Shared->Prop}{newPos:Pos}
  (hcl:clausesOf e=g0::gs)(hg0:g0.iter=iter)(hi:PI X tg iter wi)(hns:X.env.scope.names=ns)(hN:X.N=N)(hk:scope.kind= .function)(ok:lQ ns N scope frees)
  (hs:∀x,foldedSetIterable iter X.env x=pure x){pins:List (Addr×Obj)}{s:Shared}{σ:St}{H:Hp}{QH:Addr->Hp->Prop}(I:Inv X pins σ H s)
  (h:wi σ H fun J H1=> ∀(Z:fH)(l:Addr),H1 l=none->R Z l J (σC loc.length frees σ) (upd H1 l (.lst [])) (QH l))
  (block:∀(Z:fH)(l it:Addr)(fp:List Addr)(tn:Nat->Heap->Prop)(J:It)(H4:Hp)(s4:Shared)(σ4:St),Z.fp=fp->Inv (fQ X (loc++frees.map (·.1)) scope Z) [] σ4 H4 s4->iH X.prog X.w X.K tg J fp it tn->tn 0 s4.heap->
   (∀b∈fp,fP (fQ X (loc++frees.map (·.1)) scope Z) [] H4 b)->R Z l J σ4 H4 (QH l)->
   codeAny (model X.prog X.w) X.A (.compStart e 0 (.ref it) (.ref l) (compEnvC scope Z.cl Z.C X.env)) (fun r s'=>r= .ok .next/\∃σ' H',Inv (fQ X (loc++frees.map (·.1)) scope Z) [] σ' H' s'/\QH l H') s4)
  (fin:∀(l C:Addr)(H':Hp)(s':Shared),(∃m,s'.heap.Ns C m)->Inv X pins σ H' s'->H' C=none->X.s₀.heap.objs.size<=C->C≠X.env.locals->(∀x c,X.env.cells.lookup x=some c->c≠C)->(∀h',Heap.SameBut C s'.heap h'->Inv X pins σ H' {s' with heap:=h'})->(∀p∈X.pn++pins,p.1≠C)->QH l H'->
   compPost (model X.prog X.w) X.A X.xe use Q (.ref l) C (.ok .next) s'):
  wpAny (model X.prog X.w) X.A (comprehension e scope X.env newPos (newList []) false (eval iter X.env) use) Q X.xe s:=by
 obtain⟨cl,hclos,hc1,hc2⟩:=zJ (env:=X.env) (scope:=scope) fun x hx hf=>by
  refine I.ok.has x.1 ?_
  have:=(ok.1 x hx).2.2 hf
  rw [←hns]at this
  exact this
 have hs':∀x,foldedSetIterable g0.iter X.env x=pure x:=by rw [hg0];exact hs
 refine wpAny_comprehension_free hcl hs' hclos hk (fun x hx hl=>(ok.1 x hx).2.1 hl) (thn (hi pins s σ H _ I h) fun v s1 h1=>thn h1 fun itv s2 h2=> ?_)
 obtain⟨it,fp,tn,J,H2,e2,I2,T,st2,f2,q2⟩:=h2
 subst e2
 refine wpAny_newObj_type (wpAny_newFunctionEnv (fun x hx=>(ok.1 x hx).1) (by intro y hy;simp at hy) (fun h₁ hns₁ hsb₁=> ?_) hk)
 dsimp only at hns₁ hsb₁⊢
 have hsz:(s2.heap.push {cls:=.type "list",dict:=none,data:=.seq ([]:List Value).toArray}).objs.size=s2.heap.objs.size+1:=Heap.size_push ..
 generalize hCeq:(s2.heap.push {cls:=.type "list",dict:=none,data:=.seq ([]:List Value).toArray}).objs.size=C at hns₁ hsb₁ hsz⊢
 have keep:∀b o,s2.heap.get? b=some o->h₁.get? b=some o:=fun b o e=>hsb₁.extBut b o (by rw [hsz];exact Nat.ne_of_lt (Nat.lt_succ_of_lt (Heap.lt_size e))) (Heap.get?_push_of_some _ (Heap.get?_push_of_some _ e))
 have hacc:h₁.get? s2.heap.objs.size=some {cls:=.type "list",dict:=none,data:=.seq ([]:List Value).toArray}:=
  hsb₁.extBut _ _ (by rw [hsz];exact Nat.ne_of_lt (Nat.lt_succ_self _)) (Heap.get?_push_of_some _ (Heap.get?_push_size _ rfl))
 have live:∀b∈fp,∃o,s2.heap.get? b=some o:=fun b hb=>let ⟨o,ho,_⟩:=T.obj _ _ st2 b hb;⟨o,ho⟩
 have J0:=A8j (scope:=scope) (loc:=loc) (frees:=frees) (tk:=s2.toks+([]:List (Str×Value)).length) I2 hns hN hk ok f2 live hc1 hc2 hsz ⟨_,hns₁⟩ hacc keep
 have hln:H2 s2.heap.objs.size=none:=I2.hok.fresh (Nat.le_refl _)
 have B:=block ⟨cl,C,s2,H2,fp,X.pn++pins⟩ s2.heap.objs.size it fp tn J _ _ _ rfl J0 T (T.keep _ _ _ st2 fun b _ o e=>keep b o e) (fun b hb=>by
  obtain⟨o,ho⟩:=live b hb
  obtain⟨z0,z1,z2,z3,z4,z5⟩:=f2 b hb
  refine⟨?_,?_,fun z=> ?_,.inl hb,fun x c e=>z4 x c (hc1 x c e),fun p hp=>z5 p ?_⟩
  ·rw [aS (Nat.ne_of_lt (Heap.lt_size ho))];exact z0
  ·show b≠C
   rw [hsz];exact Nat.ne_of_lt (Nat.lt_succ_of_lt (Heap.lt_size ho))
  ·rcases List.mem_cons.mp (I2.stkSub b z)with y|y
   ·exact z1 y
   ·exact z2 y
  ·rcases List.mem_append.mp hp with y|y
   ·exact y
   ·exact absurd y (by simp)) (q2 _ _ hln)
 refine codeAny_mono B fun r s' hr=> ?_
 obtain⟨rfl,σ',H',J',q'⟩:=hr
 obtain⟨m',hm',_⟩:=J'.loc
 have hCl:C≠X.env.locals:=fun z=>by
  have:=I2.lt
  rw [←z,hsz]at this;exact Nat.lt_irrefl _ (Nat.lt_of_succ_lt this)
 have hCc:∀x c,X.env.cells.lookup x=some c->c≠C:=fun x c e z=>by
  obtain⟨v,q⟩:=I2.cell x c e
  have:=q.lt
  rw [z,hsz]at this;exact Nat.lt_irrefl _ (Nat.lt_of_succ_lt this)
 have hCp:∀p∈X.pn++pins,p.1≠C:=fun p hp z=>by
  have:=Heap.lt_size (I2.pin p hp).1
  rw [z,hsz]at this;exact Nat.lt_irrefl _ (Nat.lt_of_succ_lt this)
 exact fin s2.heap.objs.size C H' s' ⟨m',hm'⟩ (by have:=A0o I2 f2 hsz J' (Heap.SameBut.refl C s'.heap);exact this) J'.free (by rw [hsz];exact Nat.le_trans I2.sz (Nat.le_succ _)) hCl hCc (fun h' hs=>A0o I2 f2 hsz J' hs) hCp q'
theorem dL {elt tg iter:Expr}{ifs:List Expr}{wi:TI}{g:fH->TG}{tt:fH->TT}{te:fH->TE}(ns:List (Str×NameKind))(N:List Str)(loc:List Str)(frees:List (Str×Nat))(hc:X.calm=true)(hi:PI X tg iter wi)
  (hns:X.env.scope.names=ns)(hN:X.N=N)(hk:scope.kind= .function)(ok:lQ ns N scope frees)
  (hg:∀Z,PG (fQ X (loc++frees.map (·.1)) scope Z) tg (g Z))(ht:∀Z,PTs (fQ X (loc++frees.map (·.1)) scope Z) ifs (tt Z))(he:∀Z,PE (fQ X (loc++frees.map (·.1)) scope Z) elt (te Z))
  (hs:∀x,foldedSetIterable iter X.env x=pure x:=by intro _;rfl):PE X (.ListComp elt [⟨tg,iter,ifs,0⟩] scope pos) (A2i wi g tt te loc.length frees):=by
 intro pins s σ H Q I h
 rw [eval_ListComp]
 refine A2k (e:=.ListComp elt [⟨tg,iter,ifs,0⟩] scope pos) (g0:=⟨tg,iter,ifs,0⟩) (gs:=[]) (tg:=tg) (iter:=iter) (loc:=loc) (R:=fun Z l J σ H QH=>eN J (g Z) (eG (tt Z) (eL l (te Z))) (eC fun _ H'=>QH H') σ H) (use:=none) (QH:=fun l H'=>Q (.ref l) H') rfl rfl hi hns hN hk ok hs I h ?_ ?_
 ·intro Z l it fp tn J H4 s4 σ4 hfp I4 T st4 f4 q4
  have L:=xD (Y:=fQ X (loc++frees.map (·.1)) scope Z) rfl hc (zZ elt tg iter ifs scope pos (.ref it) (.ref l) _) (hg Z) (ht Z) (xM rfl (he Z)) I4 T st4 f4 q4
  refine codeAny_mono (codeAny_compStart_list L (T.self _ _ _ _ _ st4 L)) fun r s' hr=> ?_
  exact hr
 ·intro l C H' s' hm J' hn h1 h2 h3 h4 _ q'
  obtain⟨m,hm⟩:=hm
  exact⟨m,hm,fun h' hs'=> ⟨.ref l,H',h4 h' hs',rfl,q'⟩⟩
theorem rW {i:Nat}{x:Str}{pos' apos:Pos}{elt tg iter:Expr}{ifs:List Expr}{wi:TI}{g:fH->TG}{tt:fH->TT}{te:fH->TE}(ns:List (Str×NameKind))(N:List Str)(loc:List Str)(frees:List (Str×Nat))(hc:X.calm=true)(hND:X.N.Nodup)(hix:X.N[i]?=some x)(hxl:X.env.scope.names.lookup x=some .local)(hi:PI X tg iter wi)
  (hns:X.env.scope.names=ns)(hN:X.N=N)(hk:scope.kind= .function)(ok:lQ ns N scope frees)
  (hg:∀Z,PG (fQ X (loc++frees.map (·.1)) scope Z) tg (g Z))(ht:∀Z,PTs (fQ X (loc++frees.map (·.1)) scope Z) ifs (tt Z))(he:∀Z,PE (fQ X (loc++frees.map (·.1)) scope Z) elt (te Z))
  (hsw:swapsWith (.ListComp elt [⟨tg,iter,ifs,0⟩] scope pos) (some (.Name x pos')) apos.line X.env=pure true:=by rfl)
  (hs:∀x,foldedSetIterable iter X.env x=pure x:=by intro _;rfl):PS X (.Assign [.Name x pos'] (.ListComp elt [⟨tg,iter,ifs,0⟩] scope pos) apos) (qD (A2i wi g tt te loc.length frees) (dJ i)):=by
 intro pins s σ H D I h
 rw [exec_Assign_Name_used _ _ _ _ hsw]
 refine wpAny_bind (wpAny_standAt (wpAny_bind ?_))
 show wpAny _ X.A (do let _←comprehension (.ListComp elt [⟨tg,iter,ifs,0⟩] scope pos) scope X.env _ (newList []) false (eval iter X.env) (some (assign (.Name x pos') X.env))) _ _ s
 refine wpAny_bind ?_
 have key:=A2k (X:=X) (e:=.ListComp elt [⟨tg,iter,ifs,0⟩] scope pos) (g0:=⟨tg,iter,ifs,0⟩) (gs:=[]) (tg:=tg) (iter:=iter) (newPos:=firstIterPos [⟨tg,iter,ifs,0⟩] pos) (loc:=loc) (R:=fun Z l J σ H QH=>eN J (g Z) (eG (tt Z) (eL l (te Z))) (eC fun _ H'=>QH H') σ H) (use:=some (assign (.Name x pos') X.env)) (QH:=fun l H'=>D.nx (σ.set i (some (.ref l))) H') (Q:=fun _ s'=>SP X pins D .next s') rfl rfl hi hns hN hk ok hs I h ?_ ?_
 ·exact thn key fun _ s' hq=>wpAny_pure (wpAny_pure hq)
 ·intro Z l it fp tn J H4 s4 σ4 hfp I4 T st4 f4 q4
  have L:=xD (Y:=fQ X (loc++frees.map (·.1)) scope Z) rfl hc (zZ elt tg iter ifs scope pos (.ref it) (.ref l) _) (hg Z) (ht Z) (xM rfl (he Z)) I4 T st4 f4 q4
  refine codeAny_mono (codeAny_compStart_list L (T.self _ _ _ _ _ st4 L)) fun r s' hr=> ?_
  exact hr
 ·intro l C H' s' hm J' hn h1 h2 h3 h4 h5 q'
  obtain⟨m,hm⟩:=hm
  show wpAny _ X.A (assign (.Name x pos') X.env (.ref l)) _ _ _
  refine wpAny_assign_Name (wO J' hND hix (.inl hxl) (v:=.ref l) rfl (fun s'' I'' hsb=> ?_) (.inr hxl))
  obtain⟨a,hsb,ha⟩:=hsb
  have haC:C≠a:=by
   rcases ha with z|z
   ·rw [z];exact h2
   ·exact fun y=>h3 x a z y.symm
  refine⟨m,hm.sameBut hsb haC,fun h' hs'=> ⟨_,H',?_,q'⟩⟩
  exact I''.turned (it:=C) (t':=s''.toks) (fun b o hb e=>(hs'.2 b hb).trans e) hn h2 (.inr h1) h3 h5
end
end L2
namespace PySem
open Sem (wp)
open AutoSeq1 (wpAny_loadPart')
section
variable {prog:Program}{w:World}{A:Around}{E:Value->Shared->Prop}{s:Shared}
end
section
variable {prog:Program}{w:World}{A:Around}{E:Value->Shared->Prop}{s:Shared}
end
open Builtin
open AutoSeq1 (wpAny_loadPart')
namespace F
end F
section
variable {prog:Program}{w:World}{A:Around}{E:Value->Shared->Prop}{s:Shared}{a:Addr}{xs:Array Value}{k:Nat}{sl:Array (Option Value)}
end
end PySem
namespace PySem
open Sem (wp)
open Builtin
open AutoSeq1 (wpAny_loadPart')
section
variable {prog:Program}{w:World}{K:Type} [DecidableEq K]{knd:KeyKind prog w K}{A:Around}{E:Value->Shared->Prop}{R:Result->Shared->Prop}
end
end PySem
namespace L2
open PySem PySem.Spec PyProof.Rows
section
variable {X:Cx}
theorem jF:dX X (.builtin "isinstance") (fun xs H Q=> ∃x T t b,xs=[x,.ty T]/\TyOf X.K H x t/\W.kitOne X.K t (.type T)=some b/\Q (.bl b) H):=by
 intro pins s σ H xs us Q I r h
 obtain⟨x,T,t,b,rfl,ty,e,q⟩:=h
 obtain⟨u,w',rfl,rx,rT⟩:=qZ r
 cases (show w'=Value.type T from rT)
 exact A6k I rx ty e fun tk=> ⟨.bl b,H,I.tok _,rfl,q⟩
theorem uT:∀{bs:List Bool}{us:List Value},Vals (bs.map V.bl) us->LSm.BoolsAre us bs
 | [],_,.nil=> .nil
 |b::bs,_,.cons r t=>by
  cases (show _=Value.bool b from r)
  exact .cons b (uT t)
end
section
variable {X:Cx}{pins:List (Addr×Obj)}{σ:St}{H:Hp}{s:Shared}
theorem qK (hc:X.calm=true):dX X (.builtin "all") (fun xs H Q=> ∃(p:Addr)(bs:List Bool),xs=[.ref p]/\SqL X.K H p (bs.map V.bl)/\Q (.bl (bs.all id)) H):=by
 intro pins s σ H xs us Q I r h
 obtain⟨p,bs,rfl,hq,q⟩:=h
 obtain⟨u,rfl,rx⟩:=eT r
 cases rx
 obtain⟨its,rv,pl,hz⟩:=I.list hq
 have hb:=uT rv
 have hlt:p<s.heap.objs.size:=by obtain⟨_,e,_⟩:=pl.isList;exact Heap.lt_size e
 refine call_all_walk (wpAny_pyIter_list pl.isList ?_)
 refine⟨s.heap.objs.size,[s.heap.objs.size,p],[s.heap.objs.size],its.toArray.size,_,_,fun i=>(bs[i]?).getD true,rfl,Walks.list (A:=X.A.in1) (by simp [I.ok.hd hc]) _ p (Nat.ne_of_lt hlt) its.toArray,⟨⟨_,Heap.get?_push_size _ rfl,rfl,rfl⟩,pl.isList.push _⟩,fun i v s' Q' E' hP hQ=> ?_,fun h' tk hk=> ?_⟩
 ·obtain⟨b,e,rfl⟩:=hb.get i v (by simpa using hP)
  dsimp only at hQ;rw [e]at hQ
  exact wpAny_truthy_bool hQ
 ·have e:((List.range its.toArray.size).all fun i=>(bs[i]?).getD true)=bs.all id:=by rw [List.size_toArray,hb.length,LSm.range_all]
  rw [e]
  exact⟨.bl _,H,I.kept (h':=h') (t':=tk) (LSm.kept_iter hk),rfl,q⟩
theorem A1u (hc:X.calm=true):dX X (.builtin "any") (fun xs H Q=> ∃(p:Addr)(bs:List Bool),xs=[.ref p]/\SqL X.K H p (bs.map V.bl)/\Q (.bl (bs.any id)) H):=by
 intro pins s σ H xs us Q I r h
 obtain⟨p,bs,rfl,hq,q⟩:=h
 obtain⟨u,rfl,rx⟩:=eT r
 cases rx
 obtain⟨its,rv,pl,hz⟩:=I.list hq
 have hb:=uT rv
 have hlt:p<s.heap.objs.size:=by obtain⟨_,e,_⟩:=pl.isList;exact Heap.lt_size e
 refine call_any_walk (wpAny_pyIter_list pl.isList ?_)
 refine⟨s.heap.objs.size,[s.heap.objs.size,p],[s.heap.objs.size],its.toArray.size,_,_,fun i=>(bs[i]?).getD false,rfl,Walks.list (A:=X.A.in1) (by simp [I.ok.hd hc]) _ p (Nat.ne_of_lt hlt) its.toArray,⟨⟨_,Heap.get?_push_size _ rfl,rfl,rfl⟩,pl.isList.push _⟩,fun i v s' Q' E' hP hQ=> ?_,fun h' tk hk=> ?_⟩
 ·obtain⟨b,e,rfl⟩:=hb.get i v (by simpa using hP)
  dsimp only at hQ;rw [e]at hQ
  exact wpAny_truthy_bool hQ
 ·have e:((List.range its.toArray.size).any fun i=>(bs[i]?).getD false)=bs.any id:=by rw [List.size_toArray,hb.length,LSm.range_any]
  rw [e]
  exact⟨.bl _,H,I.kept (h':=h') (t':=tk) (LSm.kept_iter hk),rfl,q⟩
theorem Inv.turnedL {fp:List Addr}{h':Heap}{t':Nat}(I:Inv X pins σ H s)(k:∀b o,b∉fp->s.heap.get? b=some o->h'.get? b=some o)(hf:∀b∈fp,fP X pins H b):Inv X pins σ H {s with heap:=h',toks:=t'}:=by
 have nfp:∀b u,H b=some u->b∉fp:=fun b u e z=>by rw [(hf b z).1]at e;cases e
 refine I.step (g':=s.gens) (d':=s.drawn) (ch:=fp) (fun b hb=> ⟨(hf b hb).2.2.2.1,(hf b hb).2.1,(hf b hb).2.2.2.2.1,(hf b hb).2.2.2.2.2⟩) (fun b o _ _ hc e _=>k b o hc e) (fun b o _ _ hc e _=> ⟨o.slots,k b o hc e⟩) (fun _ _ _ _ n=>n) (fun b o hc e=> ⟨o,k b o hc e⟩)
  (fun _ _ e=>e) (fun _ _ _ e=>e) (fun b ps e=> ⟨#[],by rw [e];simp⟩) (fun m hm=> ?_) (fun b u e=> ?_) I.bare
 ·obtain⟨o,es,ep,ho,r⟩:=hm
  exact⟨o,es,ep,k _ o (fun z=>(hf _ z).2.1 rfl) ho,r⟩
 ·refine(I.hok b u e).stay (fun c v hc q=>k c v ?_ q) (fun _ q=>q) fun _ _ q=>q
  rcases hc with z|z
  ·rw [z];exact nfp b u e
  ·exact nfp c _ z
theorem Inv.turnLaid {fp:List Addr}{h':Heap}{t':Nat}{p:Addr}{o:HO}(I:Inv X pins σ H s)(k:∀b u,b∉fp->s.heap.get? b=some u->h'.get? b=some u)(hf:∀b∈fp,fP X pins H b)(hp:s.heap.objs.size<=p)
  (new:ObjOk X.prog X.w (upd H p o) h' p o):Inv X pins σ (upd H p o) {s with heap:=h',toks:=t'}:=by
 have nfp:∀b u,H b=some u->b∉fp:=fun b u e z=>by rw [(hf b z).1]at e;cases e
 have hn:=I.hok.fresh hp
 have old:∀{b:Addr}{u:Obj},s.heap.get? b=some u->b≠p:=fun e=>Nat.ne_of_lt (Nat.lt_of_lt_of_le (Heap.lt_size e) hp)
 refine I.step (g':=s.gens) (d':=s.drawn) (ch:=fp) (fun b hb=> ⟨(hf b hb).2.2.2.1,(hf b hb).2.1,(hf b hb).2.2.2.2.1,(hf b hb).2.2.2.2.2⟩) (fun b o _ _ hc e _=>k b o hc e) (fun b o _ _ hc e _=> ⟨o.slots,k b o hc e⟩) (fun b o _ e n=>by rw [aS (old e)];exact n) (fun b o hc e=> ⟨o,k b o hc e⟩)
  (fun b xs e=>by rw [aS (cB e hn)];exact e) (fun b u xs e=>by rw [aS (cB e hn)];exact e) (fun b ps e=> ⟨#[],by rw [aS (cB e hn),e];simp⟩) (fun m hm=> ?_) (fun b u e=> ?_) I.bare
 ·obtain⟨o,es,ep,ho,r⟩:=hm
  exact⟨o,es,ep,k _ o (fun z=>(hf _ z).2.1 rfl) ho,r⟩
 ·by_cases hb:b=p
  ·subst hb;rw [aI]at e;cases e;exact new
  ·rw [aS hb]at e
   refine(I.hok b u e).stay (fun c v hc q=>k c v ?_ q) (fun c q=>by rw [aS (cB q hn)];exact q) fun c xs q=>by rw [aS (cB q hn)];exact q
   rcases hc with z|z
   ·rw [z];exact nfp b u e
   ·exact nfp c _ z
def Ite (S:Hp->List V->Prop):It:=
 ⟨fun i H=> ∃xs x,S H xs/\xs[i]?=some x,fun i H x H'=> ∃p y,x= .ref p/\H p=none/\H'=upd H p (.tup [.int i,y])/\∀xs,S H xs->xs[i]?=some y,fun i H=> ∃xs,S H xs/\xs.length=i⟩
theorem A5z {S:Hp->List V->Prop}{xs:List V}{g:TG}{tb:TS}{D:cQ}{σ:St}{H:Hp}(Pv:Nat->St->Hp->Prop)(h0:Pv 0 σ H)(hl:∀i σ H,i<=xs.length->Pv i σ H->S H xs)
  (hs:∀i x p σ H,xs[i]?=some x->Pv i σ H->H p=none->g (.ref p) σ (upd H p (.tup [.int i,x])) fun σ2 H2=>tb {D with nx:=Pv (i+1),ct:=Pv (i+1),bk:=D.nx} σ2 H2)(hd:∀σ H,Pv xs.length σ H->D.nx σ H):
  eN (Ite S) g tb D σ H:=by
 refine⟨fun i m σ H=>m=xs.length - i/\i<=xs.length/\Pv i σ H,⟨xs.length,by simp,Nat.zero_le _,h0⟩,?_⟩
 rintro i m σ H ⟨rfl,hi,p⟩
 have q:=hl i σ H hi p
 by_cases hlt:i<xs.length
 ·refine .inr ⟨⟨xs,xs[i],q,by simp [hlt]⟩,Pv (i+1),fun σ' H' p'=> ⟨xs.length -(i+1),by omega,rfl,hlt,p'⟩,fun x H' y=> ?_⟩
  obtain⟨pp,yy,e1,e2,e3,e4⟩:=y
  subst e1 e3
  exact hs i yy pp σ H (e4 xs q) p e2
 ·have e:i=xs.length:=by omega
  subst e
  exact .inl ⟨⟨xs,q,rfl⟩,hd σ H p⟩
end
section
variable {X:Cx}{pins:List (Addr×Obj)}{σ:St}{H:Hp}{s:Shared}
def NewTup (H:Hp)(ys:List V)(Q:VK):Prop:=∀p H',Same H H'->H' p=some (.tup ys)->Q (.ref p) H'
theorem aJ {H:Hp}{p:Addr}{o:HO}(h:H p=none):Same H (upd H p o):=fun b u e=>by rw [aS (cB e h)];exact e
theorem NewTup.new {ys:List V}{Q:VK}{p:Addr}(h:NewTup H ys Q)(hp:H p=none):Q (.ref p) (upd H p (.tup ys)):=h p _ (aJ hp) aI
theorem NewTup.old {ys:List V}{Q:VK}{p:Addr}(h:NewTup H ys Q)(hp:H p=some (.tup ys)):Q (.ref p) H:=h p H (Same.refl H) hp
theorem Inv.newTup {ys:List V}{its:List Value}{Q:VK}(I:Inv X pins σ H s)(r:Vals ys its)(hz:ys.length<=sizeLine)(h:NewTup H ys Q):EP X pins σ Q (.ref s.heap.objs.size) {s with heap:=s.heap.push {cls:=.type "tuple",data:=.seq its.toArray}}:=
 ⟨.ref s.heap.objs.size,_,I.laid (t':=s.toks) (o:=.tup ys) (fun b ob q=>Heap.get?_push_of_some _ q) (Nat.le_refl _) ⟨hz,_,r,IsTup.new _ _⟩,rfl,h.new (I.hok.fresh (Nat.le_refl _))⟩
def A8b:R2:=fun x y H Q=> ∃a b xs ys,x= .ref a/\y= .ref b/\H a=some (.tup xs)/\H b=some (.tup ys)/\xs.length+ys.length<=sizeLine/\NewTup H (xs++ys) Q
theorem iK:OpR X (binaryOp .Add) A8b:=by
 intro pins s σ H x y v u Q I rx ry h
 obtain⟨a,b,xs,ys,rfl,rfl,ha,hb,hz,q⟩:=h
 cases rx
 cases ry
 obtain⟨its,r1,p1,_⟩:=I.tuple (SqT.of ha)
 obtain⟨its2,r2,p2,_⟩:=I.tuple (SqT.of hb)
 by_cases hx:xs=[]
 ·subst hx
  cases r1
  obtain⟨⟨c1,d1,t1,l1⟩,ho,hc,n,hd⟩:=id p1
  obtain⟨⟨c2,d2,t2,l2⟩,ho2,hc2,n2,hd2⟩:=id p2
  simp only at hc hd hc2 hd2
  subst hc hd hc2 hd2
  exact concat_meets ⟨_,ho,rfl⟩ ⟨_,ho2,rfl⟩ noFill_tuple_add seq_tuple_add PySem.F.slot_tuple_add PySem.F.entry_tuple_add (PySem.F.args_tuple_add_2 _ _) (tuple_addW0 a b _ _ n n2 d1 d2 l1 l2 (by simp)) ⟨ho,ho2,.ref b,H,I,rfl,q.old hb⟩
 ·refine HT.cat_tup p1 p2 (fun z=>hx (r1.nil_iff.mp z)) (fun z=> ⟨.ref a,H,I,rfl,?_⟩) (fun z=>I.newTup (r1.append r2) (by rw [List.length_append];exact hz) q) (by rw [←r1.length,←r2.length];exact hz)
  have:ys=[]:=r2.nil_iff.mp z
  subst this
  rw [List.append_nil]at q
  exact q.old ha
theorem A8l {t sl:Addr}{items:Array Value}{vl vu:Value}{lo hi:Option Int}{Q:Value->Shared->Prop}{prog:Program}{w:World}{A:Around}{E:Value->Shared->Prop}(ht:IsTup s.heap t items)(hs:s.heap.IsSliceOf sl vl vu .none)(pl:IsPart vl lo)(pu:IsPart vu hi)
  (hw:HT.sIx items.size 0 lo=0/\HT.sIx items.size items.size hi=items.size)(h:Q (.ref t) s):wpAny (model prog w) A (getItem (.ref t) (.ref sl)) Q E s:=by
 obtain⟨os,hos,hcs,hds⟩:=id hs
 have hTs:s.TypeIs (.ref sl) "slice":=⟨os,hos,hcs⟩
 unfold getItem
 try with_reducible refine wpAny_holding ?_
 first|refine wpAny_bind (wpAny_pure ?_)|skip
 refine wpAny_bind (wpAny_sequenceKey ht.typeIs (by decide) (wpAny_bind (wpAny_callSpecial?_slot (name:=Str.ofString "__getitem__") ht.typeIs PyProof.Rows.slot_tuple_getitem (wpAny_call_entry PyProof.Rows.slot_tuple_getitem ht.typeIs entry_tuple_getitem ?_ (args_tuple_getitem _ _)))))
 show wpAny _ _ (Builtin.Tuple.tupleItemsOf (.ref t)>>=_) _ _ s
 refine wpAny_bind (tupleItemsOf_ ht (wpAny_bind (wpAny_typeOf hTs ?_)))
 rw [if_pos (by decide)]
 refine wpAny_bind (HT.sliceApplied_gen hs pl pu ?_)
 have hyes:(((HT.sIx items.size 0 lo:Nat):Int)==0&&(1:Int)==1&&(HT.sIx items.size items.size hi - HT.sIx items.size 0 lo)==items.size)=true:=by rw [hw.1,hw.2];simp
 show wpAny _ _ (if (((HT.sIx items.size 0 lo:Nat):Int)==0&&(1:Int)==1&&(HT.sIx items.size items.size hi - HT.sIx items.size 0 lo)==items.size)=true then _ else _) _ _ s
 rw [if_pos hyes]
 obtain⟨⟨c1,d1,t1,l1⟩,ho,hc,n,hd⟩:=id ht
 simp only at hc hd
 subst hc hd
 obtain⟨hp,g,d,tk,osx⟩:=s
 wp_walk using AutoSeq1.wpAny_loadPart' ho
 all_goals first|exact⟨_,rfl,h⟩|exact⟨_,rfl,wpAny_pure h⟩
def A3m:V->Option Int->Option Int->Hp->VK->Prop:=fun x lo hi H Q=> ∃a xs,x= .ref a/\H a=some (.tup xs)/\NewTup H (cO xs lo hi) Q
theorem gG:SlR X A3m:=by
 intro pins s σ H x v vl vu lo hi sl Q I rx hs pl pu h
 obtain⟨a,xs,rfl,hx,q⟩:=h
 cases rx
 obtain⟨its,r,ht,hz⟩:=I.tuple (SqT.of hx)
 have hlen:its.toArray.size=xs.length:=by rw [List.size_toArray];exact r.length.symm
 refine⟨"tuple",_,PyProof.Rows.slot_tuple_getitem.lookup,ht.typeIs,?_⟩
 by_cases hw:HT.sIx xs.length 0 lo=0/\HT.sIx xs.length xs.length hi=xs.length
 ·refine A8l ht hs pl pu (by rw [hlen];exact hw) ⟨.ref a,H,I,rfl,?_⟩
  have:cO xs lo hi=xs:=by unfold cO;rw [hw.1,hw.2];simp
  rw [this]at q
  exact q.old hx
 ·refine HT.getItem_tuple_cut ht hs pl pu (by rw [hlen];exact hw) ?_ (by rw [hlen];exact hz)
  rw [hlen]
  exact I.newTup ((r.drop (HT.sIx xs.length 0 lo)).take (HT.sIx xs.length xs.length hi - HT.sIx xs.length 0 lo)) (Nat.le_trans (iW xs lo hi) hz) q
end
section
variable {X:Cx}{pos:Pos}
def A5n (i j k:Nat)(ta:TA):TS:=fun D σ H=>ta σ H fun vs H1=> ∃v w z,vs=[v,w,z]/\D.nx (((σ.set i (some v)).set j (some w)).set k (some z)) H1
theorem B0u {i j k:Nat}{x y z:Str}{a b c:Expr}{ta:TA}{px py pz pt:Pos}{kt k2 pt2}(hc:X.calm=true)(hN:X.N.Nodup)(hi:X.N[i]?=some x)(hj:X.N[j]?=some y)(hk:X.N[k]?=some z)(hij:i≠j)(hik:i≠k)(hjk:j≠k)
  (hx:X.env.scope.names.lookup x=some .local)(hy:X.env.scope.names.lookup y=some .local)(hz:X.env.scope.names.lookup z=some .local)(ha:PA X [a,b,c] ta)
  (hw:swappedStores [.Tuple [.Name x px,.Name y py,.Name z pz] kt pt] (.Tuple [a,b,c] k2 pt2) X.env=pure (some [x,y,z]))
  (hs:swapsWithSole [.Tuple [.Name x px,.Name y py,.Name z pz] kt pt] (.Tuple [a,b,c] k2 pt2) pos.line X.env=pure false:=by rfl):
  PS X (.Assign [.Tuple [.Name x px,.Name y py,.Name z pz] kt pt] (.Tuple [a,b,c] k2 pt2) pos) (A5n i j k ta):=by
 intro pins s σ H D I h
 rw [exec_Assign_arm]
 refine wpAny_bind (wpAny_standAt ?_)
 rw [hs]
 refine wpAny_bind (wpAny_pure ?_)
 rw [if_neg (by decide)]
 refine wpAny_bind (Tuple_ (thn (ha _ pins s σ H _ I h) fun us s1 ⟨vs,H1,I1,r1,q1⟩=> ?_))
 obtain⟨v,w,t,e1,q1⟩:=q1
 subst e1
 obtain⟨u1,u2,u3,rfl,r1,r2,r3⟩:∃u1 u2 u3,us=[u1,u2,u3]/\RelV v u1/\RelV w u2/\RelV t u3:=by
  cases r1 with
  |cons p q=>
   cases q with
   |cons p' q'=>
    cases q' with
    |cons p3 q3=>cases q3;exact⟨_,_,_,rfl,p,p',p3⟩
 refine wpAny_newObj_type ?_ (by show 3<=sizeLine;decide)
 have I2:Inv X pins σ H1 {s1 with heap:=s1.heap.push {cls:=.type "tuple",data:=.seq [u1,u2,u3].toArray}}:=I1.kept (t':=s1.toks) fun b o e=>Heap.get?_push_of_some _ e
 rw [hw]
 refine wpAny_bind (wpAny_pure ?_)
 show wpAny (model X.prog X.w) X.A (do rule "assign.swapped-stores";let items←unpackItems (.ref s1.heap.objs.size) 3 none;assignInOrder [fun v=>bindName X.env z v,fun v=>bindName X.env y v,fun v=>bindName X.env x v] items.reverse;pure Flow.next) _ _ _
 refine wpAny_bind (wpAny_rule (wpAny_bind (unpackItems_tuple (items:=#[u1,u2,u3]) (I.ok.hd hc) (IsTup.new s1.heap _) fun h' hx'=> ?_)))
 have I3:=I2.kept (h':=h') (t':=s1.toks) fun b o e=>hx' b o (Nat.ne_of_lt (Heap.lt_size e)) e
 show wpAny _ _ (assignInOrder [fun v=>bindName X.env z v,fun v=>bindName X.env y v,fun v=>bindName X.env x v] [u3,u2,u1]>>=fun _=>pure Flow.next) _ _ _
 refine wpAny_bind (assignInOrder_cons (wpAny_bindName (jC I3 hN hk (.inl hz) r3 (fun s2 I4=> ?_) (.inr hz))))
 refine assignInOrder_cons (wpAny_bindName (jC I4 hN hj (.inl hy) r2 (fun s3 I5=> ?_) (.inr hy)))
 refine assignInOrder_cons (wpAny_bindName (jC I5 hN hi (.inl hx) r1 (fun s4 I6=>assignInOrder_nil (wpAny_pure ?_)) (.inr hx)))
 rw [List.set_comm _ _ (Ne.symm hij),List.set_comm _ _ (Ne.symm hik),List.set_comm _ _ (Ne.symm hjk)]at I6
 exact⟨_,H1,by first|exact I6| (rw [List.set_comm _ _ hij]at I6;exact I6)| (simpa [List.set_comm _ _ hij,List.set_comm _ _ hik,List.set_comm _ _ hjk]using I6),q1⟩
end
section
variable {X:Cx}{pins:List (Addr×Obj)}{σ:St}{H:Hp}{s:Shared}
theorem A9h {P:Program}{w:World}{K:W.Frag}{es:List Expr}{x1}{pos:Pos}(e it a:Addr)(hei:e≠it):
  iH P w K (.Tuple es x1 pos) (Ite fun H xs=>SqL K H a xs) [e,it] e (fun i h=>(∃old,IsEnum h e it i old)/\h.IsListIter it a i/\a≠it/\a≠e)where
 mem:=by simp
 obj:=fun i h st b hb=>by
  obtain⟨⟨old,he⟩,⟨o,e1,c,d⟩,_⟩:=st
  rcases List.mem_cons.mp hb with z|z
  ·subst z;exact⟨_,he,fun v z=>by cases z⟩
  ·have z':=List.mem_singleton.mp z
   subst z';exact⟨o,e1,fun v z=>by rw [d]at z;cases z⟩
 keep:=fun i h h' st k=> ⟨let ⟨old,he⟩:=st.1;⟨old,k e (by simp) _ he⟩,st.2.1.at fun o q=>k it (by simp) o q,st.2.2⟩
 item:=by
  intro X hP hw hK hc i pins s σ H E I hf st hg
  subst hP hw hK
  obtain⟨⟨old,he⟩,hit,hai,hae⟩:=st
  obtain⟨xs,x,hq,hx⟩:=hg
  obtain⟨its,rv,p,hz⟩:=I.list hq
  obtain⟨u,hu,ru⟩:=rv.get hx
  have hlt:i<its.toArray.size:=by
   rw [List.size_toArray];exact(List.getElem?_eq_some_iff.mp hu).1
  refine wpAny_pyNext_enum_itemD (Draws.list (A:=X.A.in1) (by simp [I.ok.hd hc]) it a hai its.toArray) he ⟨hit,p.isList⟩ hlt hei (by simp [hei,Ne.symm hae]) fun v h' tk hv ho hst' hT hsz hk=> ?_
  have hv':v=u:=by
   have e1:its[i]?=some v:=by simpa using hv
   rw [hu]at e1;exact(Option.some.inj e1).symm
  subst hv'
  refine⟨_,rfl,wpAny_letOwnedTupleGo_enum (s:={s with heap:=h',toks:=tk+1}) ho fun h2 he2 hs2=> ?_⟩
  have helt:e<s.heap.objs.size:=Heap.lt_size he
  have hilt:it<s.heap.objs.size:=by obtain⟨_,q,_⟩:=hit;exact Heap.lt_size q
  have hTe:s.heap.objs.size≠e:=Nat.ne_of_gt helt
  have hn:H s.heap.objs.size=none:=I.hok.fresh (Nat.le_refl _)
  have kp:∀b o,b∉[e,it]->s.heap.get? b=some o->h2.get? b=some o:=fun b o hb q=>by
   have hbe:b≠e:=fun z=>hb (by simp [z])
   have hbi:b≠it:=fun z=>hb (by simp [z])
   exact(hs2.2 b hbe).trans (hk b o hbe hbi q)
  have hT2:h2.get? s.heap.objs.size=some {cls:=.type "tuple",data:=.seq #[.int i tk,v]}:=(hs2.2 _ hTe).trans hT
  have I2:Inv X pins σ (upd H s.heap.objs.size (.tup [.int i,x])) {s with heap:=h2,toks:=tk+1}:=I.turnLaid (fp:=[e,it]) kp hf (Nat.le_refl _) ⟨by show 2<=sizeLine;rw [sizeLine_eq];decide,[.int i tk,v],.cons ⟨_,rfl⟩ (.cons ru .nil),⟨_,hT2,rfl,_,rfl⟩⟩
  refine⟨.ref s.heap.objs.size,_,I2,rfl,⟨s.heap.objs.size,x,rfl,hn,rfl,fun ys hy=>by rw [I.list_inj hy hq];exact hx⟩,⟨⟨_,by simpa using he2⟩,hst'.1.at fun o q=>(hs2.2 it hei.symm).trans q,hai,hae⟩,fun b hb=> ?_⟩
  have hbz:b≠s.heap.objs.size:=by
   rcases List.mem_cons.mp hb with z|z
   ·rw [z];exact Nat.ne_of_lt helt
   ·rw [List.mem_singleton.mp z];exact Nat.ne_of_lt hilt
  rw [aS hbz];exact(hf b hb).1
 done:=by
  intro X hP hw hK hc i pins s σ H E I hf st hg
  subst hP hw hK
  obtain⟨⟨old,he⟩,hit,hai,hae⟩:=st
  obtain⟨xs,hq,hx⟩:=hg
  obtain⟨its,rv,p,hz⟩:=I.list hq
  have hl:=rv.length
  have hi:its.toArray.size=i:=by rw [List.size_toArray,←hl,hx]
  refine wpAny_pyNext_enum_endD (Draws.list (A:=X.A.in1) (by simp [I.ok.hd hc]) it a hai its.toArray) he (by rw [hi];exact⟨hit,p.isList⟩) fun h' hs'=> ⟨rfl,?_⟩
  exact I.turned (it:=it) (t':=s.toks) (fun b o hb q=>hs' b o hb q) (hf it (by simp)).1 (hf it (by simp)).2.1 (hf it (by simp)).2.2.2.1 (hf it (by simp)).2.2.2.2.1 (hf it (by simp)).2.2.2.2.2
 self:=fun _ _ _ _ _ st h=>let ⟨old,he⟩:=st.1;wpAny_pyIter_enum he h
def B0t (K:W.Frag)(ta:TA):TI:=fun σ H R=>ta σ H fun vs H1=> ∃a xs,vs=[.ref a]/\SqL K H1 a xs/\R (Ite fun H xs=>SqL K H a xs) H1
theorem A4d {a:Expr}{ta:TA}{p pos:Pos}{es:List Expr}{x1}{tpos:Pos}(hc:X.calm=true)(hg:Gl X "enumerate")(hm:X.mg "enumerate" =none)(ha:PA X [a] ta)(hs:starEach [a] X.env=[(false,eval a X.env)]:=by rfl):
  PI X (.Tuple es x1 tpos) (.Call (.Name "enumerate" p) [a] [] pos) (B0t X.K ta):=by
 intro pins s σ H R I h
 refine Call_ (lC I hg hm boot_enumerate (PyProof.Rows.callWith_type1 (thn (ha pos pins s σ H _ I h) fun us s1 ⟨vs,H1,I1,r1,q1⟩=> ?_) hs rfl))
 obtain⟨b,xs,e,hq,q⟩:=q1
 subst e
 obtain⟨u,rfl,rx⟩:=eT r1
 cases rx
 obtain⟨its,rv,pt,hz⟩:=I1.list hq
 have hblt:b<s1.heap.objs.size:=by obtain⟨o,ho,_⟩:=pt.isList;exact Heap.lt_size ho
 refine call_enumerate_list pt.isList fun h' he hit hsz hk=> ?_
 refine wpAny_pyIter_enum (s:={s1 with heap:=h'}) he ?_
 have I2:Inv X pins σ H1 {s1 with heap:=h'}:=I1.kept (t':=s1.toks) hk
 refine⟨s1.heap.objs.size+1,[s1.heap.objs.size+1,s1.heap.objs.size],_,_,H1,rfl,I2,A9h _ _ b (Nat.succ_ne_self _),⟨⟨_,he⟩,hit,Nat.ne_of_lt hblt,Nat.ne_of_lt (Nat.lt_succ_of_lt hblt)⟩,fun c hc'=> ?_,q⟩
 have hge:s1.heap.objs.size<=c:=by
  rcases List.mem_cons.mp hc' with z|z
  ·rw [z];exact Nat.le_succ _
  ·rw [List.mem_singleton.mp z];exact Nat.le_refl _
 exact I1.fpOk hge (I1.hok.fresh hge)
end
section
variable {X:Cx}{es:List Expr}{te:TE}{t:TA}
theorem bS {c j pos}(he:PE X (.Constant c j pos) te)(hr:PA X es t):PA X (.Constant c j pos::es) (cF te t):=bD he hr rfl
theorem aG {x pos}(he:PE X (.Name x pos) te)(hr:PA X es t):PA X (.Name x pos::es) (cF te t):=bD he hr rfl
theorem fV {a o b pos}(he:PE X (.BinOp a o b pos) te)(hr:PA X es t):PA X (.BinOp a o b pos::es) (cF te t):=bD he hr rfl
theorem A4j {o b pos}(he:PE X (.UnaryOp o b pos) te)(hr:PA X es t):PA X (.UnaryOp o b pos::es) (cF te t):=bD he hr rfl
theorem bQ {f a k pos}(he:PE X (.Call f a k pos) te)(hr:PA X es t):PA X (.Call f a k pos::es) (cF te t):=bD he hr rfl
theorem zM {a k pos}(he:PE X (.Tuple a k pos) te)(hr:PA X es t):PA X (.Tuple a k pos::es) (cF te t):=bD he hr rfl
theorem A56 {a pos}(he:PE X (.List a pos) te)(hr:PA X es t):PA X (.List a pos::es) (cF te t):=bD he hr rfl
theorem eF {a b pos}(he:PE X (.Subscript a b pos) te)(hr:PA X es t):PA X (.Subscript a b pos::es) (cF te t):=bD he hr rfl
theorem A8m {a b pos}(he:PE X (.Dict a b pos) te)(hr:PA X es t):PA X (.Dict a b pos::es) (cF te t):=bD he hr rfl
theorem fW {a b c pos}(he:PE X (.ListComp a b c pos) te)(hr:PA X es t):PA X (.ListComp a b c pos::es) (cF te t):=bD he hr rfl
end
@[irreducible] def PAq (X:Cx)(es:List Expr)(t:TA):Prop:=PA X es t
section
variable {X:Cx}{es:List Expr}{te:TE}{t:TA}
theorem lU (h:PAq X es t):PA X es t:=by unfold PAq at h;exact h
theorem bY:PAq X [] lP:=by unfold PAq;exact aF
theorem eJ {x j pos}(hr:PAq X es t):PAq X (.Constant (.str x) j pos::es) (cF (tC (.str x)) t):=by unfold PAq at*;exact bS cX hr
theorem cJ {i j pos}(hr:PAq X es t):PAq X (.Constant (.int i) j pos::es) (cF (tC (.int i)) t):=by unfold PAq at*;exact bS aL hr
theorem oY {b j pos}(hr:PAq X es t):PAq X (.Constant (.bool b) j pos::es) (cF (tC (.bl b)) t):=by unfold PAq at*;exact bS eZ hr
theorem wS {j pos}(hr:PAq X es t):PAq X (.Constant .none j pos::es) (cF (tC .non) t):=by unfold PAq at*;exact bS mY hr
theorem kH {a o b pos}(he:PE X (.BinOp a o b pos) te)(hr:PAq X es t):PAq X (.BinOp a o b pos::es) (cF te t):=by unfold PAq at*;exact fV he hr
theorem yP {o b pos}(he:PE X (.UnaryOp o b pos) te)(hr:PAq X es t):PAq X (.UnaryOp o b pos::es) (cF te t):=by unfold PAq at*;exact A4j he hr
theorem nA {f a k pos}(he:PE X (.Call f a k pos) te)(hr:PAq X es t):PAq X (.Call f a k pos::es) (cF te t):=by unfold PAq at*;exact bQ he hr
end
@[irreducible] def oR (X:Cx)(st:List Stmt)(t:TS):Prop:=PSs X st t
section
variable {X:Cx}{es:List Expr}{t:TA}{tb:TE}{b:Expr}{p1 p2 p3 pos:Pos}
theorem pX {st:List Stmt}{t:TS}(h:PSs X st t):oR X st t:=by unfold oR;exact h
theorem xG {c:Expr}{a b:List Stmt}{tc:TT}{t u:TS}(hc:PT X c tc)(ha:oR X a t)(hb:oR X b u):PS X (.If c a b pos) (wX tc t u):=by unfold oR at ha hb;exact bU hc ha hb
end
@[irreducible] def PEq (X:Cx)(e:Expr)(t:TE):Prop:=PE X e t
@[irreducible] def PSq (X:Cx)(st:Stmt)(t:TS):Prop:=PS X st t
section
variable {X:Cx}{es:List Expr}{t:TA}{te tb:TE}{b e:Expr}{p1 p2 p3 pos:Pos}
theorem wI {st:Stmt}{rest:List Stmt}{t u:TS}(h1:PSq X st t)(h2:PSs X rest u):PSs X (st::rest) (yJ t u):=by unfold PSq at h1;exact aW h1 h2
end
section
variable {X:Cx}{es:List Expr}{t:TA}{te:TE}{e:Expr}{p1 p3:Pos}
theorem tupq {k}(h:PAq X es t):PEq X (.Tuple es k p1) (sQ t):=by unfold PEq;exact dF (lU h)
theorem lstq (h:PAq X es t):PEq X (.List es p1) (sI t):=by unfold PEq;exact fC (lU h)
theorem jG {a k pos}(he:PEq X (.Tuple a k pos) te)(hr:PAq X es t):PAq X (.Tuple a k pos::es) (cF te t):=by unfold PEq at he;unfold PAq at*;exact zM he hr
theorem eY {a pos}(he:PEq X (.List a pos) te)(hr:PAq X es t):PAq X (.List a pos::es) (cF te t):=by unfold PEq at he;unfold PAq at*;exact A56 he hr
end
end L2
namespace PySem
open Sem (wp)
section
variable {prog:Program}{w:World}{A:Around}{E:Value->Shared->Prop}{s:Shared}
structure iV (z TI TO i1 i2:Addr)(f1 f2:List Addr):Prop where
 z1:z∉f1
 z2:z∉f2
 o1:TO∉f1
 o2:TO∉f2
 c1:i1∉f2
 c2:i2∉f1
 Iz:TI≠z
 Oz:TO≠z
 iz:i1≠z
 jz:i2≠z
 IO:TI≠TO
 I1:TI≠i1
 I2:TI≠i2
 O1:TO≠i1
 O2:TO≠i2
 ij:i1≠i2
theorem A8q (n a b:Nat)(h1:a<n)(h2:b<n):iV (n+4) (n+2) (n+3) n (n+1) [n,a] [n+1,b]:=by
  constructor<;>intro h<;>first
    | (have h':@Eq Nat _ _:=h;omega)
    | (rcases List.mem_cons.mp h with y|y
       · have y':@Eq Nat _ _:=y;omega
       · have y':@Eq Nat _ _:=List.mem_singleton.mp y;omega)
theorem A50 {z TI TO i1 i2:Addr}{f1 f2:List Addr}{n1 n2 k:Nat}{P1 P2:Nat->Value->Prop}{S1 S2:Nat->Heap->Prop}{a b:Value}{Q:Value->Shared->Prop}(D1:Draws prog w A i1 f1 n1 P1 S1)(D2:Draws prog w A i2 f2 n2 P2 S2)(D:iV z TI TO i1 i2 f1 f2)
  (hz:IsZip s.heap z TI TO .none)(hTI:IsPair s.heap TI (.ref i1) (.ref i2))(hTO:IsPair s.heap TO a b)(t1:S1 k s.heap)(t2:S2 k s.heap)(hk1:k<n1)(hk2:k<n2)
  (hQ:∀x y h' tk,P1 k x->P2 k y->IsZip h' z TI TO (rawInt s.heap.objs.size)->IsPair h' TO x y->S1 (k+1) h'->S2 (k+1) h'->IsPair h' s.heap.objs.size x y->
   (∀c o,c≠z->c≠TO->c≠i1->c≠i2->s.heap.get? c=some o->h'.get? c=some o)->Q (.ref s.heap.objs.size) {s with heap:=h',toks:=tk}):
  wpAny (model prog w) A (Builtin.«zip.__next__» ⟨[.ref z],[]⟩) (fun fin s'=> ∃v,fin= .done (.ret v)/\Q v s') E s:=by
 show wpAny _ _ (field (.ref z) 2>>=_) _ _ _;refine wpAny_bind (wpAny_field hz rfl (x:=.bool false) rfl ?_);show wpAny _ _ (field (.ref z) 3>>=_) _ _ _
 refine wpAny_bind (wpAny_field hz rfl (x:=.ref TI) rfl (wpAny_bind (wpAny_seqItems hTI rfl ?_)))
 show wpAny _ _ (Builtin.SmallTypes.ownedTupleIsFree (.ref z)>>=_) _ _ _;refine wpAny_bind ?_;unfold Builtin.SmallTypes.ownedTupleIsFree
 refine wpAny_bind (wpAny_field hz rfl (x:=.none) rfl (wpAny_pure ?_));simp only [if_true]
 refine wpAny_bind (wpAny_rule (wpAny_bind (wpAny_field hz rfl (x:=.ref TO) rfl (wpAny_bind (wpAny_setField_rec hz (by simp) fun h₁ hz₁ hs₁=> ?_)))))
 replace hz₁:IsZip h₁ z TI TO .ellipsis:=hz₁
 refine wpAny_bind ?_;simp only [List.zipIdx_cons,List.zipIdx_nil,List.forIn_cons,List.forIn_nil]
 refine wpAny_bind (wpAny_bind (wpAny_onRaise ?_));show wpAny _ _ (Builtin.SmallTypes.nextOf (.ref i1)>>=_) _ _ _
 have u1:S1 k h₁:=D1.frame k _ _ t1 fun c hc o e=>hs₁.extBut _ _ (fun q=>D.z1 (q▸hc)) e
 refine wpAny_bind (D1.item k _ _ _ hk1 u1 fun x h₂ tk₂ hx v1 hs₂=>wpAny_pure ?_)
 have hTO₂:IsPair h₂ TO a b:=hs₂.extBut _ _ D.O1 (hs₁.extBut _ _ D.Oz hTO)
 refine wpAny_bind (wpAny_seqItems hTO₂ rfl (wpAny_bind (wpAny_updateSeq_pair hTO₂ fun h₃ hTO₃ hs₃=> ?_)))
 replace hTO₃:IsPair h₃ TO x b:=hTO₃
 refine wpAny_bind (wpAny_letGo (wpAny_pure ?_));refine wpAny_bind (wpAny_bind (wpAny_onRaise ?_));show wpAny _ _ (Builtin.SmallTypes.nextOf (.ref i2)>>=_) _ _ _
 have u2:S2 k h₃:=D2.frame k _ _ t2 fun c hc o e=>hs₃.extBut _ _ (fun q=>D.o2 (q▸hc)) (hs₂.extBut _ _ (fun q=>D.c1 (q▸hc)) (hs₁.extBut _ _ (fun q=>D.z2 (q▸hc)) e))
 refine wpAny_bind (D2.item k _ _ _ hk2 u2 fun y h₄ tk₄ hy v2 hs₄=>wpAny_pure ?_)
 have hTO₄:IsPair h₄ TO x b:=hs₄.extBut _ _ D.O2 hTO₃
 refine wpAny_bind (wpAny_seqItems hTO₄ rfl (wpAny_bind (wpAny_updateSeq_pair hTO₄ fun h₅ hTO₅ hs₅=> ?_)))
 replace hTO₅:IsPair h₅ TO x y:=hTO₅
 refine wpAny_bind (wpAny_letGo (wpAny_pure (wpAny_pure ?_)));refine wpAny_bind (wpAny_seqItems hTO₅ rfl (wpAny_bind (wpAny_newTuple ?_)))
 have hsz:h₅.objs.size=s.heap.objs.size:=by rw [hs₅.1,hs₄.1,hs₃.1,hs₂.1,hs₁.1]
 have hz₅:IsZip h₅ z TI TO .ellipsis:=hs₅.extBut _ _ D.Oz.symm (hs₄.extBut _ _ D.jz.symm (hs₃.extBut _ _ D.Oz.symm (hs₂.extBut _ _ D.iz.symm hz₁)))
 have hk₅:∀c o,c≠z->c≠TO->c≠i1->c≠i2->s.heap.get? c=some o->h₅.get? c=some o:=fun c o e1 e2 e3 e4 e=>hs₅.extBut _ _ e2 (hs₄.extBut _ _ e4 (hs₃.extBut _ _ e2 (hs₂.extBut _ _ e3 (hs₁.extBut _ _ e1 e))))
 have w1:S1 (k+1) h₅:=D1.frame _ _ _ v1 fun c hc o e=>hs₅.extBut _ _ (fun q=>D.o1 (q▸hc)) (hs₄.extBut _ _ (fun q=>D.c2 (q▸hc)) (hs₃.extBut _ _ (fun q=>D.o1 (q▸hc)) e))
 have w2:S2 (k+1) h₅:=D2.frame _ _ _ v2 fun c hc o e=>hs₅.extBut _ _ (fun q=>D.o2 (q▸hc)) e
 have hzlt:z<h₅.objs.size:=Heap.lt_size hz₅
 show wpAny _ _ (Builtin.SmallTypes.ownedTupleHandOut (.ref z) (.ref h₅.objs.size)>>=_) _ _ _;refine wpAny_bind ?_;unfold Builtin.SmallTypes.ownedTupleHandOut
 have hz₆:IsZip (h₅.push {cls:=.type "tuple",data:=.seq #[x,y]}) z TI TO .ellipsis:=Heap.get?_push_of_some _ hz₅
 refine wpAny_bind (wpAny_setField_rec hz₆ (by simp) fun h₇ hz₇ hs₇=> ?_);replace hz₇:IsZip h₇ z TI TO (rawInt h₅.objs.size):=hz₇
 refine wpAny_setField_rec hz₇ (by simp) fun h₈ hz₈ hs₈=> ?_;replace hz₈:IsZip h₈ z TI TO (rawInt h₅.objs.size):=hz₈
 have up:∀c o,c≠z->h₅.get? c=some o->h₈.get? c=some o:=fun c o e1 e=>hs₈.extBut _ _ e1 (hs₇.extBut _ _ e1 (Heap.get?_push_of_some _ e))
 have hT₈:IsPair h₈ h₅.objs.size x y:=hs₈.extBut _ _ (Nat.ne_of_gt hzlt) (hs₇.extBut _ _ (Nat.ne_of_gt hzlt) (Heap.get?_push_size _ rfl))
 rw [hsz]at hz₈ hT₈
 refine wpAny_pure ⟨_,rfl,?_⟩;show Q (.ref h₅.objs.size) _;rw [hsz]
 exact hQ x y h₈ _ hx hy hz₈ (up _ _ D.Oz hTO₅) (D1.frame _ _ _ w1 fun c hc o e=>up c o (fun q=>D.z1 (q▸hc)) e) (D2.frame _ _ _ w2 fun c hc o e=>up c o (fun q=>D.z2 (q▸hc)) e) hT₈ fun c o e1 e2 e3 e4 e=>up c o e1 (hk₅ c o e1 e2 e3 e4 e)
theorem A73 {z TI TO i1 i2:Addr}{f1 f2:List Addr}{n1:Nat}{P1:Nat->Value->Prop}{S1:Nat->Heap->Prop}{Q:Fin->Shared->Prop}(D1:Draws prog w A i1 f1 n1 P1 S1)(D:iV z TI TO i1 i2 f1 f2)
  (hz:IsZip s.heap z TI TO .none)(hTI:IsPair s.heap TI (.ref i1) (.ref i2))(t1:S1 n1 s.heap)
  (hE:∀h' e,(∀c o,c≠z->c≠i1->s.heap.get? c=some o->h'.get? c=some o)->(∃o,h'.get? e=some o/\o.cls= .type "StopIteration")->E (.ref e) {s with heap:=h'}):
  wpAny (model prog w) A (Builtin.«zip.__next__» ⟨[.ref z],[]⟩) Q E s:=by
 show wpAny _ _ (field (.ref z) 2>>=_) _ _ _;refine wpAny_bind (wpAny_field hz rfl (x:=.bool false) rfl ?_);show wpAny _ _ (field (.ref z) 3>>=_) _ _ _
 refine wpAny_bind (wpAny_field hz rfl (x:=.ref TI) rfl (wpAny_bind (wpAny_seqItems hTI rfl ?_)))
 show wpAny _ _ (Builtin.SmallTypes.ownedTupleIsFree (.ref z)>>=_) _ _ _;refine wpAny_bind ?_;unfold Builtin.SmallTypes.ownedTupleIsFree
 refine wpAny_bind (wpAny_field hz rfl (x:=.none) rfl (wpAny_pure ?_));simp only [if_true]
 refine wpAny_bind (wpAny_rule (wpAny_bind (wpAny_field hz rfl (x:=.ref TO) rfl (wpAny_bind (wpAny_setField_rec hz (by simp) fun h₁ hz₁ hs₁=> ?_)))))
 replace hz₁:IsZip h₁ z TI TO .ellipsis:=hz₁
 refine wpAny_bind ?_;simp only [List.zipIdx_cons,List.zipIdx_nil,List.forIn_cons,List.forIn_nil]
 refine wpAny_bind (wpAny_bind (wpAny_onRaise ?_));show wpAny _ _ (Builtin.SmallTypes.nextOf (.ref i1)>>=_) _ _ _
 have u1:S1 n1 h₁:=D1.frame n1 _ _ t1 fun c hc o e=>hs₁.extBut _ _ (fun q=>D.z1 (q▸hc)) e
 refine wpAny_bind (D1.done _ _ _ u1 fun h₂ e hs₂ he=> ?_)
 obtain⟨oe,hoe,hce⟩:=he
 have hz₂:IsZip h₂ z TI TO .ellipsis:=hs₂ _ _ D.iz.symm hz₁
 have hez:e≠z:=fun x=>by subst x;rw [hz₂]at hoe;cases hoe;simp at hce
 refine wpAny_setField_rec hz₂ (by simp) fun h₃ _ hs₃=>hE h₃ e (fun c o c1 c3 x=>hs₃.extBut _ _ c1 (hs₂ _ _ c3 (hs₁.extBut _ _ c1 x))) ⟨oe,hs₃.extBut _ _ hez hoe,hce⟩
theorem A7w {z TI TO i1 i2:Addr}{f1 f2:List Addr}{n1 n2 k:Nat}{P1 P2:Nat->Value->Prop}{S1 S2:Nat->Heap->Prop}{a b:Value}{Q:Option Value->Shared->Prop}(D1:Draws prog w A.in1 i1 f1 n1 P1 S1)(D2:Draws prog w A.in1 i2 f2 n2 P2 S2)(D:iV z TI TO i1 i2 f1 f2)
  (hz:IsZip s.heap z TI TO .none)(hTI:IsPair s.heap TI (.ref i1) (.ref i2))(hTO:IsPair s.heap TO a b)(t1:S1 k s.heap)(t2:S2 k s.heap)(hk1:k<n1)(hk2:k<n2)
  (hQ:∀x y h' tk,P1 k x->P2 k y->IsZip h' z TI TO (rawInt s.heap.objs.size)->IsPair h' TO x y->S1 (k+1) h'->S2 (k+1) h'->IsPair h' s.heap.objs.size x y->
   (∀c o,c≠z->c≠TO->c≠i1->c≠i2->s.heap.get? c=some o->h'.get? c=some o)->Q (some (.ref s.heap.objs.size)) {s with heap:=h',toks:=tk}):
  wpAny (model prog w) A (pyNext (.ref z)) Q E s:=by
 have hT:s.TypeIs (.ref z) "zip":=⟨_,hz,rfl⟩
 unfold pyNext
 exact wpAny_bind (wpAny_attempt (wpAny_callSpecial?_slot (name:=Str.ofString "__next__") hT F.slot_zip_next (wpAny_call_entry F.slot_zip_next hT F.entry_zip_next
   (A50 D1 D2 D hz hTI hTO t1 t2 hk1 hk2 fun x y h' tk q1 q2 a1 a2 a3 a4 a5 a6=>wpAny_pure (hQ x y h' tk q1 q2 a1 a2 a3 a4 a5 a6)) (F.args_zip_next_1 _))))
theorem B09 {z TI TO i1 i2:Addr}{f1 f2:List Addr}{n1:Nat}{P1:Nat->Value->Prop}{S1:Nat->Heap->Prop}{Q:Option Value->Shared->Prop}(D1:Draws prog w A.in1 i1 f1 n1 P1 S1)(D:iV z TI TO i1 i2 f1 f2)
  (hz:IsZip s.heap z TI TO .none)(hTI:IsPair s.heap TI (.ref i1) (.ref i2))(t1:S1 n1 s.heap)
  (hQ:∀h',(∀c o,c≠z->c≠i1->s.heap.get? c=some o->h'.get? c=some o)->Q none {s with heap:=h'}):wpAny (model prog w) A (pyNext (.ref z)) Q E s:=by
 have hT:s.TypeIs (.ref z) "zip":=⟨_,hz,rfl⟩
 unfold pyNext
 refine wpAny_bind (wpAny_attempt (wpAny_callSpecial?_slot (name:=Str.ofString "__next__") hT F.slot_zip_next (wpAny_call_entry F.slot_zip_next hT F.entry_zip_next (A73 D1 D hz hTI t1 fun h' e hk he=> ?_) (F.args_zip_next_1 _))))
 obtain⟨o,ho,hc⟩:=he
 exact wpAny_bind (wpAny_isInstance (T:="StopIteration") (b:=true) ⟨o,ho,hc⟩ isSubtype_stop (wpAny_pure (hQ _ hk)))
end
section
variable {prog:Program}{w:World}{A:Around}{E:Value->Shared->Prop}{s:Shared}
end
end PySem
namespace L2
open PySem PySem.Spec PyProof.Rows
structure SeqK where
 Sq:W.Frag->Hp->Addr->List V->Prop
 isq:Heap->Addr->Array Value->Prop
 iit:Heap->Addr->Addr->Nat->Prop
structure SeqK.Ok (k:SeqK):Prop where
 get:∀{X:Cx}{pins:List (Addr×Obj)}{σ:St}{H:Hp}{s:Shared}{a:Addr}{xs:List V},Inv X pins σ H s->k.Sq X.K H a xs->∃its:List Value,Vals xs its/\k.isq s.heap a its.toArray
 inj:∀{X:Cx}{pins:List (Addr×Obj)}{σ:St}{H:Hp}{s:Shared}{a:Addr}{xs ys:List V},Inv X pins σ H s->k.Sq X.K H a xs->k.Sq X.K H a ys->xs=ys
 lt:∀{h:Heap}{a:Addr}{its:Array Value},k.isq h a its->a<h.objs.size
 dr:∀{prog:Program}{w:World}{A:Around},A.handled=none->∀(it l:Addr),l≠it->∀items:Array Value,Draws prog w A it [it,l] items.size (fun i v=>items[i]?=some v) (fun i h=>k.iit h it l i/\k.isq h l items)
 obj:∀{h:Heap}{it l:Addr}{i:Nat},k.iit h it l i->∃o,h.get? it=some o/\∀v,o.data≠ .cell v
 «at»:∀{h h':Heap}{it l:Addr}{i:Nat},k.iit h it l i->(∀o,h.get? it=some o->h'.get? it=some o)->k.iit h' it l i
 zip:∀{prog:Program}{w:World}{A:Around}{E:Value->Shared->Prop}{s:Shared}{l1 l2:Addr}{xs ys:Array Value}{Q:Value->Shared->Prop},k.isq s.heap l1 xs->k.isq s.heap l2 ys->
  (∀h',IsZip h' (s.heap.objs.size+4) (s.heap.objs.size+2) (s.heap.objs.size+3) .none->IsPair h' (s.heap.objs.size+2) (.ref s.heap.objs.size) (.ref (s.heap.objs.size+1))->IsPair h' (s.heap.objs.size+3) .none .none->
   k.iit h' s.heap.objs.size l1 0->k.iit h' (s.heap.objs.size+1) l2 0->(∀c o,s.heap.get? c=some o->h'.get? c=some o)->Q (.ref (s.heap.objs.size+4)) {s with heap:=h'})->wpAny (model prog w) A (call (.type "zip") [.ref l1,.ref l2]) Q E s
def kL:SeqK:=⟨SqL,Heap.IsList,Heap.IsListIter⟩
def kT:SeqK:=⟨SqT,Heap.IsTuple,Heap.IsTupleIter⟩
theorem A53:kL.Ok where
 get:=fun I h=>let ⟨its,r,p,_⟩:=I.list h;⟨its,r,p.isList⟩
 inj:=fun I h1 h2=>I.list_inj h1 h2
 lt:=fun p=>let ⟨o,ho,_⟩:=p;Heap.lt_size ho
 dr:=fun hh it l hne items=>Draws.list hh it l hne items
 obj:=fun⟨o,e,c,d⟩=> ⟨o,e,fun v z=>by rw [d]at z;cases z⟩
 «at»:=fun x k=>Heap.IsListIter.at x k
 zip:=fun p1 p2 h=>call_zip_2 p1 p2 fun h' a1 a2 a3 a4 a5 _ a7=>h h' a1 a2 a3 a4 a5 a7
def Itz (S1 S2:Hp->List V->Prop):It:=
 ⟨fun i H=> ∃xs ys x y,S1 H xs/\S2 H ys/\xs[i]?=some x/\ys[i]?=some y,fun i H v H'=> ∃p x y,v= .ref p/\H p=none/\H'=upd H p (.tup [x,y])/\(∀xs,S1 H xs->xs[i]?=some x)/\∀ys,S2 H ys->ys[i]?=some y,fun i H=> ∃xs,S1 H xs/\xs.length=i⟩
theorem qU {P:Program}{w:World}{K:W.Frag}{es:List Expr}{x1}{pos:Pos}{k:SeqK}(ok:k.Ok)(z TI TO i1 i2 a b:Addr)(D:iV z TI TO i1 i2 [i1,a] [i2,b])(ha:a≠i1)(hb:b≠i2):
  iH P w K (.Tuple es x1 pos) (Itz (fun H xs=>k.Sq K H a xs) fun H ys=>k.Sq K H b ys) [z,TI,TO,i1,i2] z (fun i h=>IsZip h z TI TO .none/\IsPair h TI (.ref i1) (.ref i2)/\(∃u v,IsPair h TO u v)/\k.iit h i1 a i/\k.iit h i2 b i)where
 mem:=by simp
 obj:=fun i h st c hc=>by
  obtain⟨hz,hTI,⟨u,v,hTO⟩,h1,h2⟩:=st
  simp only [List.mem_cons,List.not_mem_nil,or_false]at hc
  rcases hc with rfl|rfl|rfl|rfl|rfl
  ·exact⟨_,hz,fun v z=>by cases z⟩
  ·exact⟨_,hTI,fun v z=>by cases z⟩
  ·exact⟨_,hTO,fun v z=>by cases z⟩
  ·exact ok.obj h1
  ·exact ok.obj h2
 keep:=fun i h h' st kp=>by
  obtain⟨hz,hTI,⟨u,v,hTO⟩,h1,h2⟩:=st
  exact⟨kp z (by simp) _ hz,kp TI (by simp) _ hTI,⟨u,v,kp TO (by simp) _ hTO⟩,ok.at h1 fun o q=>kp i1 (by simp) o q,ok.at h2 fun o q=>kp i2 (by simp) o q⟩
 item:=by
  intro X hP hw hK hc i pins s σ H E I hf st hg
  subst hP hw hK
  obtain⟨hz,hTI,⟨u,v,hTO⟩,h1,h2⟩:=st
  obtain⟨xs,ys,x,y,q1,q2,e1,e2⟩:=hg
  obtain⟨its,rv,p1⟩:=ok.get I q1
  obtain⟨jts,rw',p2⟩:=ok.get I q2
  obtain⟨ux,hux,rx⟩:=rv.get e1
  obtain⟨uy,huy,ry⟩:=rw'.get e2
  have l1:i<its.toArray.size:=by rw [List.size_toArray];exact(List.getElem?_eq_some_iff.mp hux).1
  have l2:i<jts.toArray.size:=by rw [List.size_toArray];exact(List.getElem?_eq_some_iff.mp huy).1
  have hh:X.A.in1.handled=none:=by simp [I.ok.hd hc]
  refine A7w (ok.dr hh i1 a ha its.toArray) (ok.dr hh i2 b hb jts.toArray) D hz hTI hTO ⟨h1,p1⟩ ⟨h2,p2⟩ l1 l2 fun vx vy h' tk hvx hvy g1 g2 g3 g4 g5 g6=> ?_
  have ex:vx=ux:=by
   have e:its[i]?=some vx:=by simpa using hvx
   rw [hux]at e;exact(Option.some.inj e).symm
  have ey:vy=uy:=by
   have e:jts[i]?=some vy:=by simpa using hvy
   rw [huy]at e;exact(Option.some.inj e).symm
  subst ex ey
  refine⟨_,rfl,wpAny_letOwnedTupleGo_zip (s:={s with heap:=h',toks:=tk}) g1 fun h2' hz2 hs2=> ?_⟩
  have hn:H s.heap.objs.size=none:=I.hok.fresh (Nat.le_refl _)
  have lz:∀{c o},s.heap.get? c=some o->s.heap.objs.size≠c:=fun e=>Nat.ne_of_gt (Heap.lt_size e)
  have li1:s.heap.objs.size≠i1:=let ⟨o,e,_⟩:=ok.obj h1;lz e
  have li2:s.heap.objs.size≠i2:=let ⟨o,e,_⟩:=ok.obj h2;lz e
  have kp:∀c o,c∉[z,TI,TO,i1,i2]->s.heap.get? c=some o->h2'.get? c=some o:=fun c o hc' q=>by
   have c1:c≠z:=fun e=>hc' (by simp [e])
   exact(hs2.2 c c1).trans (g6 c o c1 (fun e=>hc' (by simp [e])) (fun e=>hc' (by simp [e])) (fun e=>hc' (by simp [e])) q)
  have hT2:IsPair h2' s.heap.objs.size vx vy:=(hs2.2 _ (lz hz)).trans g5
  have I2:Inv X pins σ (upd H s.heap.objs.size (.tup [x,y])) {s with heap:=h2',toks:=tk}:=I.turnLaid (fp:=[z,TI,TO,i1,i2]) kp hf (Nat.le_refl _) ⟨by show 2<=sizeLine;rw [sizeLine_eq];decide,[vx,vy],.cons rx (.cons ry .nil),⟨_,hT2,rfl,_,rfl⟩⟩
  have hTI2:IsPair h2' TI (.ref i1) (.ref i2):=(hs2.2 _ D.Iz).trans (g6 _ _ D.Iz D.IO D.I1 D.I2 hTI)
  refine⟨.ref s.heap.objs.size,_,I2,rfl,⟨s.heap.objs.size,x,y,rfl,hn,rfl,fun zs hz'=>by rw [ok.inj I hz' q1];exact e1,fun zs hz'=>by rw [ok.inj I hz' q2];exact e2⟩,⟨hz2,hTI2,⟨_,_,(hs2.2 _ D.Oz).trans g2⟩,ok.at g3.1 fun o q=>(hs2.2 _ D.iz).trans q,ok.at g4.1 fun o q=>(hs2.2 _ D.jz).trans q⟩,fun c hc'=> ?_⟩
  have hcz:c≠s.heap.objs.size:=by
   simp only [List.mem_cons,List.not_mem_nil,or_false]at hc'
   rcases hc' with rfl|rfl|rfl|rfl|rfl
   ·exact(lz hz).symm
   ·exact(lz hTI).symm
   ·exact(lz hTO).symm
   ·exact li1.symm
   ·exact li2.symm
  rw [aS hcz];exact(hf c hc').1
 done:=by
  intro X hP hw hK hc i pins s σ H E I hf st hg
  subst hP hw hK
  obtain⟨hz,hTI,⟨u,v,hTO⟩,h1,h2⟩:=st
  obtain⟨xs,q1,hx⟩:=hg
  obtain⟨its,rv,p1⟩:=ok.get I q1
  have hl:=rv.length
  have hi:its.toArray.size=i:=by rw [List.size_toArray,←hl,hx]
  have hh:X.A.in1.handled=none:=by simp [I.ok.hd hc]
  refine B09 (ok.dr hh i1 a ha its.toArray) D hz hTI (by rw [hi];exact⟨h1,p1⟩) fun h' hk=> ⟨rfl,?_⟩
  exact I.turnedL (fp:=[z,TI,TO,i1,i2]) (t':=s.toks) (fun c o hc' q=>hk c o (fun e=>hc' (by simp [e])) (fun e=>hc' (by simp [e])) q) hf
 self:=fun _ _ _ _ _ st h=>wpAny_pyIter_zip st.1 h
section
variable {X:Cx}
end
end L2
namespace PySem
section
variable {prog:Program}{w:World}{A:Around}{E:Value->Shared->Prop}{s:Shared}
theorem A9s {z TI TO i1 i2:Addr}{f1 f2:List Addr}{n1 n2:Nat}{P1 P2:Nat->Value->Prop}{S1 S2:Nat->Heap->Prop}{a b:Value}{Q:Fin->Shared->Prop}(D1:Draws prog w A i1 f1 n1 P1 S1)(D2:Draws prog w A i2 f2 n2 P2 S2)(D:iV z TI TO i1 i2 f1 f2)
  (hz:IsZip s.heap z TI TO .none)(hTI:IsPair s.heap TI (.ref i1) (.ref i2))(hTO:IsPair s.heap TO a b)(t1:S1 n2 s.heap)(t2:S2 n2 s.heap)(hk1:n2<n1)
  (hE:∀h' e tk,(∀c o,c≠z->c≠TO->c≠i1->c≠i2->s.heap.get? c=some o->h'.get? c=some o)->(∃o,h'.get? e=some o/\o.cls= .type "StopIteration")->E (.ref e) {s with heap:=h',toks:=tk}):
  wpAny (model prog w) A (Builtin.«zip.__next__» ⟨[.ref z],[]⟩) Q E s:=by
 show wpAny _ _ (field (.ref z) 2>>=_) _ _ _;refine wpAny_bind (wpAny_field hz rfl (x:=.bool false) rfl ?_);show wpAny _ _ (field (.ref z) 3>>=_) _ _ _
 refine wpAny_bind (wpAny_field hz rfl (x:=.ref TI) rfl (wpAny_bind (wpAny_seqItems hTI rfl ?_)))
 show wpAny _ _ (Builtin.SmallTypes.ownedTupleIsFree (.ref z)>>=_) _ _ _;refine wpAny_bind ?_;unfold Builtin.SmallTypes.ownedTupleIsFree
 refine wpAny_bind (wpAny_field hz rfl (x:=.none) rfl (wpAny_pure ?_));simp only [if_true]
 refine wpAny_bind (wpAny_rule (wpAny_bind (wpAny_field hz rfl (x:=.ref TO) rfl (wpAny_bind (wpAny_setField_rec hz (by simp) fun h₁ hz₁ hs₁=> ?_)))))
 replace hz₁:IsZip h₁ z TI TO .ellipsis:=hz₁
 refine wpAny_bind ?_;simp only [List.zipIdx_cons,List.zipIdx_nil,List.forIn_cons,List.forIn_nil]
 refine wpAny_bind (wpAny_bind (wpAny_onRaise ?_));show wpAny _ _ (Builtin.SmallTypes.nextOf (.ref i1)>>=_) _ _ _
 have u1:S1 n2 h₁:=D1.frame n2 _ _ t1 fun c hc o e=>hs₁.extBut _ _ (fun q=>D.z1 (q▸hc)) e
 refine wpAny_bind (D1.item n2 _ _ _ hk1 u1 fun x h₂ tk₂ hx v1 hs₂=>wpAny_pure ?_)
 have hTO₂:IsPair h₂ TO a b:=hs₂.extBut _ _ D.O1 (hs₁.extBut _ _ D.Oz hTO)
 refine wpAny_bind (wpAny_seqItems hTO₂ rfl (wpAny_bind (wpAny_updateSeq_pair hTO₂ fun h₃ hTO₃ hs₃=> ?_)))
 refine wpAny_bind (wpAny_letGo (wpAny_pure ?_));refine wpAny_bind (wpAny_bind (wpAny_onRaise ?_));show wpAny _ _ (Builtin.SmallTypes.nextOf (.ref i2)>>=_) _ _ _
 have u2:S2 n2 h₃:=D2.frame n2 _ _ t2 fun c hc o e=>hs₃.extBut _ _ (fun q=>D.o2 (q▸hc)) (hs₂.extBut _ _ (fun q=>D.c1 (q▸hc)) (hs₁.extBut _ _ (fun q=>D.z2 (q▸hc)) e))
 refine wpAny_bind (D2.done _ _ _ u2 fun h₄ e hs₄ he=> ?_)
 obtain⟨oe,hoe,hce⟩:=he
 have hz₄:IsZip h₄ z TI TO .ellipsis:=hs₄ _ _ D.jz.symm (hs₃.extBut _ _ D.Oz.symm (hs₂.extBut _ _ D.iz.symm hz₁))
 have hez:e≠z:=fun x=>by subst x;rw [hz₄]at hoe;cases hoe;simp at hce
 refine wpAny_setField_rec hz₄ (by simp) fun h₅ _ hs₅=>hE h₅ e _ (fun c o c1 c2 c3 c4 x=>hs₅.extBut _ _ c1 (hs₄ _ _ c4 (hs₃.extBut _ _ c2 (hs₂.extBut _ _ c3 (hs₁.extBut _ _ c1 x))))) ⟨oe,hs₅.extBut _ _ hez hoe,hce⟩
theorem B1r {z TI TO i1 i2:Addr}{f1 f2:List Addr}{n1 n2:Nat}{P1 P2:Nat->Value->Prop}{S1 S2:Nat->Heap->Prop}{a b:Value}{Q:Option Value->Shared->Prop}(D1:Draws prog w A.in1 i1 f1 n1 P1 S1)(D2:Draws prog w A.in1 i2 f2 n2 P2 S2)(D:iV z TI TO i1 i2 f1 f2)
  (hz:IsZip s.heap z TI TO .none)(hTI:IsPair s.heap TI (.ref i1) (.ref i2))(hTO:IsPair s.heap TO a b)(t1:S1 n2 s.heap)(t2:S2 n2 s.heap)(hk1:n2<n1)
  (hQ:∀h' tk,(∀c o,c≠z->c≠TO->c≠i1->c≠i2->s.heap.get? c=some o->h'.get? c=some o)->Q none {s with heap:=h',toks:=tk}):wpAny (model prog w) A (pyNext (.ref z)) Q E s:=by
 have hT:s.TypeIs (.ref z) "zip":=⟨_,hz,rfl⟩
 unfold pyNext
 refine wpAny_bind (wpAny_attempt (wpAny_callSpecial?_slot (name:=Str.ofString "__next__") hT F.slot_zip_next (wpAny_call_entry F.slot_zip_next hT F.entry_zip_next (A9s D1 D2 D hz hTI hTO t1 t2 hk1 fun h' e tk hk he=> ?_) (F.args_zip_next_1 _))))
 obtain⟨o,ho,hc⟩:=he
 exact wpAny_bind (wpAny_isInstance (T:="StopIteration") (b:=true) ⟨o,ho,hc⟩ isSubtype_stop (wpAny_pure (hQ _ _ hk)))
end
end PySem
namespace L2
open PySem PySem.Spec PyProof.Rows
def vL (S1 S2:Hp->List V->Prop):It:=⟨(Itz S1 S2).go,(Itz S1 S2).yld,fun i H=> ∃xs ys,S1 H xs/\S2 H ys/\ys.length=i/\i<xs.length⟩
theorem A9n {P:Program}{w:World}{K:W.Frag}{es:List Expr}{x1}{pos:Pos}{k:SeqK}(ok:k.Ok)(z TI TO i1 i2 a b:Addr)(D:iV z TI TO i1 i2 [i1,a] [i2,b])(ha:a≠i1)(hb:b≠i2):
  iH P w K (.Tuple es x1 pos) (vL (fun H xs=>k.Sq K H a xs) fun H ys=>k.Sq K H b ys) [z,TI,TO,i1,i2] z (fun i h=>IsZip h z TI TO .none/\IsPair h TI (.ref i1) (.ref i2)/\(∃u v,IsPair h TO u v)/\k.iit h i1 a i/\k.iit h i2 b i)where
 mem:=by simp
 obj:=(qU (P:=P) (w:=w) (K:=K) (es:=es) (x1:=x1) (pos:=pos) ok z TI TO i1 i2 a b D ha hb).obj
 keep:=(qU (P:=P) (w:=w) (K:=K) (es:=es) (x1:=x1) (pos:=pos) ok z TI TO i1 i2 a b D ha hb).keep
 item:=(qU (P:=P) (w:=w) (K:=K) (es:=es) (x1:=x1) (pos:=pos) ok z TI TO i1 i2 a b D ha hb).item
 done:=by
  intro X hP hw hK hc i pins s σ H E I hf st hg
  subst hP hw hK
  obtain⟨hz,hTI,⟨u,v,hTO⟩,h1,h2⟩:=st
  obtain⟨xs,ys,q1,q2,hy,hx⟩:=hg
  obtain⟨its,rv,p1⟩:=ok.get I q1
  obtain⟨jts,rw',p2⟩:=ok.get I q2
  have hl:=rv.length
  have hl2:=rw'.length
  have hi2:jts.toArray.size=i:=by rw [List.size_toArray,←hl2,hy]
  have hi1:i<its.toArray.size:=by rw [List.size_toArray,←hl];exact hx
  have hh:X.A.in1.handled=none:=by simp [I.ok.hd hc]
  refine B1r (ok.dr hh i1 a ha its.toArray) (ok.dr hh i2 b hb jts.toArray) D hz hTI hTO (by rw [hi2];exact⟨h1,p1⟩) (by rw [hi2];exact⟨h2,p2⟩) (by rw [hi2];exact hi1) fun h' tk hk=> ⟨rfl,?_⟩
  exact I.turnedL (fp:=[z,TI,TO,i1,i2]) (t':=tk) (fun c o hc' q=>hk c o (fun e=>hc' (by simp [e])) (fun e=>hc' (by simp [e])) (fun e=>hc' (by simp [e])) (fun e=>hc' (by simp [e])) q) hf
 self:=(qU (P:=P) (w:=w) (K:=K) (es:=es) (x1:=x1) (pos:=pos) ok z TI TO i1 i2 a b D ha hb).self
def A9c (k:SeqK)(K:W.Frag)(ta:TA):TI:=fun σ H R=>ta σ H fun vs H1=> ∃a b xs ys,vs=[.ref a,.ref b]/\k.Sq K H1 a xs/\k.Sq K H1 b ys/\R (vL (fun H xs=>k.Sq K H a xs) fun H ys=>k.Sq K H b ys) H1
section
variable {X:Cx}
theorem B0p {a b:Expr}{ta:TA}{p pos:Pos}{es:List Expr}{x1}{tpos:Pos}{k:SeqK}(ok:k.Ok)(hg:Gl X "zip")(hm:X.mg "zip" =none)(ha:PA X [a,b] ta)(hs:starEach [a,b] X.env=[(false,eval a X.env),(false,eval b X.env)]:=by rfl)(hs2:starEach [b] X.env=[(false,eval b X.env)]:=by rfl):
  PI X (.Tuple es x1 tpos) (.Call (.Name "zip" p) [a,b] [] pos) (A9c k X.K ta):=by
 intro pins s σ H R I h
 refine Call_ (lC I hg hm boot_zip (PyProof.Rows.callWith_type1 (thn (ha pos pins s σ H _ I h) fun us s1 ⟨vs,H1,I1,r1,q1⟩=> ?_) (by rw [hs,hs2]) (by rw [hs2];rfl)))
 obtain⟨a',b',xs,ys,e,q1,q2,q⟩:=q1
 subst e
 obtain⟨u,v,rfl,rx,ry⟩:=qZ r1
 cases rx
 cases ry
 obtain⟨its,rv,p1⟩:=ok.get I1 q1
 obtain⟨jts,rw',p2⟩:=ok.get I1 q2
 have l1:=ok.lt p1
 have l2:=ok.lt p2
 refine ok.zip p1 p2 fun h' a1 a2 a3 a4 a5 a7=> ?_
 refine wpAny_pyIter_zip (s:={s1 with heap:=h'}) a1 ?_
 have I2:Inv X pins σ H1 {s1 with heap:=h'}:=I1.kept (t':=s1.toks) a7
 have far:=A8q s1.heap.objs.size a' b' l1 l2
 refine⟨s1.heap.objs.size+4,[s1.heap.objs.size+4,s1.heap.objs.size+2,s1.heap.objs.size+3,s1.heap.objs.size,s1.heap.objs.size+1],_,_,H1,rfl,I2,A9n ok _ _ _ _ _ a' b' far (Nat.ne_of_lt l1) (Nat.ne_of_lt (Nat.lt_succ_of_lt l2)),⟨a1,a2,⟨_,_,a3⟩,a4,a5⟩,fun c hc'=> ?_,q⟩
 have hge:s1.heap.objs.size<=c:=by
  simp only [List.mem_cons,List.not_mem_nil,or_false]at hc'
  rcases hc' with rfl|rfl|rfl|rfl|rfl
  ·exact Nat.le_add_right _ 4
  ·exact Nat.le_add_right _ 2
  ·exact Nat.le_add_right _ 3
  ·exact Nat.le_refl _
  ·exact Nat.le_succ _
 exact I1.fpOk hge (I1.hok.fresh hge)
theorem A5b {S1 S2:Hp->List V->Prop}{xs ys:List V}{g:TG}{tb:TS}{D:cQ}{σ:St}{H:Hp}(hlen:ys.length<xs.length)(Pv:Nat->St->Hp->Prop)(h0:Pv 0 σ H)(hl:∀i σ H,Pv i σ H->S1 H xs/\S2 H ys)
  (hs:∀i x y p σ H,xs[i]?=some x->ys[i]?=some y->Pv i σ H->H p=none->g (.ref p) σ (upd H p (.tup [x,y])) fun σ2 H2=>tb {D with nx:=Pv (i+1),ct:=Pv (i+1),bk:=D.nx} σ2 H2)(hd:∀σ H,Pv ys.length σ H->D.nx σ H):
  eN (vL S1 S2) g tb D σ H:=by
 refine⟨fun i m σ H=>m=ys.length - i/\i<=ys.length/\Pv i σ H,⟨ys.length,by simp,Nat.zero_le _,h0⟩,?_⟩
 rintro i m σ H ⟨rfl,hi,p⟩
 obtain⟨q1,q2⟩:=hl i σ H p
 by_cases hlt2:i<ys.length
 ·have hlt:i<xs.length:=by omega
  refine .inr ⟨⟨xs,ys,xs[i],ys[i],q1,q2,by simp [hlt],by simp [hlt2]⟩,Pv (i+1),fun σ' H' p'=> ⟨ys.length -(i+1),by omega,rfl,hlt2,p'⟩,fun x H' y=> ?_⟩
  obtain⟨pp,a,b,e1,e2,e3,e4,e5⟩:=y
  subst e1 e3
  exact hs i a b pp σ H (e4 xs q1) (e5 ys q2) p e2
 ·have e:i=ys.length:=by omega
  subst e
  exact .inl ⟨⟨xs,ys,q1,q2,rfl,hlen⟩,hd σ H p⟩
end
end L2
namespace PySem
section
variable {prog:Program}{w:World}{A:Around}{E:Value->Shared->Prop}{s:Shared}
theorem A8s {d:Addr}{o:Obj}{Q:Value->Shared->Prop}(ho:s.heap.get? d=some o)(hx:o.ExactDict)(hd:(d==sysModules)=false)(h:Q (.ref s.heap.objs.size) {s with heap:=s.heap.push {cls:=.type "dict_items",data:=.fields #[.ref d]}}):
  wpAny (model prog w) A (call (.builtin "dict.items") [.ref d]) Q E s:=by
 have hT:s.TypeIs (.ref d) "dict":=⟨o,ho,hx.1⟩
 refine wpAny_call_entry F.slot_dict_items hT F.entry_dict_items ?_ (F.args_dict_items_1 _)
 unfold Builtin.«dict.items»;refine wpAny_bind ?_;unfold Builtin.Dict.noArgs
 refine wpAny_bind (wpAny_notOrdered_dict hT ?_);show wpAny _ _ (pure d) _ _ s;refine wpAny_pure ?_
 show wpAny _ _ (Builtin.Dict.showsAll d>>=_) _ _ s;unfold Builtin.Dict.showsAll
 rw [if_neg (by rw [hd];exact Bool.false_ne_true)];refine wpAny_bind (wpAny_pure ?_)
 exact wpAny_bind (wpAny_newObj_type (wpAny_pure ⟨_,rfl,h⟩))
theorem A3k {v d:Addr}{o:Obj}{es:Array DictEntry}{ep:Nat}{Q:Value->Shared->Prop}(hv:s.heap.IsItemsView v d)(ho:s.heap.get? d=some o)(hd:o.data= .dict es ep)
  (hQ:Q (.ref s.heap.objs.size) {s with heap:=s.heap.push {cls:=.type "dict_itemiterator",data:=.fields #[.none,.bool false,.ref d,.int 0 0,.int es.size 0,.int ep 0,.none,.none]}}):
  wpAny (model prog w) A (pyIter (.ref v)) Q E s:=by
 obtain⟨ov,hov,hcv,hdv⟩:=id hv
 refine wpAny_pyIter_slot hv.typeIs F.slot_dict_items_iter (wpAny_call_entry F.slot_dict_items_iter hv.typeIs F.entry_dict_items_iter ?_ (F.args_dict_items_iter_1 _))
 unfold Builtin.«dict_items.__iter__»;refine wpAny_bind (wpAny_pure ?_);refine wpAny_bind ?_;unfold Builtin.Dict_items.dictOf
 refine wpAny_bind (wpAny_field hov hdv (x:=.ref d) rfl (wpAny_pure ?_));refine wpAny_bind ?_;unfold Builtin.Dict_items.newIterator
 refine wpAny_bind (wpAny_dictEntries ho hd (wpAny_bind (wpAny_dictEpoch ho hd ?_)))
 simp only [show Builtin.Dict_items.ownsTuple "dict_itemiterator" =true by decide,if_true]
 refine wpAny_newObj_type (wpAny_pure ⟨_,rfl,"dict_itemiterator",_,⟨_,Heap.get?_push_size _ rfl,rfl⟩,F.slot_dict_itemiterator_next.lookup,?_⟩) (by simp only [sizeOk,Builtin.Dict_items.ownedTupleFields,List.size_toArray,List.length_append,List.length_cons,List.length_nil,sizeLine_eq];omega)
 simpa [rawInt,Builtin.Dict_items.ownedTupleFields]using hQ
theorem A6d {it d:Addr}{i ep:Nat}{o:Obj}{es:Array DictEntry}{ok ov:Value}{Q:Option Value->Shared->Prop}(hit:IsItemIter s.heap it d i es.size ep ok ov)(ho:s.heap.get? d=some o)(hd:o.data= .dict es ep)(hi:i<es.size)
  (hQ:∀h',IsItemIterOut h' it d (i+1) es.size ep es[i].key es[i].val s.heap.objs.size->h'.get? s.heap.objs.size=some {cls:=.type "tuple",data:=.seq #[es[i].key,es[i].val]}->h'.objs.size=s.heap.objs.size+1->
   (∀b o,b≠it->s.heap.get? b=some o->h'.get? b=some o)->Q (some (.ref s.heap.objs.size)) {s with heap:=h'}):wpAny (model prog w) A (pyNext (.ref it)) Q E s:=by
 obtain⟨hp,g,dr,tk,os⟩:=s
 have hT:Shared.TypeIs ⟨hp,g,dr,tk,os⟩ (.ref it) "dict_itemiterator":=⟨_,hit,rfl⟩
 unfold pyNext
 refine wpAny_bind (wpAny_attempt (wpAny_callSpecial?_slot (name:=Str.ofString "__next__") hT F.slot_dict_itemiterator_next (wpAny_call_entry F.slot_dict_itemiterator_next hT F.entry_dict_itemiterator_next ?_ (F.args_dict_itemiterator_next_1 _))))
 refine wpAny_bind (wpAny_pure ?_);refine wpAny_bind ?_;refine wpAny_bind ?_
 first| (refine wpAny_bind (wpAny_typeNameOfWhole_itemiter hT (wpAny_pure ?_));skip)| (refine wpAny_bind (wpAny_typeNameOf_itemiter hT (wpAny_pure ?_));skip)
 refine wpAny_bind (wpAny_fieldsOf hit rfl ?_);simp only [show Builtin.Dict_items.ownsTuple "dict_itemiterator" =true by decide,if_true]
 show wpAny _ _ (if (Value.ref d==Value.none)=true then _ else _) _ _ _;rw [if_neg (show¬((Value.ref d==Value.none)=true)from Bool.false_ne_true)]
 refine wpAny_bind (wpAny_pure ?_);refine wpAny_bind (wpAny_dictEntries ho hd ?_);rw [if_neg (by simp)]
 refine wpAny_bind (wpAny_pure ?_);refine wpAny_bind (wpAny_dictEpoch ho hd ?_);rw [if_neg (by simp)];refine wpAny_pure ?_
 simp only [show¬((i:Int)<0) by omega,if_false,Int.toNat_natCast,Array.getElem?_eq_getElem hi];refine wpAny_bind ?_
 first| (refine wpAny_bind (wpAny_typeNameOfWhole_itemiter hT (wpAny_pure ?_));skip)| (refine wpAny_bind (wpAny_typeNameOf_itemiter hT (wpAny_pure ?_));skip)
 refine wpAny_bind (wpAny_isOneOf_itemiter hT ?_);show wpAny _ _ (setField (.ref it) 3 (rawInt ((i:Int)+1))>>=_) _ _ ⟨hp,g,dr,tk,os⟩
 refine wpAny_bind (wpAny_setField_rec hit (by simp) fun h₁ he₁ hs₁=> ?_);replace hs₁:Heap.SameBut it hp h₁:=hs₁
 replace he₁:IsItemIter h₁ it d (i+1) es.size ep ok ov:=by
  have e:((i+1:Nat):Int)=(i:Int)+1:=by omega
  unfold IsItemIter;rw [e];simpa [rawInt]using he₁
 have hT₁:Shared.TypeIs ⟨h₁,g,dr,tk,os⟩ (.ref it) "dict_itemiterator":=⟨_,he₁,rfl⟩
 refine wpAny_bind (wpAny_holding ?_);refine wpAny_bind (wpAny_isOneOf_itemiter hT₁ (wpAny_bind (wpAny_isOneOf_itemiter hT₁ ?_)))
 show wpAny _ _ (Builtin.Dict_items.pairFromOwner (.ref it) 6 es[i].key es[i].val) _ _ ⟨h₁,g,dr,tk,os⟩;unfold Builtin.Dict_items.pairFromOwner
 refine wpAny_bind (wpAny_newTuple ?_)
 have he₂:IsItemIter (h₁.push {cls:=.type "tuple",data:=.seq #[es[i].key,es[i].val]}) it d (i+1) es.size ep ok ov:=Heap.get?_push_of_some _ he₁
 generalize hh₂:h₁.push {cls:=.type "tuple",data:=.seq #[es[i].key,es[i].val]}=h₂ at he₂
 have hz₁:h₁.objs.size=hp.objs.size:=hs₁.1
 have hil:=Heap.lt_size hit
 have ht₂:h₂.get? hp.objs.size=some {cls:=.type "tuple",data:=.seq #[es[i].key,es[i].val]}:=by rw [←hh₂,←hz₁];exact Heap.get?_push_size _ rfl
 have hz₂:h₂.objs.size=hp.objs.size+1:=by rw [←hh₂,Heap.size_push,hz₁]
 have hk₂:∀b o,b≠it->hp.get? b=some o->h₂.get? b=some o:=fun b o hb e=>by rw [←hh₂];exact Heap.get?_push_of_some _ (hs₁.extBut b o hb e)
 show wpAny _ _ (Builtin.Dict_items.ownedTupleIsFree (.ref it)>>=_) _ _ ⟨h₂,g,dr,tk,os⟩;rw [hz₁]
 clear hh₂ he₁ hs₁ hT₁ hz₁ h₁
 refine wpAny_bind ?_;unfold Builtin.Dict_items.ownedTupleIsFree
 refine wpAny_bind (wpAny_field he₂ rfl (x:=.none) rfl (wpAny_pure ?_));simp only [if_true]
 refine wpAny_bind (wpAny_field he₂ rfl (x:=ok) rfl (wpAny_bind (wpAny_field he₂ rfl (x:=ov) rfl ?_)))
 refine wpAny_bind (wpAny_setField_rec he₂ (by simp) fun h₃ he₃ hs₃=> ?_);replace hs₃:Heap.SameBut it h₂ h₃:=hs₃
 replace he₃:IsItemIter h₃ it d (i+1) es.size ep es[i].key ov:=he₃
 refine wpAny_bind (wpAny_setField_rec he₃ (by simp) fun h₄ he₄ hs₄=> ?_);replace hs₄:Heap.SameBut it h₃ h₄:=hs₄
 replace he₄:IsItemIter h₄ it d (i+1) es.size ep es[i].key es[i].val:=he₄
 refine wpAny_bind (wpAny_setField_rec he₄ (by simp) fun h₅ he₅ hs₅=> ?_);replace hs₅:Heap.SameBut it h₄ h₅:=hs₅
 replace he₅:IsItemIterOut h₅ it d (i+1) es.size ep es[i].key es[i].val hp.objs.size:=he₅
 refine wpAny_bind (wpAny_setField_rec he₅ (by simp) fun h₆ he₆ hs₆=> ?_);replace hs₆:Heap.SameBut it h₅ h₆:=hs₆
 replace he₆:IsItemIterOut h₆ it d (i+1) es.size ep es[i].key es[i].val hp.objs.size:=he₆
 refine wpAny_bind (wpAny_letGo (wpAny_pure (wpAny_pure ⟨_,rfl,wpAny_pure (hQ h₆ he₆ ?_ ?_ ?_)⟩)))
 ·have ne:=Nat.ne_of_gt hil
  exact hs₆.extBut _ _ ne (hs₅.extBut _ _ ne (hs₄.extBut _ _ ne (hs₃.extBut _ _ ne ht₂)))
 ·show h₆.objs.size=_
  rw [hs₆.1,hs₅.1,hs₄.1,hs₃.1,hz₂]
 ·exact fun b o hb e=>hs₆.extBut b o hb (hs₅.extBut b o hb (hs₄.extBut b o hb (hs₃.extBut b o hb (hk₂ b o hb e))))
theorem A3h {it d:Addr}{i ep:Nat}{o:Obj}{es:Array DictEntry}{ok ov:Value}{Q:Option Value->Shared->Prop}(hh:A.handled=none)(hit:IsItemIter s.heap it d i es.size ep ok ov)(ho:s.heap.get? d=some o)(hd:o.data= .dict es ep)(hi:es.size<=i)
  (hQ:∀h',Heap.ExtBut it s.heap h'->Q none {s with heap:=h'}):wpAny (model prog w) A (pyNext (.ref it)) Q E s:=by
 have hT:s.TypeIs (.ref it) "dict_itemiterator":=⟨_,hit,rfl⟩
 unfold pyNext
 refine wpAny_bind (wpAny_attempt (wpAny_callSpecial?_slot (name:=Str.ofString "__next__") hT F.slot_dict_itemiterator_next (wpAny_call_entry F.slot_dict_itemiterator_next hT F.entry_dict_itemiterator_next ?_ (F.args_dict_itemiterator_next_1 _))))
 refine wpAny_bind (wpAny_pure ?_);refine wpAny_bind ?_;refine wpAny_bind ?_
 first| (refine wpAny_bind (wpAny_typeNameOfWhole_itemiter hT (wpAny_pure ?_));skip)| (refine wpAny_bind (wpAny_typeNameOf_itemiter hT (wpAny_pure ?_));skip)
 refine wpAny_bind (wpAny_fieldsOf hit rfl ?_);simp only [show Builtin.Dict_items.ownsTuple "dict_itemiterator" =true by decide,if_true]
 show wpAny _ _ (if (Value.ref d==Value.none)=true then _ else _) _ _ s;rw [if_neg (show¬((Value.ref d==Value.none)=true)from Bool.false_ne_true)]
 refine wpAny_bind (wpAny_pure ?_);refine wpAny_bind (wpAny_dictEntries ho hd ?_);rw [if_neg (by simp)]
 refine wpAny_bind (wpAny_pure ?_);refine wpAny_bind (wpAny_dictEpoch ho hd ?_);rw [if_neg (by simp)];refine wpAny_pure ?_
 simp only [show¬((i:Int)<0) by omega,if_false,Int.toNat_natCast,Array.getElem?_eq_none hi];refine wpAny_bind ?_
 first| (refine wpAny_bind (wpAny_typeNameOfWhole_itemiter hT (wpAny_pure ?_));skip)| (refine wpAny_bind (wpAny_typeNameOf_itemiter hT (wpAny_pure ?_));skip)
 show wpAny _ _ (setField (.ref it) 2 .none>>=_) _ _ s;refine wpAny_bind (wpAny_setField hit rfl (by simp) ?_)
 show wpAny _ _ (newExc (.type "StopIteration") []>>=_) _ _ _;refine wpAny_bind ?_;simp only [newExc,newTuple]
 refine wpAny_bind (wpAny_newObj_type ?_ (by size_fits));refine wpAny_bind (m:=firstArgMember _ _) (wpAny_of_eq (a:=Value.none) (by first|rfl| (simp only [firstArgMember];rfl)) ?_)
 refine wpAny_newObj_type ?_ (by size_fits);simp only [raiseNew];refine wpAny_bind (wpAny_handled ?_);rw [show A.in1.handled=none from hh]
 refine wpAny_bind (wpAny_pure (wpAny_throw ?_));refine wpAny_bind (wpAny_isInstance (T:="StopIteration") (b:=true) ⟨_,Heap.get?_push_size _ rfl,rfl⟩ isSubtype_stop ?_)
 exact wpAny_pure (hQ _ (((Heap.SameBut.update ..).extBut.push _).push _))
theorem A5h {it d:Addr}{i n ep:Nat}{ok ov:Value}{Q:Value->Shared->Prop}(hit:IsItemIter s.heap it d i n ep ok ov)(h:Q (.ref it) s):wpAny (model prog w) A (pyIter (.ref it)) Q E s:=by
 have hT:s.TypeIs (.ref it) "dict_itemiterator":=⟨_,hit,rfl⟩
 have ent:entryFor table "dict_itemiterator.__iter__" =some Builtin.«dict_keyiterator.__iter__»:=entryFor_alias (id':="dict_keyiterator.__iter__") (by kernel_rfl) rfl (by decide +kernel) (by kernel_rfl)
 refine wpAny_pyIter_slot hT F.slot_dict_itemiterator_iter (wpAny_call_entry F.slot_dict_itemiterator_iter hT ent ?_ (F.args_dict_itemiterator_iter_1 _))
 show wpAny _ _ (ret (.ref it)) _ _ s
 exact wpAny_pure ⟨_,rfl,"dict_itemiterator",_,hT,F.slot_dict_itemiterator_next.lookup,h⟩
end
end PySem
namespace L2
open PySem PySem.Spec PyProof.Rows
theorem Inv.freeze {X:Cx}{pins:List (Addr×Obj)}{σ:St}{H:Hp}{s:Shared}{d:Addr}{o:Obj}{u:HO}(I:Inv X pins σ H s)(hm:Mut (H d))(hd:H d=some u)(ho:s.heap.get? d=some o):Inv X pins σ (upd H d (.frz o u)) s:=by
 have hu:Un X.fs [] H (upd H d (.frz o u)) s.heap s.heap:=by
  refine⟨fun _ _ q _ _ _=>q,fun b ob q _ _ _=> ⟨ob.slots,q⟩,fun b _ _ n _=> ?_,fun b ob q _=> ⟨ob,q⟩,fun b xs q=> ?_,fun b ob v q=> ?_,fun b ps q=> ⟨#[],?_⟩⟩
  ·rw [aS (fun z=>by rw [z,hd]at n;cases n)];exact n
  ·rw [aS (fun z=>by rw [z]at q;rw [q]at hm;exact hm)];exact q
  ·rw [aS (fun z=>by rw [z]at q;rw [q]at hm;exact hm)];exact q
  ·rw [aS (fun z=>by rw [z]at q;rw [q]at hm;exact hm),q];simp
 have hok:HOk X.prog X.w (upd H d (.frz o u)) s.heap:=fun b v q=>by
  have st:∀c w',ObjOk X.prog X.w H s.heap c w'->ObjOk X.prog X.w (upd H d (.frz o u)) s.heap c w':=fun c w' x=>
   x.stay (fun _ _ _ q=>q) (fun b q=>by rw [aS (fun z=>by rw [z]at q;rw [q]at hm;exact hm)];exact q) fun b xs q=>by rw [aS (fun z=>by rw [z]at q;rw [q]at hm;exact hm)];exact q
  by_cases hb:b=d
  ·subst hb
   rw [aI]at q;cases q
   exact⟨ho,st _ _ (I.hok _ _ hd)⟩
  ·rw [aS hb]at q
   exact st _ _ (I.hok _ _ q)
 have:=I.un (h':=s.heap) (t':=s.toks) hu hok
 exact this
def Itm (d:Addr)(o:Obj)(kvs:List (List Key×V)):It:=
  ⟨fun i H=>H d=some (.frz o (.dT kvs))/\i<kvs.length,
   fun i H v H'=> ∃p b k x,v= .ref p/\H p=none/\H'=upd H p (.tup [.ref b,x])/\kvs[i]?=some (k,x)/\H b=some (.tup (k.map kV)),
   fun i H=>H d=some (.frz o (.dT kvs))/\i=kvs.length⟩
theorem A6m {P:Program}{w:World}{K:W.Frag}{es:List Expr}{x1}{pos:Pos}(it d:Addr)(o:Obj)(kvs:List (List Key×V))(ens:Array DictEntry)(ep:Nat)(hd:o.data= .dict ens ep)(hz:ens.size=kvs.length):
  iH P w K (.Tuple es x1 pos) (Itm d o kvs) [it] it (fun i h=> ∃ok ov,IsItemIter h it d i ens.size ep ok ov)where
 mem:=by simp
 obj:=fun i h ⟨ok,ov,st⟩ c hc=>by
  rw [List.mem_singleton.mp hc]
  exact⟨_,st,fun v z=>by cases z⟩
 keep:=fun i h h' ⟨ok,ov,st⟩ kp=> ⟨ok,ov,kp it (by simp) _ st⟩
 item:=by
  intro X hP hw hK hc i pins s σ H E I hf st hg
  subst hP hw hK
  obtain⟨ok,ov,st⟩:=st
  obtain⟨g1,g2⟩:=hg
  obtain⟨ho,ob⟩:=(show ObjOk X.prog X.w H s.heap d (.frz o (.dT kvs))from I.hok _ _ g1)
  obtain⟨_,_,xs,rp,o',es',ep',ho',hx',hd',he',_⟩:=ob
  rw [ho]at ho';cases ho'
  rw [hd]at hd';cases hd'
  have hi:i<ens.size:=by omega
  have hxs:xs.length=kvs.length:=(Paired.length rp).symm
  have hki:kvs[i]?=some kvs[i]:=List.getElem?_eq_getElem g2
  have hxi:i<xs.length:=by omega
  have hent:ens[i]=entryOfKey (tupleKind (eA X.prog X.w)) xs[i]:=by
   have:=entry_at (knd:=tupleKind (eA X.prog X.w)) he' i
   rw [Array.getElem?_eq_getElem hi,List.getElem?_eq_getElem hxi]at this
   exact Option.some.inj this
  have hpr:kvs[i].1=xs[i].1/\H xs[i].2.1=some (.tup (kvs[i].1.map kV))/\RelV kvs[i].2 xs[i].2.2:=by
   have go:∀(l:List (List Key×V))(m:List (List Key×Addr×Value))(j:Nat)(a:j<l.length)(b:j<m.length),Paired (fun(p:List Key×V) (q:List Key×Addr×Value)=>p.1=q.1/\H q.2.1=some (.tup (p.1.map kV))/\RelV p.2 q.2.2) l m->l[j].1=m[j].1/\H m[j].2.1=some (.tup (l[j].1.map kV))/\RelV l[j].2 m[j].2.2:=by
    intro l m j a b r
    induction r generalizing j with
    |nil=>cases a
    |cons r t ih=>
     cases j with
     |zero=>exact r
     |succ j=>exact ih j (by simpa using a) (by simpa using b)
   exact go kvs xs i g2 hxi rp
  refine A6d st ho hd hi fun h' g1' g2' g3' g4'=> ?_
  refine⟨_,rfl,wpAny_letOwnedTupleGo_items (s:={s with heap:=h'}) g1' fun h2 hz2 hs2=> ?_⟩
  have lz:s.heap.objs.size≠it:=Nat.ne_of_gt (Heap.lt_size st)
  have hn:H s.heap.objs.size=none:=I.hok.fresh (Nat.le_refl _)
  have kp:∀c o,c∉[it]->s.heap.get? c=some o->h2.get? c=some o:=fun c o hc' q=>by
   have c1:c≠it:=fun e=>hc' (by simp [e])
   exact(hs2.2 c c1).trans (g4' c o c1 q)
  have hT2:=(hs2.2 _ lz).trans g2'
  rw [hent]at hT2
  have I2:Inv X pins σ (upd H s.heap.objs.size (.tup [.ref xs[i].2.1,kvs[i].2])) {s with heap:=h2,toks:=s.toks}:=I.turnLaid (fp:=[it]) kp hf (Nat.le_refl _) ⟨by show 2<=sizeLine;rw [sizeLine_eq];decide,[.ref xs[i].2.1,xs[i].2.2],.cons rfl (.cons hpr.2.2 .nil),⟨_,hT2,rfl,_,rfl⟩⟩
  refine⟨.ref s.heap.objs.size,_,I2,rfl,⟨s.heap.objs.size,xs[i].2.1,kvs[i].1,kvs[i].2,rfl,hn,rfl,hki,hpr.2.1⟩,⟨_,_,hz2⟩,fun c hc'=> ?_⟩
  rw [List.mem_singleton.mp hc',aS lz.symm]
  exact(hf it (by simp)).1
 done:=by
  intro X hP hw hK hc i pins s σ H E I hf st hg
  subst hP hw hK
  obtain⟨ok,ov,st⟩:=st
  obtain⟨g1,g2⟩:=hg
  obtain⟨ho,ob⟩:=(show ObjOk X.prog X.w H s.heap d (.frz o (.dT kvs))from I.hok _ _ g1)
  refine A3h (I.ok.hd hc) st ho hd (by omega) fun h' hk=> ⟨rfl,?_⟩
  exact I.turnedL (fp:=[it]) (t':=s.toks) (fun c o hc' q=>hk c o (fun e=>hc' (by simp [e])) q) hf
 self:=fun _ _ _ _ _ ⟨ok,ov,st⟩ h=>A5h st h
def A5l (td:TE):TI:=fun σ H R=>td σ H fun x H1=> ∃d kvs,x= .ref d/\H1 d=some (.dT kvs)/\∀o,R (Itm d o kvs) (upd H1 d (.frz o (.dT kvs)))
section
variable {X:Cx}
theorem B2j {a:Expr}{td:TE}{apos cpos:Pos}{es:List Expr}{x1}{tpos:Pos}(ha:PE X a td)(hbase:attributeBase a "items" X.env (eval a X.env)=eval a X.env:=by rfl)(hline:(apos.endLine==cpos.line)=true:=by rfl):
  PI X (.Tuple es x1 tpos) (.Call (.Attribute a "items" apos) [] [] cpos) (A5l td):=by
 intro pins s σ H R I h
 refine wpAny_Call_method0_late hbase hline (thn (ha pins s σ H _ I h) fun v s1 ⟨x,H1,I1,r1,d,kvs,e,q1,q⟩=> ?_)
 subst e
 cases r1
 obtain⟨_,hs,xs,rp,o,ens,ep,ho,hx,hd,he,_⟩:=(show ObjOk X.prog X.w H1 s1.heap d (.dT kvs)from I1.hok _ _ q1)
 have hsz:ens.size=kvs.length:=by rw [size_of_entries he];exact(Paired.length rp).symm
 refine⟨"dict","dict.items",PySem.F.plainAttrs_dict,PySem.F.slot_dict_items,PySem.F.type_dict_items,⟨o,ho,hx.1⟩,fun a e=>by cases e;exact⟨o,ho,hx.2.1⟩,Calls.callWith_builtin rfl (PySem.evalArgs_none ?_)⟩
 refine A8s ho hx hs ?_
 refine A3k (s:={s1 with heap:=s1.heap.push {cls:=.type "dict_items",data:=.fields #[.ref d]}}) ⟨_,Heap.get?_push_size _ rfl,rfl,rfl⟩ (Heap.get?_push_of_some _ ho) hd ?_
 have kp:∀b ob,s1.heap.get? b=some ob->((s1.heap.push {cls:=.type "dict_items",data:=.fields #[.ref d]}).push {cls:=.type "dict_itemiterator",data:=.fields #[.none,.bool false,.ref d,.int 0 0,.int ens.size 0,.int ep 0,.none,.none]}).get? b=some ob:=fun b ob e=>Heap.get?_push_of_some _ (Heap.get?_push_of_some _ e)
 have I2:=(I1.freeze (by rw [q1];trivial) q1 ho).kept (t':=s1.toks) kp
 refine⟨_,[_],_,_,_,rfl,I2,A6m _ d o kvs ens ep hd hsz,⟨_,_,Heap.get?_push_size _ rfl⟩,fun c hc=> ?_,q o⟩
 rw [List.mem_singleton.mp hc]
 have hge:s1.heap.objs.size<=(s1.heap.push {cls:=.type "dict_items",data:=.fields #[.ref d]}).objs.size:=by rw [Heap.size_push];exact Nat.le_succ _
 exact I1.fpOk hge (by rw [aS (Nat.ne_of_gt (Nat.lt_of_lt_of_le (Heap.lt_size ho) hge))];exact I1.hok.fresh hge)
end
end L2
namespace Srt
open PySem PySem.W PyProof.Rows
section
variable {cmp:Nat->Nat->(Bool->Shared->Prop)->Shared->Prop}{n:Nat}{r:Nat->Int}{s:Shared}
def hW (cmp:Nat->Nat->(Bool->Shared->Prop)->Shared->Prop)(n:Nat)(r:Nat->Int)(s:Shared):Prop:=∀i j (C:Bool->Shared->Prop),i<n->j<n->C (decide (r i<r j)) s->cmp i j C s
def at' (p:Array Nat)(k:Nat):Nat:=p.getD k 0
def Pm (n:Nat)(p:Array Nat):Prop:=p.Perm (List.range n).toArray
theorem Pm.size {p:Array Nat}(h:Pm n p):p.size=n:=by rw [Array.Perm.size_eq h];simp
theorem Pm.lt {p:Array Nat}(h:Pm n p)(k:Nat)(hn:0<n):at' p k<n:=by
 unfold at'
 by_cases hk:k<p.size
 ·have e:p.getD k 0=p[k]:=by simp [Array.getD,hk]
  rw [e]
  have h1:p[k]∈p.toList:=by simp
  have h2:=(Array.perm_iff_toList_perm.mp h).mem_iff.mp h1
  simpa using h2
 ·have e:p.getD k 0=0:=by simp [Array.getD,hk]
  rw [e];exact hn
def R (r:Nat->Int)(p:Array Nat)(k:Nat):Int:=r (at' p k)
def Up (r:Nat->Int)(p:Array Nat)(k:Nat):Prop:=∀i j,i<=j->j<k->R r p i<=R r p j
def Dn (r:Nat->Int)(p:Array Nat)(k:Nat):Prop:=∀i j,i<=j->j<k->R r p j<=R r p i
theorem A6q {p:Array Nat}{k:Nat}(h:Up r p k)(h1:R r p (k - 1)<=R r p k):Up r p (k+1):=by
 intro i j hij hj
 by_cases e:j<k
 ·exact h i j hij e
 ·have:j=k:=by omega
  subst this
  by_cases e2:i=j
  ·subst e2;exact Int.le_refl _
  ·exact Int.le_trans (h i (j - 1) (by omega) (by omega)) h1
theorem vG {p:Array Nat}{k:Nat}(h:Dn r p k)(h1:R r p k<=R r p (k - 1)):Dn r p (k+1):=by
 intro i j hij hj
 by_cases e:j<k
 ·exact h i j hij e
 ·have:j=k:=by omega
  subst this
  by_cases e2:i=j
  ·subst e2;exact Int.le_refl _
  ·exact Int.le_trans h1 (h i (j - 1) (by omega) (by omega))
theorem B14 {p:Array Nat}{i j:Nat}(hj:j<=p.size)(k:Nat):at' (kas_rev p i j) k=if i<=k/\k<j then at' p (i+j - 1 - k)else at' p k:=by
 have e:=getElem?_mirror_all (xs:=p) (i:=i) hj k
 have g:∀(xs:Array Nat)(k:Nat),at' xs k=(xs[k]?).getD 0:=fun xs k=>by unfold at';simp [Array.getD];split<;>simp [*]
 rw [g,g,g]
 show(mirror p i j ((j - i)/2))[k]?.getD 0=_
 rw [e]
 split<;>rfl
theorem vO {p:Array Nat}{i j:Nat}(hj:j<=p.size)(k:Nat):R r (kas_rev p i j) k=if i<=k/\k<j then R r p (i+j - 1 - k)else R r p k:=by
 unfold R;rw [B14 hj];split<;>rfl
theorem lK {p:Array Nat}{i j:Nat}(hj:j<=p.size)(h:∀k,i<=k->k<j->R r p k=R r p (j - 1))(k:Nat):R r (kas_rev p i j) k=R r p k:=by
 rw [vO hj]
 split
 ·rw [h _ (by omega) (by omega),h k (by omega) (by omega)]
 ·rfl
theorem Pm.rev {p:Array Nat}(h:Pm n p)(i j:Nat):Pm n (kas_rev p i j):=Array.Perm.trans (mirror_perm _ _ _ _) h
theorem Pm.bub {p:Array Nat}(h:Pm n p)(k d:Nat):Pm n (bubble p k d):=Array.Perm.trans (bubble_perm _ _ _) h
theorem zA {p:Array Nat}{src d:Nat}(hs:src<p.size)(hd:d<=src)(k:Nat):R r (bubble p src d) k=if k=src - d then R r p src else if src - d<k/\k<=src then R r p (k - 1)else R r p k:=by
 have e:=getElem?_bubble (xs:=p) hs d hd k
 have g:∀(xs:Array Nat)(k:Nat),at' xs k=(xs[k]?).getD 0:=fun xs k=>by unfold at';simp [Array.getD];split<;>simp [*]
 unfold R
 rw [g,e]
 split
 ·rw [g]
 ·split<;>rw [g]
theorem tE (ha:hW cmp n r s)(hn:0<n){p:Array Nat}(hp:Pm n p):∀(f k:Nat)(Q:Nat->Shared->Prop),1<=k->Up r p k->(∀m,k<=m->m<=k+f->Up r p m->(m=k+f\/R r p m<R r p (m - 1))->Q m s)->(kas_asc p f k).kasWp cmp Q s
 |0,k,Q,h1,hu,h=>h k (Nat.le_refl _) (Nat.le_refl _) hu (.inl rfl)
 |f+1,k,Q,h1,hu,h=>by
  show cmp (at' p k) (at' p (k - 1)) (fun b s'=>(if b=true then KasT.ret k else kas_asc p f (k+1)).kasWp cmp Q s') s
  refine ha _ _ _ (hp.lt _ hn) (hp.lt _ hn) ?_
  by_cases c:r (at' p k)<r (at' p (k - 1))
  ·rw [decide_eq_true c]
   exact h k (Nat.le_refl _) (by omega) hu (.inr c)
  ·rw [decide_eq_false c]
   refine tE ha hn hp f (k+1) Q (by omega) (A6q hu (Int.not_lt.mp c)) fun m a b u e=>h m (by omega) (by omega) u ?_
   rcases e with e|e
   ·left;omega
   ·exact .inr e
theorem uX (ha:hW cmp n r s)(hn:0<n):∀(f k q:Nat)(p:Array Nat)(Q:Array Nat×Nat×Nat->Shared->Prop),Pm n p->1<=k->k+f<=n->Dn r p k->q+1<=k->(∀i,k -(q+1)<=i->i<k->R r p i=R r p (k - 1))->
  (∀p' m q',Pm n p'->k<=m->m<=k+f->Dn r p' m->q'+1<=m->(∀i,m -(q'+1)<=i->i<m->R r p' i=R r p' (m - 1))->Q (p',m,q') s)->(kas_desc f p k q).kasWp cmp Q s
 |0,k,q,p,Q,hp,h1,hk,hd,hq,he,h=>h p k q hp (Nat.le_refl _) (Nat.le_refl _) hd hq he
 |f+1,k,q,p,Q,hp,h1,hk,hd,hq,he,h=>by
  have hsz:k<=p.size:=by rw [hp.size];omega
  show cmp (at' p k) (at' p (k - 1)) (fun c s'=>(if c=true then(if q>0 then kas_desc f (kas_rev p (k -(q+1)) k) (k+1) 0 else kas_desc f p (k+1) 0)else KasT.ask (at' p (k - 1)) (at' p k) fun d=>if d=true then KasT.ret (p,k,q)else kas_desc f p (k+1) (q+1)).kasWp cmp Q s') s
  refine ha _ _ _ (hp.lt _ hn) (hp.lt _ hn) ?_
  by_cases c:r (at' p k)<r (at' p (k - 1))
  ·rw [decide_eq_true c]
   have go:∀p',Pm n p'->(∀i,R r p' i=R r p i)->(kas_desc f p' (k+1) 0).kasWp cmp Q s:=fun p' hp' e=>by
    refine uX ha hn f (k+1) 0 p' Q hp' (by omega) (by omega) ?_ (by omega) ?_ fun p2 m q' a1 a2 a3 a4 a5 a6=>h p2 m q' a1 (by omega) (by omega) a4 a5 a6
    ·intro i j hij hj
     rw [e,e]
     exact vG hd (Int.le_of_lt c) i j hij hj
    ·intro i hi1 hi2
     have:i=k:=by omega
     subst this;rfl
   show(if q>0 then kas_desc f (kas_rev p (k -(q+1)) k) (k+1) 0 else kas_desc f p (k+1) 0).kasWp cmp Q s
   by_cases hq0:q>0
   ·rw [if_pos hq0];exact go _ (hp.rev _ _) (lK hsz he)
   ·rw [if_neg hq0];exact go p hp fun _=>rfl
  ·rw [decide_eq_false c]
   show cmp (at' p (k - 1)) (at' p k) (fun d s'=>(if d=true then KasT.ret (p,k,q)else kas_desc f p (k+1) (q+1)).kasWp cmp Q s') s
   refine ha _ _ _ (hp.lt _ hn) (hp.lt _ hn) ?_
   by_cases d:r (at' p (k - 1))<r (at' p k)
   ·rw [decide_eq_true d]
    exact h p k q hp (Nat.le_refl _) (by omega) hd hq he
   ·rw [decide_eq_false d]
    have e:R r p k=R r p (k - 1):=Int.le_antisymm (Int.not_lt.mp d) (Int.not_lt.mp c)
    show(kas_desc f p (k+1) (q+1)).kasWp cmp Q s
    refine uX ha hn f (k+1) (q+1) p Q hp (by omega) (by omega) (vG hd (Int.le_of_eq e)) (by omega) ?_ fun p2 m q' a1 a2 a3 a4 a5 a6=>h p2 m q' a1 (by omega) (by omega) a4 a5 a6
    intro i hi1 hi2
    rw [show k+1 - 1=k by omega,e]
    by_cases ik:i=k
    ·rw [ik,e]
    ·exact he i (by omega) (by omega)
theorem A1o (ha:hW cmp n r s)(hn:0<n){p:Array Nat}(hp:Pm n p){k nrem:Nat}{Q:Nat×Array Nat->Shared->Prop}(h1:1<=k)(hk:k<=nrem)(hz:nrem<=n)(hd:Dn r p k)
  (h:∀m p',Pm n p'->1<=m->m<=nrem->Up r p' m->Q (m,p') s):(kas_tail3 k nrem p).kasWp cmp Q s:=by
 unfold kas_tail3
 rw [KasT.kasWp_bind]
 have hsz:k<=p.size:=by rw [hp.size];omega
 refine tE ha hn (hp.rev 0 k) _ _ _ h1 ?_ fun m a b u _=>h m _ (hp.rev 0 k) (by omega) (by omega) u
 intro i j hij hj
 rw [vO hsz,vO hsz,if_pos (by omega),if_pos (by omega)]
 exact hd _ _ (by omega) (by omega)
theorem A14 (ha:hW cmp n r s)(hn:0<n){p:Array Nat}(hp:Pm n p){k nrem:Nat}{Q:Nat×Array Nat->Shared->Prop}(hk:k+1<=nrem)(hz:nrem<=n)(hd:Dn r p (k+1))
  (h:∀m p',Pm n p'->1<=m->m<=nrem->Up r p' m->Q (m,p') s):(kas_descPart k nrem p).kasWp cmp Q s:=by
 unfold kas_descPart
 rw [KasT.kasWp_bind]
 refine uX ha hn _ (k+1) 0 p _ hp (by omega) (by omega) hd (by omega) (fun i a b=>show R r p i=R r p (k+1 - 1) by rw [show i=k+1 - 1 by omega]) fun p' m q hp' a1 a2 hd' hq he=> ?_
 show(if q>0 then kas_tail3 m nrem (kas_rev p' (m -(q+1)) m)else kas_tail3 m nrem p').kasWp cmp Q s
 have hsz:m<=p'.size:=by rw [hp'.size];omega
 by_cases hq0:q>0
 ·rw [if_pos hq0]
  refine A1o ha hn (hp'.rev _ _) (by omega) (by omega) hz ?_ h
  intro i j hij hj
  rw [lK hsz he,lK hsz he]
  exact hd' i j hij hj
 ·rw [if_neg hq0]
  exact A1o ha hn hp' (by omega) (by omega) hz hd' h
theorem A3w (ha:hW cmp n r s)(hn:0<n){p:Array Nat}(hp:Pm n p){Q:Nat×Array Nat->Shared->Prop}
  (h:∀m p',Pm n p'->1<=m->m<=n->Up r p' m->Q (m,p') s):(kas_count n p).kasWp cmp Q s:=by
 unfold kas_count
 rw [KasT.kasWp_bind]
 refine tE ha hn hp _ 1 _ (Nat.le_refl _) (fun i j a b=>show R r p i<=R r p j by rw [show i=j by omega];exact Int.le_refl _) fun m a b u e=> ?_
 by_cases e1:m=n
 ·rw [if_pos (by simpa using e1)]
  exact h m p hp a (by omega) u
 ·rw [if_neg (by simpa using e1)]
  have hlt:R r p m<R r p (m - 1):=e.resolve_left (by omega)
  have dn1:∀p',Pm n p'->Dn r p' m->(∀i,R r p' i=R r p i)->Dn r p' (m+1):=fun p' _ d z=>vG d (by rw [z,z];exact Int.le_of_lt hlt)
  by_cases e2:m>1
  ·rw [if_pos e2]
   show cmp (at' p 0) (at' p (m - 1)) (fun c s'=>(if c=true then KasT.ret (m,p)else kas_descPart m n (kas_rev p 0 m)).kasWp cmp Q s') s
   refine ha _ _ _ (hp.lt _ hn) (hp.lt _ hn) ?_
   by_cases c:r (at' p 0)<r (at' p (m - 1))
   ·rw [decide_eq_true c]
    exact h m p hp a (by omega) u
   ·rw [decide_eq_false c]
    have hall:∀k,0<=k->k<m->R r p k=R r p (m - 1):=fun k _ hk=>by
     have a1:=u 0 k (by omega) hk
     have a2:=u k (m - 1) (by omega) (by omega)
     have a3:R r p (m - 1)<=R r p 0:=Int.not_lt.mp c
     omega
    have hsz:m<=p.size:=by rw [hp.size];omega
    refine A14 ha hn (hp.rev 0 m) (by omega) (Nat.le_refl _) (dn1 _ (hp.rev 0 m) ?_ (lK hsz hall)) h
    intro i j hij hj
    rw [lK hsz hall,lK hsz hall,hall i (by omega) (by omega),hall j (by omega) hj]
    exact Int.le_refl _
  ·rw [if_neg e2]
   have:m=1:=by omega
   subst this
   refine A14 ha hn hp (by omega) (Nat.le_refl _) (dn1 p hp (fun i j hij hj=> ?_) fun _=>rfl) h
   have:i=j:=by omega
   subst this;exact Int.le_refl _
theorem vY (ha:hW cmp n r s)(hn:0<n){p:Array Nat}(hp:Pm n p){k:Nat}(hu:Up r p k):∀(f lo hi:Nat)(Q:Nat->Shared->Prop),lo<=hi->hi<=k->hi - lo<=f->(∀i,i<lo->R r p i<=R r p k)->(∀i,hi<=i->i<k->R r p k<R r p i)->
  (∀l,l<=k->(∀i,i<l->R r p i<=R r p k)->(∀i,l<=i->i<k->R r p k<R r p i)->Q l s)->(kas_place p k f lo hi).kasWp cmp Q s
 |0,lo,hi,Q,h1,h2,h3,hl,hh,h=>h lo (by omega) hl fun i a b=>hh i (by omega) b
 |f+1,lo,hi,Q,h1,h2,h3,hl,hh,h=>by
  unfold kas_place
  by_cases e:lo≥hi
  ·rw [if_pos e]
   exact h lo (by omega) hl fun i a b=>hh i (by omega) b
  ·rw [if_neg e]
   show cmp (at' p k) (at' p ((lo+hi)/2)) (fun c s'=>(if c=true then kas_place p k f lo ((lo+hi)/2)else kas_place p k f ((lo+hi)/2+1) hi).kasWp cmp Q s') s
   refine ha _ _ _ (hp.lt _ hn) (hp.lt _ hn) ?_
   by_cases c:r (at' p k)<r (at' p ((lo+hi)/2))
   ·rw [decide_eq_true c]
    refine vY ha hn hp hu f lo ((lo+hi)/2) Q (by omega) (by omega) (by omega) hl (fun i a b=> ?_) h
    exact Int.lt_of_lt_of_le c (hu ((lo+hi)/2) i a b)
   ·rw [decide_eq_false c]
    refine vY ha hn hp hu f ((lo+hi)/2+1) hi Q (by omega) (by omega) (by omega) (fun i a=> ?_) hh h
    exact Int.le_trans (hu i ((lo+hi)/2) (by omega) (by omega)) (Int.not_lt.mp c)
theorem zC (ha:hW cmp n r s)(hn:0<n):∀(f k:Nat)(p:Array Nat)(Q:Array Nat->Shared->Prop),Pm n p->k+f=n->Up r p k->(∀p',Pm n p'->Up r p' n->Q p' s)->(kas_bin f p k).kasWp cmp Q s
 |0,k,p,Q,hp,hk,hu,h=>h p hp (by rw [←hk];exact hu)
 |f+1,k,p,Q,hp,hk,hu,h=>by
  show((kas_place p k k 0 k).bind fun l=>kas_bin f (bubble p k (k - l)) (k+1)).kasWp cmp Q s
  rw [KasT.kasWp_bind]
  refine vY ha hn hp hu k 0 k _ (Nat.zero_le _) (Nat.le_refl _) (by omega) (fun i a=>by omega) (fun i a b=>by omega) fun l hl h1 h2=> ?_
  refine zC ha hn f (k+1) _ Q (hp.bub _ _) (by omega) ?_ h
  have hs:k<p.size:=by rw [hp.size];omega
  intro i j hij hj
  rw [zA hs (by omega),zA hs (by omega),show k -(k - l)=l by omega]
  by_cases c1:i=l
  ·rw [if_pos c1]
   by_cases c2:j=l
   ·rw [if_pos c2];exact Int.le_refl _
   ·rw [if_neg c2,if_pos (by omega)]
    exact Int.le_of_lt (h2 (j - 1) (by omega) (by omega))
  ·rw [if_neg c1]
   by_cases c2:j=l
   ·rw [if_pos c2,if_neg (by omega)]
    exact h1 i (by omega)
   ·rw [if_neg c2]
    by_cases c3:l<i/\i<=k
    ·rw [if_pos c3,if_pos (by omega)]
     exact hu _ _ (by omega) (by omega)
    ·rw [if_neg c3]
     by_cases c4:l<j/\j<=k
     ·rw [if_pos c4]
      exact hu _ _ (by omega) (by omega)
     ·rw [if_neg c4]
      exact hu _ _ hij (by omega)
theorem A43 (ha:hW cmp n r s)(h2:2<=n){Q:Array Nat->Shared->Prop}(h:∀p,Pm n p->Up r p n->Q p s):(kas_sort n).kasWp cmp Q s:=by
 unfold kas_sort
 rw [KasT.kasWp_bind]
 refine A3w ha (by omega) (Array.Perm.refl _) fun m p hp h1 hm u=> ?_
 show(if m<n then kas_bin (n - max m 1) p (max m 1)else KasT.ret p).kasWp cmp Q s
 by_cases e:m<n
 ·rw [if_pos e]
  have:max m 1=m:=by omega
  rw [this]
  exact zC ha (by omega) _ _ p Q hp (by omega) u h
 ·rw [if_neg e]
  have:m=n:=by omega
  subst this
  exact h p hp u
end
section
variable {prog:Program}{w:World}{A:Around}{E:Value->Shared->Prop}{s:Shared}{κ:SortKind}{r:Nat->Int}
def But (a:Addr)(h h':Heap):Prop:=∀b o,b≠a->h.get? b=some o->h'.get? b=some o
theorem B02 (n:Nat):Pm n (List.toArray (List.range n)):=Array.Perm.refl _
theorem A37 {p:Array Nat}{n:Nat}(h:n<2):Up r p n:=fun i j hij hj=>by
 have:i=j:=by omega
 subst this;exact Int.le_refl _
theorem zH (vs:List Value):(List.toArray (List.range vs.length)).toList.map (fun i=>vs.getD i Value.none)=vs:=by
 refine List.ext_getElem (by simp) fun i h1 h2=> ?_
 simp [h2]
theorem A8o {a:Addr}{vs:List Value}{n:Nat}{P:PySem.Fin->Shared->Prop}(ho:s.heap.get? a=some (seqObj "list" vs.toArray n))(h64:vs.length<64)
  (hk:2<=vs.length->∀h',But a s.heap h'->(∀Q:SortKind->Shared->Prop,Q κ {s with heap:=h'}->wpAny (model prog w) A (keyKind' vs.toArray) Q E {s with heap:=h'})/\hW (kas_ask prog w A κ vs) vs.length r {s with heap:=h'})
  (h:∀h' c p,Pm vs.length p->Up r p vs.length->h'.get? a=some (seqObj "list" (p.toList.map fun i=>vs.getD i Value.none).toArray c)->But a s.heap h'->P (.done (.ret .none)) {s with heap:=h'}):
  wpAny (model prog w) A (Builtin.«list.sort» ⟨[.ref a],[]⟩) P E s:=by
 have la:=Heap.lt_size ho
 obtain⟨c1,o1⟩:∃c1,(s.heap.update a (Obj.mapSeq fun _=>(#[]:Array Value))).get? a=some (seqObj "list" #[] c1):=⟨_,get?_update_seq ho fun _=> #[]⟩
 have b1:But a s.heap (s.heap.update a (Obj.mapSeq fun _=>(#[]:Array Value))):=fun b o hb e=>by rw [Heap.get?_update_ne _ _ _ _ hb];exact e
 generalize hg1:s.heap.update a (Obj.mapSeq fun _=>(#[]:Array Value))=g1 at o1 b1
 have o3:((g1.push (seqObj "tuple" vs.toArray 0)).push (seqObj "list" #[] 0)).get? a=some (seqObj "list" #[] c1):=Heap.get?_push_of_some _ (Heap.get?_push_of_some _ o1)
 have b3:But a s.heap ((g1.push (seqObj "tuple" vs.toArray 0)).push (seqObj "list" #[] 0)):=fun b o hb e=>Heap.get?_push_of_some _ (Heap.get?_push_of_some _ (b1 b o hb e))
 rw [list_sort_plain]
 refine wpAny_bind (listItems_at ho rfl ?_)
 refine wpAny_bind (listUpdate_at ho rfl ?_ (by rw [List.size_toArray,sizeLine_eq];omega) (Nat.zero_le _))
 rw [hg1]
 refine wpAny_bind (seqEpoch_at o1 rfl ?_)
 refine wpAny_bind (wpAny_newTuple ?_ (by show vs.length<=_;rw [sizeLine_eq];omega))
 refine wpAny_bind (wpAny_newList ?_ (Nat.zero_le _))
 refine wpAny_holding ?_
 show wpAny (model prog w) A _ P E {s with heap:=(g1.push (seqObj "tuple" vs.toArray 0)).push (seqObj "list" #[] 0)}
 generalize (g1.push (seqObj "tuple" vs.toArray 0)).push (seqObj "list" #[] 0)=g3 at o3 b3
 dsimp only
 have fin:∀(st:SortSt)(p:Array Nat),Pm vs.length p->Up r p vs.length->(arrOf st).map (·.2)=(p.toList.map fun i=>vs.getD i Value.none).toArray->failedOf st=none->
   wpAny (model prog w) A (do
    let touched:=(←seqEpoch a) !=c1
    Builtin.List.listUpdate (.ref a) fun _=>(arrOf st).map (·.2)
    if let some e:=failedOf st then rule "list.sort.comparison-raised";throw e
    if touched then rule "list.sort.modified";raiseError "ValueError" "list modified during sort"
    ret .none) P E {s with heap:=g3}:=fun st p hp hu hout hf=>by
  rw [hout,hf]
  have hz:(p.toList.map fun i=>vs.getD i Value.none).toArray.size=vs.length:=by rw [List.size_toArray,List.length_map,Array.length_toList,hp.size]
  obtain⟨c4,o4⟩:∃c4,(g3.update a (Obj.mapSeq fun _=>(p.toList.map fun i=>vs.getD i Value.none).toArray)).get? a=some (seqObj "list" (p.toList.map fun i=>vs.getD i Value.none).toArray c4):=⟨_,get?_update_seq o3 fun _=>(p.toList.map fun i=>vs.getD i Value.none).toArray⟩
  refine wpAny_bind (seqEpoch_at o3 rfl ?_)
  refine wpAny_bind (listUpdate_at o3 rfl ?_ (Nat.zero_le _) (Nat.le_trans (Nat.le_of_eq hz) (by rw [sizeLine_eq];omega)))
  simp only [bne_self_eq_false,Bool.false_eq_true,if_false]
  exact wpAny_pure (h _ c4 p hp hu o4 fun b o hb e=>by rw [Heap.get?_update_ne _ _ _ _ hb];exact b3 b o hb e)
 by_cases h2:vs.toArray.size<2
 ·rw [if_pos h2,if_pos h2]
  refine wpAny_bind (wpAny_pure ?_)
  rw [StateT.run_pure]
  refine wpAny_bind (wpAny_pure ?_)
  refine fin _ _ (B02 _) (A37 (by rw [List.size_toArray]at h2;exact h2)) ?_ rfl
  rw [zH]
  show(vs.toArray.zip vs.toArray).map (·.2)=_
  apply Array.toList_inj.mp
  simp [List.map_snd_zip]
 ·rw [if_neg h2,if_neg h2]
  rw [List.size_toArray]at h2
  obtain⟨kk,ask⟩:=hk (by omega) g3 b3
  refine wpAny_bind (kk _ ?_)
  refine wpAny_bind (wpAny_mono (kat_run (Q:=fun st' s'=>s'={s with heap:=g3}/\∃p,Pm vs.length p/\Up r p vs.length/\arrOf st'=p.map (kas_item (vs.toArray.zip vs.toArray))/\failedOf st'=none) (G:=fun p s'=>s'={s with heap:=g3}/\Pm vs.length p/\Up r p vs.length)
   rfl (by omega) h64 (fun p st' s' a1 a2 a3 a4=> ⟨a4.1,p,a4.2.1,a4.2.2,a2,a3⟩) (A43 ask (by omega) fun p hp hu=> ⟨rfl,hp,hu⟩)) ?_ fun _ _ e=>e)
  rintro⟨⟨⟩,st'⟩ s' ⟨rfl,p,hp,hu,har,hf⟩
  exact fin st' p hp hu (kat_snds rfl har) hf
theorem A0m {x:Value}{vs:List Value}{Q:Value->Shared->Prop}(h64:vs.length<64)
  (hc:∀Q':List Value->Shared->Prop,(∀h1 tk,(∀b o,s.heap.get? b=some o->h1.get? b=some o)->s.heap.objs.size<=h1.objs.size->Q' vs {s with heap:=h1,toks:=tk})->wpAny (model prog w) A.in1 (collect x) Q' E s)
  (hr:∀h1 tk,(∀b o,s.heap.get? b=some o->h1.get? b=some o)->2<=vs.length->(∀Q:SortKind->Shared->Prop,Q κ {s with heap:=h1,toks:=tk}->wpAny (model prog w) A.in1.in1 (keyKind' vs.toArray) Q E {s with heap:=h1,toks:=tk})/\hW (kas_ask prog w A.in1.in1 κ vs) vs.length r {s with heap:=h1,toks:=tk})
  (h:∀D h' tk c p,s.heap.objs.size<=D->Pm vs.length p->Up r p vs.length->h'.get? D=some (seqObj "list" (p.toList.map fun i=>vs.getD i Value.none).toArray c)->(∀b o,s.heap.get? b=some o->h'.get? b=some o)->Q (.ref D) {s with heap:=h',toks:=tk}):
  wpAny (model prog w) A (call (.builtin "sorted") [x]) Q E s:=by
 refine Calls.call_function_entry kind_sorted plain_sorted entry_sorted (args_sorted1 _) ?_
 unfold Builtin.«sorted»
 refine wpAny_bind (m:=checkCount "sorted" 1 1 _) (wpAny_pure ?_)
 refine wpAny_bind (hc _ fun h1 tk k1 z1=> ?_)
 refine wpAny_bind (wpAny_newList ?_ (by rw [sizeLine_eq];omega))
 have oL:(h1.push (seqObj "list" vs.toArray 0)).get? h1.objs.size=some (seqObj "list" vs.toArray 0):=Heap.get?_push_size _ rfl
 have kL:∀b o,s.heap.get? b=some o->(h1.push (seqObj "list" vs.toArray 0)).get? b=some o/\b≠h1.objs.size:=fun b o e=> ⟨Heap.get?_push_of_some _ (k1 b o e),Nat.ne_of_lt (Nat.lt_of_lt_of_le (Heap.lt_size e) z1)⟩
 refine wpAny_bind (wpAny_holding (wpAny_call_entry slot_list_sort ⟨_,oL,rfl⟩ entry_list_sort ?_ (args_list_sort _)))
 refine A8o (κ:=κ) (r:=r) oL h64 (fun h2 h' b'=>hr h' tk (fun b o e=>b' b o (kL b o e).2 (kL b o e).1) h2) fun h' c p hp hu o' b'=> ⟨_,rfl,?_⟩
 exact wpAny_pure ⟨_,rfl,h h1.objs.size h' tk c p z1 hp hu o' fun b o e=>b' b o (kL b o e).2 (kL b o e).1⟩
end
end Srt
namespace L2
open PySem PySem.Spec PyProof.Rows
def Kn (H:Hp):Nat->V->Prop
 |0,_=>True
 |n+1,v=>match v with
  | .non=>True
  | .bl _=>True
  | .int _=>True
  | .str _=>True
  | .ref a=>(∃xs,H a=some (.lst xs))\/(∃kvs,H a=some (.dK kvs))\/ ∃xs,H a=some (.tup xs)/\xs.length<=1000/\∀x∈xs,Kn H n x
  |_=>False
def KnA (H:Hp)(v:V):Prop:=∀n,Kn H n v
structure Ext (H H':Hp):Prop where
 tup:∀a xs,H a=some (.tup xs)->H' a=some (.tup xs)
 lst:∀a xs,H a=some (.lst xs)->∃ys,H' a=some (.lst ys)
 dct:∀a kvs,H a=some (.dK kvs)->H' a=some (.dK kvs)
theorem Same.ext {H H':Hp}(s:Same H H'):Ext H H':=⟨fun _ _ h=>s _ _ h,fun _ xs h=> ⟨xs,s _ _ h⟩,fun _ _ h=>s _ _ h⟩
theorem Kn.ext {H H':Hp}(e:Ext H H'):∀{n:Nat}{v:V},Kn H n v->Kn H' n v
 |0,_,_=>True.intro
 |n+1,v,h=>by
  cases v with
  |ref a=>
   rcases h with⟨xs,h⟩| ⟨kvs,h⟩| ⟨xs,h,hl,hx⟩
   ·exact .inl (e.lst _ _ h)
   ·exact .inr (.inl ⟨kvs,e.dct _ _ h⟩)
   ·exact .inr (.inr ⟨xs,e.tup _ _ h,hl,fun x hm=>Kn.ext e (hx x hm)⟩)
  |_=>exact h
theorem Kn.le {H:Hp}:∀{n m:Nat}{v:V},n<=m->Kn H m v->Kn H n v
 |0,_,_,_,_=>True.intro
 |n+1,0,_,h,_=>absurd h (by omega)
 |n+1,m+1,v,h,k=>by
  cases v with
  |ref a=>
   rcases k with⟨xs,k⟩| ⟨kvs,k⟩| ⟨xs,k,hl,hx⟩
   ·exact .inl ⟨xs,k⟩
   ·exact .inr (.inl ⟨kvs,k⟩)
   ·exact .inr (.inr ⟨xs,k,hl,fun x hm=>Kn.le (by omega) (hx x hm)⟩)
  |_=>exact k
theorem KnA.int {H:Hp}(i:Int):KnA H (.int i):=fun n=>by cases n<;>exact True.intro
theorem KnA.bl {H:Hp}(b:Bool):KnA H (.bl b):=fun n=>by cases n<;>exact True.intro
theorem KnA.non {H:Hp}:KnA H .non:=fun n=>by cases n<;>exact True.intro
theorem KnA.str {H:Hp}(x:Str):KnA H (.str x):=fun n=>by cases n<;>exact True.intro
theorem KnA.lst {H:Hp}{a:Addr}{xs:List V}(h:H a=some (.lst xs)):KnA H (.ref a):=fun n=>by cases n with|zero=>exact True.intro|succ n=>exact .inl ⟨xs,h⟩
theorem KnA.dct {H:Hp}{a:Addr}{kvs:List (Key×V)}(h:H a=some (.dK kvs)):KnA H (.ref a):=fun n=>by cases n with|zero=>exact True.intro|succ n=>exact .inr (.inl ⟨kvs,h⟩)
theorem KnA.tup {H:Hp}{a:Addr}{xs:List V}(h:H a=some (.tup xs))(hl:xs.length<=1000)(hx:∀x∈xs,KnA H x):KnA H (.ref a):=fun n=>by
 cases n with
 |zero=>exact True.intro
 |succ n=>exact .inr (.inr ⟨xs,h,hl,fun x hm=>hx x hm n⟩)
theorem Kn.items {H:Hp}{n:Nat}{a:Addr}{xs:List V}(k:Kn H (n+1) (.ref a))(h:H a=some (.tup xs)):xs.length<=1000/\∀x∈xs,Kn H n x:=by
 rcases k with⟨ys,k⟩| ⟨kvs,k⟩| ⟨ys,k,hl,hx⟩
 ·rw [h]at k;cases k
 ·rw [h]at k;cases k
 ·rw [h]at k;cases k;exact⟨hl,hx⟩
def isInt:V->Bool| .int _=>true|_=>false
def vK:V->Bool| .bl _=>true|_=>false
def tupOf (H:Hp):V->Option (List V)
 | .ref a=>match H a with|some (.tup xs)=>some xs|_=>none
 |_=>none
theorem jB {H:Hp}{a:Addr}{xs:List V}(h:H a=some (.tup xs)):tupOf H (.ref a)=some xs:=by simp [tupOf,h]
theorem eX {H:Hp}{v:V}{xs:List V}(h:tupOf H v=some xs):∃a,v= .ref a/\H a=some (.tup xs):=by
 cases v with
 |ref a=>
  unfold tupOf at h
  cases e:H a with
  |none=>simp [e]at h
  |some o=>cases o<;>simp [e]at h;subst h;exact⟨a,rfl,e⟩
 |_=>simp [tupOf]at h
section
variable {K:W.Frag}
theorem lB {H:Hp}{v:V}(k:Kn H 1 v):∃t,TyOf K H v t/\W.kitOne K t (.type "int")=some (isInt v||vK v)/\W.kitOne K t (.type "bool")=some (vK v)/\W.kitOne K t (.type "tuple")=some (tupOf H v).isSome:=by
 cases v with
 |non=>exact⟨_,.non,by kernel_rfl,by kernel_rfl,by kernel_rfl⟩
 |bl b=>exact⟨_,.bl b,by kernel_rfl,by kernel_rfl,by kernel_rfl⟩
 |int i=>exact⟨_,.int i,by kernel_rfl,by kernel_rfl,by kernel_rfl⟩
 |str x=>exact⟨_,.str x,by kernel_rfl,by kernel_rfl,by kernel_rfl⟩
 |ref a=>
  rcases k with⟨xs,k⟩| ⟨kvs,k⟩| ⟨xs,k,hl,hx⟩
  ·refine⟨_,.lst k,by kernel_rfl,by kernel_rfl,?_⟩
   have:(tupOf H (.ref a)).isSome=false:=by simp [tupOf,k]
   rw [this];kernel_rfl
  ·refine⟨_,.dK k,by kernel_rfl,by kernel_rfl,?_⟩
   have:(tupOf H (.ref a)).isSome=false:=by simp [tupOf,k]
   rw [this];kernel_rfl
  ·refine⟨_,.tup k,by kernel_rfl,by kernel_rfl,?_⟩
   have:(tupOf H (.ref a)).isSome=true:=by simp [tupOf,k]
   rw [this];kernel_rfl
 |_=>exact(show False from k).elim
end
def bG (lo hi:Int):V->Bool| .int i=>decide (lo<=i)&&decide (i<=hi)|_=>false
def iZ (H:Hp)(v:V):Nat:=((tupOf H v).getD []).length
theorem Same.tupOf {H H':Hp}(s:Same H H'){v:V}(k:Kn H 1 v):L2.tupOf H' v=L2.tupOf H v:=by
 cases v with
 |ref a=>
  rcases k with⟨xs,k⟩| ⟨kvs,k⟩| ⟨xs,k,_⟩
  ·simp [L2.tupOf,k,s _ _ k]
  ·simp [L2.tupOf,k,s _ _ k]
  ·simp [L2.tupOf,k,s _ _ k]
 |_=>rfl
def PenAt (H:Hp)(p:Addr):Prop:=∃x f:Int,H p=some (.lst [.int x,.int f])
structure Stp (p:Addr)(H H':Hp):Prop where
 pen:PenAt H' p
 keep:∀b o,b≠p->H b=some o->H' b=some o
theorem Stp.refl {p:Addr}{H:Hp}(h:PenAt H p):Stp p H H:=⟨h,fun _ _ _ e=>e⟩
theorem Stp.trans {p:Addr}{H H1 H2:Hp}(a:Stp p H H1)(b:Stp p H1 H2):Stp p H H2:=⟨b.pen,fun c o h e=>b.keep c o h (a.keep c o h e)⟩
theorem Stp.same {p:Addr}{H H1 H2:Hp}(a:Stp p H H1)(s:Same H1 H2):Stp p H H2:=⟨let ⟨x,f,e⟩:=a.pen;⟨x,f,s _ _ e⟩,fun b o h e=>s _ _ (a.keep b o h e)⟩
theorem PenAt.ne {H:Hp}{p b:Addr}{o:HO}(h:PenAt H p)(e:H b=some o)(n:∀xs,o≠ .lst xs):b≠p:=fun z=>by
 obtain⟨x,f,e2⟩:=h
 rw [z,e2]at e
 cases e
 exact n _ rfl
theorem xI {K:W.Frag}{a l:Addr}{xs:List V}{te:TE}{H0:Hp}{rest:St}{Q:St->Hp->Prop}(f:V->V)(ha:H0 a=some (.tup xs))(hl:H0 l=none)(hz:xs.length<=1000)
  (turn:∀x H' Q',x∈xs->Same H0 H'->(∀H2,Same H' H2->Q' (f x) H2)->te (some x::rest) H' Q')(hQ:∀σ H',Same H0 H'->H' l=some (.lst (xs.map f))->Q σ H'):
  eN (Itt K a) (dJ 0) (eG jI (eL l te)) (eC Q) (none::rest) (upd H0 l (.lst [])):=by
 have s0:Same H0 (upd H0 l (.lst [])):=aJ hl
 refine pO (K:=K) (a:=a) (xs:=xs) (fun i σ H'=>(∃o,σ=o::rest)/\Same H0 H'/\H' l=some (.lst ((xs.take i).map f))) ⟨⟨_,rfl⟩,s0,by rw [aI];rfl⟩ (fun i σ H' _ h=>SqT.of (h.2.1 _ _ ha)) ?_ ?_
 ·rintro i x σ H' hx ⟨⟨o,rfl⟩,hs,hl'⟩
  show eL l te (some x::rest) H' _
  refine turn x H' _ (List.mem_of_getElem? hx) hs fun H2 h2=> ?_
  refine⟨_,h2 _ _ hl',?_,⟨_,rfl⟩,fun b u e=> ?_,?_⟩
  ·rw [List.length_map,List.length_take]
   exact eW (by omega)
  ·rw [aS (cB e hl)];exact h2 _ _ (hs _ _ e)
  ·rw [aI,List.take_succ,hx,List.map_append];rfl
 ·rintro σ H' ⟨_,hs,hl'⟩
  rw [List.take_of_length_le (Nat.le_refl _)]at hl'
  exact hQ σ H' hs hl'
theorem nI {tb:TC}{D:cQ}{σ:St}{H:Hp}(h:tb σ H D.nx):eG jI tb D σ H:=by
 show(if true=true then tb σ H D.nx else D.nx σ H)
 exact bE h
theorem pU {i:Nat}{v:V}{tb:TC}{D:cQ}{σ:St}{H:Hp}(h:tb (σ.set i (some v)) H D.nx):dJ i v σ H (fun σ2 H2=>eG jI tb D σ2 H2):=nI h
theorem dQ {b:Bool}{A B:Prop}(h1:b=true->A)(h2:b=false->B):if b=true then A else B:=by
 cases b with
 |true=>exact bE (h1 rfl)
 |false=>exact aY (h2 rfl)
theorem cW {c:Prop} [Decidable c]{A B:Prop}(h1:c->A)(h2:¬c->B):if decide c=true then A else B:=by
 by_cases h:c
 ·rw [decide_eq_true h];exact bE (h1 h)
 ·rw [decide_eq_false h];exact aY (h2 h)
def PlAt (H:Hp)(ps:List Addr)(cs:List (Int×Int)):Prop:=Paired (fun p c=>H p=some (.tup [.int c.1,.int c.2])) ps cs
theorem PlAt.snoc {H:Hp}{ps:List Addr}{cs:List (Int×Int)}{p:Addr}{c:Int×Int}(h:PlAt H ps cs)(e:H p=some (.tup [.int c.1,.int c.2])):PlAt H (ps++[p]) (cs++[c]):=Paired.snoc h e
section
variable {X:Cx}
theorem vN (ns:List Int):∀j:Nat,preSum (fun i=>(ns[i]?).getD 0) j=(ns.take j).sum
 |0=>by simp [preSum]
 |j+1=>by
  have ih:=vN ns j
  rw [List.take_succ,List.sum_append]
  show preSum (fun i=>(ns[i]?).getD 0) j+(ns[j]?).getD 0=_
  rw [ih]
  cases ns[j]?<;>simp
theorem A1i {B:Int}(hB:0<=B):∀{ns:List Int},(∀n∈ns,-B<=n/\n<=B)->-(B*ns.length)<=ns.sum/\ns.sum<=B*ns.length
 | [],_=>by simp
 |n::ns,h=>by
  have ih:=A1i hB (ns:=ns) fun m hm=>h m (List.mem_cons_of_mem _ hm)
  have h0:=h n List.mem_cons_self
  rw [List.sum_cons,List.length_cons]
  have e:B*((ns.length+1:Nat):Int)=B*(ns.length:Int)+B:=by
   rw [Int.natCast_add,Int.mul_add];simp
  rw [e]
  constructor<;>omega
end
end L2
namespace Srt
theorem mD:∀xs:List Int,HT.lexLt xs xs=false
 | []=>rfl
 |x::xs=>by rw [HT.lexLt_cons,if_pos rfl];exact mD xs
theorem oJ:∀{xs ys zs:List Int},HT.lexLt xs ys=true->HT.lexLt ys zs=true->HT.lexLt xs zs=true
 | [],[],_,h,_=>by cases h
 | [],_::_,[],_,h=>by cases h
 | [],_::_,_::_,_,_=>rfl
 |_::_,[],_,h,_=>by cases h
 |_::_,_::_,[],_,h=>by cases h
 |x::xs,y::ys,z::zs,h1,h2=>by
  rw [HT.lexLt_cons]at h1 h2⊢
  by_cases e1:x=y
  ·subst e1
   rw [if_pos rfl]at h1
   by_cases e2:x=z
   ·subst e2
    rw [if_pos rfl]at h2⊢
    exact oJ h1 h2
   ·rw [if_neg e2]at h2⊢;exact h2
  ·rw [if_neg e1,decide_eq_true_eq]at h1
   by_cases e2:y=z
   ·subst e2
    rw [if_neg e1,decide_eq_true_eq];exact h1
   ·rw [if_neg e2,decide_eq_true_eq]at h2
    rw [if_neg (by omega),decide_eq_true_eq];omega
theorem vR:∀{xs ys:List Int},HT.lexLt xs ys=false->HT.lexLt ys xs=false->xs=ys
 | [],[],_,_=>rfl
 | [],_::_,h,_=>by cases h
 |_::_,[],_,h=>by cases h
 |x::xs,y::ys,h1,h2=>by
  rw [HT.lexLt_cons]at h1 h2
  by_cases e:x=y
  ·subst e
   rw [if_pos rfl]at h1 h2
   rw [vR h1 h2]
  ·rw [if_neg e,decide_eq_false_iff_not]at h1
   rw [if_neg (fun z=>e z.symm),decide_eq_false_iff_not]at h2
   omega
def rank (rows:List (List Int))(x:List Int):Int:=(rows.countP fun z=>HT.lexLt z x:Nat)
theorem uI {α:Type}{p q:α->Bool}:∀{l:List α},(∀a∈l,p a=true->q a=true)->l.countP p<=l.countP q
 | [],_=>by simp
 |a::l,h=>by
  have ih:=uI (p:=p) (q:=q) (l:=l) fun b hb=>h b (List.mem_cons_of_mem _ hb)
  rw [List.countP_cons,List.countP_cons]
  have:=h a List.mem_cons_self
  cases hp:p a<;>cases hq:q a<;>simp_all<;>omega
theorem A2a {α:Type}{p q:α->Bool}{x:α}:∀{l:List α},(∀a∈l,p a=true->q a=true)->x∈l->p x=false->q x=true->l.countP p<l.countP q
 | [],_,hx,_,_=>by cases hx
 |a::l,h,hx,hp,hq=>by
  have hl:∀b∈l,p b=true->q b=true:=fun b hb=>h b (List.mem_cons_of_mem _ hb)
  rw [List.countP_cons,List.countP_cons]
  rcases List.mem_cons.mp hx with e|e
  ·subst e
   have:=uI hl
   rw [hp,hq]
   simp
   omega
  ·have ih:=A2a hl e hp hq
   have:=h a List.mem_cons_self
   cases hp':p a<;>cases hq':q a<;>simp_all<;>omega
theorem zI {rows:List (List Int)}{x y:List Int}(hx:x∈rows)(hy:y∈rows):decide (rank rows x<rank rows y)=HT.lexLt x y:=by
 unfold rank
 cases h:HT.lexLt x y with
 |true=>
  rw [decide_eq_true_eq]
  have:=A2a (l:=rows) (p:=fun z=>HT.lexLt z x) (q:=fun z=>HT.lexLt z y) (fun a _ ha=>oJ ha h) hx (mD x) h
  omega
 |false=>
  rw [decide_eq_false_iff_not]
  have:rows.countP (fun z=>HT.lexLt z y)<=rows.countP (fun z=>HT.lexLt z x):=by
   refine uI fun a _ ha=> ?_
   cases h2:HT.lexLt y x with
   |true=>exact oJ ha h2
   |false=>rw [vR h h2];exact ha
  omega
end Srt
namespace L2
open PySem PySem.Spec PyProof.Rows Srt
section
variable {prog:Program}{w:World}{A:Around}
theorem A1j {C:Bool->Shared->Prop}{s:Shared}{b:Bool}:∀{xs ys:List Int}{us ws:List Value}(i:Nat),Vals (xs.map V.int) us->Vals (ys.map V.int) ws->C (HT.lexLt xs ys) s->
  W.KatLex prog w A b (decide (xs.length<ys.length)) C (us.zip ws) i s
 | [],[],_,_,i,.nil,.nil,h=>by
  show C (decide (0<0)) s
  exact h
 | [],y::ys,_,_,i,.nil,.cons _ _,h=>by
  show C (decide (0<ys.length+1)) s
  rw [decide_eq_true (by omega)];exact h
 |x::xs,[],_,_,i,.cons _ _,.nil,h=>by
  show C (decide (xs.length+1<0)) s
  rw [decide_eq_false (by omega)];exact h
 |x::xs,y::ys,_,_,i,.cons r1 t1,.cons r2 t2,h=>by
  obtain⟨t,rfl⟩:=r1
  obtain⟨u,rfl⟩:=r2
  rw [HT.lexLt_cons]at h
  refine W.kat_cons (wpAny_eqBool_int ?_)
  by_cases e:x=y
  ·subst e
   rw [if_pos rfl]at h
   rw [show(x==x)=true by simp]
   refine W.kat_yes ?_
   have:=A1j (b:=b) (i+1) t1 t2 h
   rw [show decide ((x::xs).length<(x::ys).length)=decide (xs.length<ys.length) by simp]
   exact this
  ·rw [if_neg e]at h
   rw [show(x==y)=false by simpa using e]
   refine W.kat_no ?_
   cases b&&i==0 with
   |true=>exact oneLt_int h
   |false=>exact W.kat_one _ _ (PyProof.Rows.lt_int (show W.BoolBack C (Value.bool (decide (x<y))) s from h))
end
theorem pG:∀{as:List Addr}{us:List Value},Vals (as.map V.ref) us->us=as.map Value.ref
 | [],_,.nil=>rfl
 |a::as,_,.cons r t=>by rw [pG t];cases (show _=Value.ref a from r);rfl
theorem A0g:∀zs:List (Addr×List Int),Vals (zs.map fun z=>V.ref z.1) (zs.map fun z=>Value.ref z.1)
 | []=> .nil
 |z::zs=> .cons rfl (A0g zs)
section
variable {X:Cx}
def kF (zs zs':List (Addr×List Int)):Prop:=zs'.Perm zs/\zs'.Pairwise fun a b=>HT.lexLt b.2 a.2=false
theorem A98 {zs:List (Addr×List Int)}{p:Array Nat}(hp:Pm zs.length p)(hu:Up (fun i=>rank (zs.map (·.2)) ((zs.getD i (0,[])).2)) p zs.length):kF zs (p.toList.map fun i=>zs.getD i (0,[])):=by
 have hperm:=Array.perm_iff_toList_perm.mp hp
 constructor
 ·have h1:=hperm.map fun i=>zs.getD i (0,[])
  refine h1.trans (List.Perm.of_eq ?_)
  refine List.ext_getElem (by simp) fun i a b=> ?_
  simp [b]
 ·rw [List.pairwise_map,List.pairwise_iff_getElem]
  intro i j hi hj hij
  have hsz:p.toList.length=zs.length:=by rw [Array.length_toList,hp.size]
  have h1:=hu i j (by omega) (by omega)
  have mem:∀k (hk:k<p.toList.length),(zs.getD (p.toList[k]'hk) (0,[])).2∈zs.map (·.2):=fun k hk=>by
   have:p.toList[k]<zs.length:=by
    have:=hperm.mem_iff.mp (List.getElem_mem hk)
    simpa using this
   have e:zs.getD p.toList[k] (0,[])=zs[p.toList[k]]:=by rw [List.getD_eq_getElem?_getD,List.getElem?_eq_getElem this];rfl
   rw [e]
   exact List.mem_map_of_mem (List.getElem_mem _)
  have e:∀k (hk:k<p.toList.length),at' p k=p.toList[k]:=fun k hk=>by
   have:k<p.size:=by simpa using hk
   unfold at';simp [Array.getD,this]
  unfold R at h1
  rw [e i hi,e j hj]at h1
  rw [←zI (mem j hj) (mem i hi),decide_eq_false_iff_not]
  exact Int.not_lt.mpr h1
theorem tM {pins:List (Addr×Obj)}{s:Shared}{σ:St}{H:Hp}{Q:VK}{p:Addr}{zs:List (Addr×List Int)}(I:Inv X pins σ H s)(hz:∀z∈zs,H z.1=some (.tup (z.2.map V.int))/\z.2≠[])(h64:zs.length<64)
  (hcol:∀Q':List Value->Shared->Prop,(∀h1 tk,(∀b o,s.heap.get? b=some o->h1.get? b=some o)->s.heap.objs.size<=h1.objs.size->Q' (zs.map fun z=>Value.ref z.1) {s with heap:=h1,toks:=tk})->wpAny (model X.prog X.w) X.A.in1 (collect (.ref p)) Q' X.xe s)
  (q:∀l zs',H l=none->kF zs zs'->Q (.ref l) (upd H l (.lst (zs'.map fun z=>V.ref z.1)))):wpAny (model X.prog X.w) X.A (call (.builtin "sorted") [.ref p]) (EP X pins σ Q) X.xe s:=by
 have tup:∀(h':Heap),(∀b o,s.heap.get? b=some o->h'.get? b=some o)->∀z∈zs,∃it:List Value,Vals (z.2.map V.int) it/\∃o n,h'.get? z.1=some o/\o.cls= .type "tuple"/\o.data= .seq it.toArray n:=fun h' k z hm=>by
  obtain⟨_,it,rt,o,ho,hc,n,hd⟩:=(show ObjOk X.prog X.w H s.heap z.1 (.tup _)from I.hok _ _ (hz z hm).1)
  exact⟨it,rt,o,n,k _ _ ho,hc,hd⟩
 have gd:∀i,i<zs.length->(zs.map fun z=>Value.ref z.1).getD i Value.none= .ref (zs.getD i (0,[])).1/\zs.getD i (0,[])∈zs:=fun i hi=>by
  constructor
  ·simp [hi]
  ·rw [show zs.getD i (0,[])=zs[i] by simp [hi]];exact List.getElem_mem _
 refine A0m (κ:=tuples' true) (r:=fun i=>rank (zs.map (·.2)) ((zs.getD i (0,[])).2)) (vs:=zs.map fun z=>Value.ref z.1) (by rw [List.length_map];exact h64) (fun Q' k=> ?_) (fun h1 tk k1 h2=> ⟨fun Q2 q2=> ?_,fun i j C hi hj hC=> ?_⟩) fun D h' tk c pp hD hp hu o' k'=> ?_
 ·exact hcol Q' k
 ·have key:∀ys:List (Addr×List Int),(∀z∈ys,z∈zs)->∃fs:List Value,W.KatTups h1 (ys.map fun z=>Value.ref z.1) fs/\fs.length=ys.length/\∀v∈fs,∃n t,v= .int n t:=fun ys=>by
   induction ys with
   |nil=>intro _;exact⟨[],trivial,rfl,fun v hv=>by cases hv⟩
   |cons z ys ih=>
    intro hm
    obtain⟨fs,g1,g2,g3⟩:=ih fun y hy=>hm y (List.mem_cons_of_mem _ hy)
    obtain⟨it,rt,o,n,ho,hc,hd⟩:=tup h1 k1 z (hm z List.mem_cons_self)
    obtain⟨x,xs',ex⟩:=List.exists_cons_of_ne_nil (hz z (hm z List.mem_cons_self)).2
    rw [ex]at rt
    cases rt with
    |cons r0 t0=>
     obtain⟨t,rfl⟩:=r0
     exact⟨.int x t::fs,W.KatTups.cons ho hc hd (by simp) g1,by simp [g2],fun v hv=>by
      rcases List.mem_cons.mp hv with e|e
      ·exact⟨x,t,e⟩
      ·exact g3 v e⟩
  obtain⟨fs,g1,g2,g3⟩:=key zs fun z hz=>hz
  rw [List.length_map]at h2
  refine W.kat_kind (T:=.type "int") (s:={s with heap:=h1,toks:=tk}) g1 (by omega) (fun v hv=> ?_) rfl q2
  obtain⟨n,t,rfl⟩:=g3 v hv
  exact W.Looks.of_pure rfl
 ·rw [List.length_map]at hi hj
  obtain⟨ei,mi⟩:=gd i hi
  obtain⟨ej,mj⟩:=gd j hj
  show wpAny _ _ (keyLt' (tuples' true) ((zs.map fun z=>Value.ref z.1).getD i Value.none) ((zs.map fun z=>Value.ref z.1).getD j Value.none)) C (fun _ _=>False) _
  rw [ei,ej]
  obtain⟨it,rt,o,n,ho,hc,hd⟩:=tup h1 k1 _ mi
  obtain⟨it2,rt2,o2,n2,ho2,hc2,hd2⟩:=tup h1 k1 _ mj
  rw [zI (List.mem_map_of_mem mi) (List.mem_map_of_mem mj)]at hC
  refine W.kat_lt (s:={s with heap:=h1,toks:=tk}) ho hd ho2 hd2 ?_
  have l1:=rt.length
  have l2:=rt2.length
  rw [List.length_map]at l1 l2
  rw [List.size_toArray,List.size_toArray,←l1,←l2]
  exact A1j 0 rt rt2 hC
 ·rw [List.length_map]at hp hu
  have so:=A98 hp hu
  have eo:(pp.toList.map fun i=>(zs.map fun z=>Value.ref z.1).getD i Value.none)=(pp.toList.map fun i=>zs.getD i (0,[])).map fun z=>Value.ref z.1:=by
   rw [List.map_map]
   refine List.map_congr_left fun i hi=> ?_
   have:i<zs.length:=by
    have:=(Array.perm_iff_toList_perm.mp hp).mem_iff.mp hi
    simpa using this
   exact(gd i this).1
  rw [eo]at o'
  have hlen:=so.1.length_eq
  refine⟨.ref D,_,I.laid (t':=tk) (o:=.lst ((pp.toList.map fun i=>zs.getD i (0,[])).map fun z=>V.ref z.1)) k' hD ⟨by rw [List.length_map,hlen,sizeLine_eq];omega,_,c,?_,o'⟩,rfl,q _ _ (I.hok.fresh hD) so⟩
  exact A0g _
theorem A1v:dX X (.builtin "sorted") (fun xs H Q=> ∃(p:Addr)(zs:List (Addr×List Int)),xs=[.ref p]/\SqL X.K H p (zs.map fun z=>V.ref z.1)/\(∀z∈zs,H z.1=some (.tup (z.2.map V.int))/\z.2≠[])/\zs.length<64/\
  ∀l zs',H l=none->kF zs zs'->Q (.ref l) (upd H l (.lst (zs'.map fun z=>V.ref z.1)))):=by
 intro pins s σ H xs us Q I r h
 obtain⟨p,zs,rfl,hq,hz,h64,q⟩:=h
 obtain⟨u,rfl,rx⟩:=eT r
 cases rx
 obtain⟨its,rv,pl,_⟩:=I.list hq
 have hits:its=zs.map fun z=>Value.ref z.1:=by
  have:=pG (as:=zs.map (·.1)) (us:=its) (by rw [List.map_map];exact rv)
  rw [this,List.map_map];rfl
 subst hits
 have isl:=pl.isList
 refine tM I hz h64 (fun Q' k=> ?_) q
 refine collect_list isl ?_ (by rw [List.length_map,sizeLine_eq];omega)
 refine k _ s.toks (fun b o e=> ?_) (by rw [Heap.size_update,size_push'];exact Nat.le_succ _)
 rw [Heap.get?_update_ne _ _ _ _ (Nat.ne_of_lt (Heap.lt_size e))]
 exact Heap.get?_push_of_some _ e
end
end L2
namespace L2
open PySem PySem.Spec PyProof.Rows
theorem Stp.updL {p l:Addr}{H H1:Hp}{ys:List V}(s:Stp p H H1)(hl:H l=none)(hp:PenAt H p):Stp p H (upd H1 l (.lst ys)):=by
 obtain⟨x,f,e⟩:=hp
 have hne:p≠l:=cB e hl
 obtain⟨x',f',e'⟩:=s.pen
 exact⟨⟨x',f',by rw [aS hne];exact e'⟩,fun b o hb h=>by rw [aS (cB h hl)];exact s.keep b o hb h⟩
theorem ObjOk.isThere {P:Program}{w:World}{H:Hp}{h:Heap}{a:Addr}{o:HO}(x:ObjOk P w H h a o):∃u,h.get? a=some u:=by
 cases o with
 |lst xs=>obtain⟨_,_,_,_,e⟩:=x;exact⟨_,e⟩
 |tup xs=>obtain⟨_,_,_,u,e,_⟩:=x;exact⟨u,e⟩
 |dK kvs=>obtain⟨_,_,_,_,o,_,_,e,_⟩:=x;exact⟨_,e⟩
 |dT kvs=>obtain⟨_,_,_,_,o,_,_,e,_⟩:=x;exact⟨_,e⟩
 |set S n=>obtain⟨o,_,_,_,e,_⟩:=x;exact⟨_,e⟩
 |ins C dx fs=>obtain⟨_,_,_,e,_⟩:=x;exact⟨_,e⟩
 |own y=>exact x
 |xd fs=>obtain⟨_,⟨_,_,_,e,_⟩,_⟩:=x;exact⟨_,e⟩
 |rng lo hi=>obtain⟨_,_,_,e⟩:=x;exact⟨_,e⟩
 |frz ob u=>obtain⟨e,_⟩:=x;exact⟨_,e⟩
 |tbl ps=>exact⟨_,(show h.get? a=some _ from x)⟩
 |met f y=>exact⟨_,(show h.get? a=some _ from x)⟩
 |ext φ=>obtain⟨_,e,_⟩:=x;exact e
theorem HOk.tracked {P:Program}{w:World}{H:Hp}{h h':Heap}(ok:HOk P w H h)(k:∀b u o,H b=some u->h.get? b=some o->h'.get? b=some o):HOk P w H h':=fun a o e=>
 (ok a o e).stay (fun b u hb q=>by
  rcases hb with z|z
  ·subst z;exact k _ _ _ e q
  ·exact k _ _ _ z q) (fun _ q=>q) fun _ _ q=>q
structure Fly (P:Program)(w:World)(outer:List Env)(H:Hp)(s:Shared)(e:Addr)(cls:Value)(H':Hp)(s':Shared):Prop where
 os:s'.os=s.os
 bare:AllBare s'.gens
 un:Un (frs outer) [] H H' s.heap s'.heap
 hok:HOk P w H' s'.heap
 fly:∃B a0,Heap.FlyingW B outer e cls a0 s'.heap/\(∀b o,s.heap.get? b=some o->H b=none->b∉frs outer->B.get? b=some o)/\(∀b o,s.heap.get? b=some o->b∉frs outer->∃o',B.get? b=some o')/\∀b u,H' b=some u->∃o,B.get? b=some o
theorem sP {env:Env}{l:List Env}{b:Addr}(h:b∈frs l):b∈frs (env::l):=by
 obtain⟨e,he,hb⟩:=List.mem_filterMap.mp h
 exact List.mem_filterMap.mpr ⟨e,List.mem_cons_of_mem _ he,hb⟩
section
variable {X:Cx}{pins:List (Addr×Obj)}{σ:St}{H H':Hp}{s s':Shared}{cls:Value}{e:Addr}{Q:Unit->Shared->Prop}{E':Value->Shared->Prop}
theorem Inv.notOwn (I:Inv X pins σ H s){b:Addr}{o:Obj}(q:X.s₀.heap.get? b=some o)(hb:b∉X.fs):b∉frs X.stack:=fun hm=>by
 rcases List.mem_cons.mp (I.stkSub b hm)with z|z
 ·exact absurd (Nat.lt_of_lt_of_le (Heap.lt_size q) I.ok.above) (by rw [z];exact Nat.lt_irrefl _)
 ·exact hb z
theorem A8u (I:Inv X pins σ H s)(hs:X.stack=X.env::X.outer)(hf:X.env.frame=some X.env.locals)(hex:X.ex=[]){h1:Heap}{args:List Value}(hx:Heap.MadeExcOf s.heap h1 e cls args)
  (k:∀h',Fly X.prog X.w X.outer X.H₀ X.s₀ e cls H {s with heap:=h'}->Q () {s with heap:=h'}):wpAny (model X.prog X.w) X.A (leaving X.env (.ref e)) Q E' {s with heap:=h1}:=by
 have st:s.heap.FunFrames X.base X.stack:=I.stack
 have hin:∀env∈X.stack,∀b,env.frame=some b->b∈frs X.stack:=fun env he b hb=>List.mem_filterMap.mpr ⟨env,he,hb⟩
 have fB:=W.funFrames_hide (as:=frs X.stack) st hin
 have hfr:=I.ok.frames
 rw [hs]at hfr fB
 refine wpAny_leaves_madeW (base:=W.hideAll s.heap (frs X.stack)) (h:=s.heap) hfr hf (fun b o q=>W.of_hideAll _ q) (by rw [hs];exact fB) hx fun h' t x1 x2 x3 x4=>k h' ?_
 have nex:∀b,b∉X.ex:=fun b hb=>by rw [hex]at hb;cases hb
 have kB:∀b o,s.heap.get? b=some o->b∉frs X.stack->(W.hideAll s.heap (frs X.stack)).get? b=some o:=fun b o q n=>W.hideAll_get _ q n
 have kS:∀b o,s.heap.get? b=some o->b∈frs X.stack->∃sl,h'.get? b=some {o with slots:=sl}:=fun b o q hb=>x4 b o (hx.keeps b o q) (by
  obtain⟨_,o',ho',hd⟩:=st.mem hb
  rw [q]at ho';cases ho';exact hd)
 have kT:∀b u,H b=some u->b∉frs X.stack:=fun b u q hb=>by
  have:=I.stkFree b hb
  rw [q]at this;cases this
 have up:∀{b:Addr},b∈X.fs->b∈frs X.stack:=fun hb=>by rw [hs];exact sP hb
 refine⟨I.os,I.bare,⟨fun b o q n hb _=> ?_,fun b o q n hb _=> ?_,fun b o q n _=>I.base.free b o q n (nex b),fun b o q _=> ?_,I.base.tups,I.base.frzs,I.base.tbls⟩,I.hok.tracked fun b u o q z=>x1.1 b o (kB b o z (kT b u q)),_,_,x1,fun b o q n hb=> ?_,fun b o q hb=> ?_,fun b u q=> ?_⟩
 ·exact x1.1 b o (kB b o (I.base.keep b o q n hb (nex b)) (I.notOwn q hb))
 ·obtain⟨sl,e1⟩:=I.base.slot b o q n hb (nex b)
  obtain⟨sl',e2⟩:=kS b _ e1 (up hb)
  exact⟨sl',e2⟩
 ·obtain⟨o',e1⟩:=I.base.there b o q (nex b)
  by_cases hm:b∈frs X.stack
  ·obtain⟨sl,e2⟩:=kS b o' e1 hm;exact⟨_,e2⟩
  ·exact⟨o',x1.1 b o' (kB b o' e1 hm)⟩
 ·exact kB b o (I.base.keep b o q n hb (nex b)) (I.notOwn q hb)
 ·obtain⟨o',e1⟩:=I.base.there b o q (nex b)
  exact⟨o',kB b o' e1 (I.notOwn q hb)⟩
 ·obtain⟨o,e1⟩:=(I.hok b u q).isThere
  exact⟨o,kB b o e1 (kT b u q)⟩
theorem Fly.over (I:Inv X pins σ H s)(hs:X.stack=X.env::X.outer)(hex:X.ex=[])(F:Fly X.prog X.w X.stack H s e cls H' s'){B:Heap}{a0:Value}(hfl:Heap.FlyingW B X.stack e cls a0 s'.heap)
  (g1:∀b o,s.heap.get? b=some o->H b=none->b∉frs X.stack->B.get? b=some o)(g2:∀b o,s.heap.get? b=some o->b∉frs X.stack->∃o',B.get? b=some o')(g3:∀b u,H' b=some u->∃o,B.get? b=some o)
  {h':Heap}(hfl':Heap.FlyingW B X.outer e cls a0 h')(hu:s'.heap.UpToSlots h'):Fly X.prog X.w X.outer X.H₀ X.s₀ e cls H' {s' with heap:=h'}:=by
 have nex:∀b,b∉X.ex:=fun b hb=>by rw [hex]at hb;cases hb
 have up:∀{b:Addr},b∈X.fs->b∈frs X.stack:=fun hb=>by rw [hs];exact sP hb
 have kS:∀b o,s'.heap.get? b=some o->b∈frs X.stack->∃sl,h'.get? b=some {o with slots:=sl}:=fun b o q hb=>hu b o q (by
  obtain⟨_,o',ho',hd⟩:=hfl.2.2.1.mem hb
  rw [q]at ho';cases ho';exact hd)
 refine⟨F.os.trans I.os,F.bare,⟨fun b o q n hb _=> ?_,fun b o q n hb _=> ?_,fun b o q n _=> ?_,fun b o q _=> ?_,fun b xs q=>F.un.tups b xs (I.base.tups b xs q),fun b o u q=>F.un.frzs b o u (I.base.frzs b o u q),fun b ps q=> ?_⟩,?_,B,a0,hfl',fun b o q n hb=> ?_,fun b o q hb=> ?_,g3⟩
 ·exact hfl'.1 b o (g1 b o (I.base.keep b o q n hb (nex b)) (I.base.free b o q n (nex b)) (I.notOwn q hb))
 ·obtain⟨sl,e1⟩:=I.base.slot b o q n hb (nex b)
  obtain⟨sl',e2⟩:=F.un.slot b _ e1 (I.base.free b o q n (nex b)) (up hb) (by simp)
  obtain⟨sl'',e3⟩:=kS b _ e2 (up hb)
  exact⟨sl'',e3⟩
 ·obtain⟨o',e1⟩:=I.base.there b o q (nex b)
  exact F.un.free b o' e1 (I.base.free b o q n (nex b)) (by simp)
 ·obtain⟨o',e1⟩:=I.base.there b o q (nex b)
  by_cases hm:b∈frs X.stack
  ·obtain⟨o2,e2⟩:=F.un.there b o' e1 (by simp)
   obtain⟨sl,e3⟩:=kS b o2 e2 hm;exact⟨_,e3⟩
  ·obtain⟨o2,e2⟩:=g2 b o' e1 hm
   exact⟨o2,hfl'.1 b o2 e2⟩
 ·obtain⟨m1,e1⟩:=I.base.tbls b ps q
  obtain⟨m2,e2⟩:=F.un.tbls b _ e1
  exact⟨m1++m2,by rw [e2,Array.append_assoc]⟩
 ·refine F.hok.tracked fun b u o q z=> ?_
  obtain⟨o',e1⟩:=g3 b u q
  have:=hfl.1 b o' e1
  rw [z]at this;cases this
  exact hfl'.1 b _ e1
 ·exact g1 b o (I.base.keep b o q n hb (nex b)) (I.base.free b o q n (nex b)) (I.notOwn q hb)
 ·obtain⟨o',e1⟩:=I.base.there b o q (nex b)
  exact g2 b o' e1 (I.notOwn q hb)
theorem A75 (I:Inv X pins σ H s)(hs:X.stack=X.env::X.outer)(hf:X.env.frame=some X.env.locals)(hex:X.ex=[])(F:Fly X.prog X.w X.stack H s e cls H' s')
  (k:∀h',Fly X.prog X.w X.outer X.H₀ X.s₀ e cls H' {s' with heap:=h'}->Q () {s' with heap:=h'}):wpAny (model X.prog X.w) X.A (leaving X.env (.ref e)) Q E' s':=by
 obtain⟨B,a0,hfl,g1,g2,g3⟩:=F.fly
 have hfr:=I.ok.frames
 have hfl1:=hfl
 rw [hs]at hfr hfl1
 exact wpAny_leaves_onW hfr hf hfl1 fun h' x1 x2=>k h' (Fly.over I hs hex F hfl g1 g2 g3 x1 x2)
end
abbrev bmV:List Value:=[.type "ValueError",.type "Exception",.type "BaseException",.type "object"]
structure ExcC (K:W.Frag)(C:Addr):Prop where
 ex:W.excIn K C bmV "ValueError.__new__" =true
theorem ExcC.obj {K:W.Frag}{C:Addr}{h:Heap}(c:ExcC K C)(X:K.In h):∃bm N nm q bs hdct sn sub ab col dd k0 k1 k2 k3 k5 mN,
  h.get? C=some (excClassObj nm q C N bs bm hdct sn sub ab col dd k0 k1 k2 k3 k5 "ValueError.__new__")/\h.Ns N mN/\mN "__init__" =none/\OwnTail h bmV bm:=by
 have z:=c.ex
 unfold W.excIn at z
 split at z
 ·rename_i dct cdat slt look
  split at z
  ·rename_i C2 tl a0 a1 a2 a3 nid a5 m1 m2
   simp only [Bool.and_eq_true,beq_iff_eq,Bool.not_eq_true']at z
   obtain⟨⟨⟨⟨⟨rfl,rfl⟩,noDel⟩,tail⟩,isN⟩,noInit⟩:=z
   obtain⟨y1,y2,y3,y4,y5,y6,y7,y8,y9,y10,y11⟩:=cdat
   dsimp only at m1 noDel isN noInit
   subst m1 noDel
   obtain⟨ls⟩:=slt
   replace m2:ls=_:=m2
   subst m2
   refine⟨tl,y4,y1,y5,y2,y6,y7,y8,y9,y10,dct,a0,a1,a2,a3,a5,_,X _ _ look,?_,W.nsMap_none_of_in X isN noInit,W.tail_of_in X tail⟩
   exact .of_isNs (W.isNs_of_in X isN)
  ·cases z
 ·cases z
section
variable {X:Cx}{x:Str}{z:Str}{j:Nat}{np p1 cpos pos:Pos}{C:Addr}{E:XK}
end
def Cx.within (X:Cx)(e:Addr)(oe:Obj):Cx:={X with A:=X.A.mark (some (.ref e)),calm:=false,pn:=(e,oe)::X.pn,xe:=fun _ _=>False}
section
variable {X:Cx}{pins:List (Addr×Obj)}{σ:St}{H H':Hp}{s s':Shared}{cls a0:Value}{e:Addr}{oe:Obj}{B h5:Heap}
theorem Inv.landed (I:Inv X pins σ H s)(F:Fly X.prog X.w X.stack H s e cls H' s')(hfl:Heap.FlyingW B X.stack e cls a0 s'.heap)
  (g1:∀b o,s.heap.get? b=some o->H b=none->b∉frs X.stack->B.get? b=some o)(g2:∀b o,s.heap.get? b=some o->b∉frs X.stack->∃o',B.get? b=some o')(g3:∀b u,H' b=some u->∃o,B.get? b=some o)
  (hB:B.StaysIn h5)(hu:s'.heap.UpToSlots h5):Inv X pins σ H' {s' with heap:=h5}:=by
 have kS:∀b o,s'.heap.get? b=some o->b∈frs X.stack->∃sl,h5.get? b=some {o with slots:=sl}:=fun b o q hb=>hu b o q (by
  obtain⟨_,o',ho',hd⟩:=hfl.2.2.1.mem hb
  rw [q]at ho';cases ho';exact hd)
 refine I.call' (s':={s' with heap:=h5}) (ch:=[]) F.os ⟨fun b o q n hb _=>hB b o (g1 b o q n hb),fun b o q n hb _=> ?_,fun b o q n _=>F.un.free b o q n (by simp),fun b o q _=> ?_,F.un.tups,F.un.frzs,F.un.tbls⟩ (F.hok.tracked fun b u o q z=> ?_) F.bare fun b z=>nomatch z
 ·obtain⟨sl,e2⟩:=F.un.slot b o q n hb (by simp)
  obtain⟨sl',e3⟩:=kS b _ e2 hb
  exact⟨sl',e3⟩
 ·by_cases hm:b∈frs X.stack
  ·obtain⟨o2,e2⟩:=F.un.there b o q (by simp)
   obtain⟨sl,e3⟩:=kS b o2 e2 hm;exact⟨_,e3⟩
  ·obtain⟨o2,e2⟩:=g2 b o q hm
   exact⟨o2,hB b o2 e2⟩
 ·obtain⟨o',e1⟩:=g3 b u q
  have:=hfl.1 b o' e1
  rw [z]at this;cases this
  exact hB b _ e1
theorem Inv.within (I:Inv X pins σ H s)(he:s.heap.get? e=some oe)(hn:H e=none)(hL:e≠X.env.locals)(hf:e∉X.fs)(hd:∀v,oe.data≠ .cell v):Inv (X.within e oe) pins σ H s:=
 ⟨⟨I.ok.mod,I.ok.kind,I.ok.glob,I.ok.blt,I.ok.above,I.ok.inj,I.ok.has,I.ok.cab,fun z=>(Bool.false_ne_true z).elim,I.ok.frames,I.ok.stk,I.ok.exf,I.ok.bs,I.ok.bsz,I.ok.noex,I.ok.exfs,I.ok.funs,I.ok.frf⟩,I.os,I.bare,I.base,I.loc,I.cell,I.free,I.freeC,
  fun p hp=>by
   rcases List.mem_append.mp hp with z|z
   ·rcases List.mem_cons.mp z with y|y
    ·subst y;exact⟨he,hn,hL,hf,hd⟩
    ·exact I.pin p (List.mem_append_left _ y)
   ·exact I.pin p (List.mem_append_right _ z),I.hok,I.len⟩
theorem Inv.suiteOver (hc:X.A.handled=none)(I:Inv (X.within e oe) [] σ H s)(hpn:X.pn=[]){h':Heap}{m:Str->Option Value}{t:Nat}(hN:h'.Ns X.env.locals m)(hs:Heap.SameBut X.env.locals s.heap h'):Inv X [] (List.replicate X.N.length none) H {s with heap:=h',toks:=t}:=by
 have below:∀b o,X.s₀.heap.get? b=some o->b≠X.env.locals:=fun b o q=>Nat.ne_of_lt (Nat.lt_of_lt_of_le (Heap.lt_size q) I.ok.above)
 refine⟨⟨I.ok.mod,I.ok.kind,I.ok.glob,I.ok.blt,I.ok.above,I.ok.inj,I.ok.has,I.ok.cab,fun _=>hc,I.ok.frames,I.ok.stk,I.ok.exf,I.ok.bs,I.ok.bsz,I.ok.noex,I.ok.exfs,I.ok.funs,I.ok.frf⟩,I.os,I.bare,
  ⟨fun b o q n hb hx=>(hs.2 b (below b o q)).trans (I.base.keep b o q n hb hx),fun b o q n hb hx=>let ⟨sl,e1⟩:=I.base.slot b o q n hb hx;⟨sl,(hs.2 b (below b o q)).trans e1⟩,I.base.free,fun b o q hx=>let ⟨o',e1⟩:=I.base.there b o q hx;⟨o',(hs.2 b (below b o q)).trans e1⟩,I.base.tups,I.base.frzs,I.base.tbls⟩,
  ⟨m,hN,fun i x v _ e2 _=> ?_⟩,fun y c q=> ?_,I.free,I.freeC,fun p hp=> ?_,I.hok.tracked fun b u o q z=> ?_,by simp⟩
 ·rw [List.getElem?_replicate]at e2
  split at e2<;>cases e2
 ·obtain⟨w',z⟩:=I.cell y c q
  exact⟨w',z.sameBut hs (I.cne y c q)⟩
 ·rw [hpn]at hp;cases hp
 ·refine(hs.2 b fun y=> ?_).trans z
  have:=I.free
  rw [show(X.within e oe).env.locals=X.env.locals from rfl,←y,q]at this;cases this
end
section
variable {X:Cx}{E:XK}{R:VK}{y n:Str}{i:Nat}{Cy:Addr}{b₀:Stmt}{suite:List Stmt}{np hp:Pos}{tS:Addr->Obj->TS}
end
section
variable {P:Program}{w:World}{K:W.Frag}{mg:Str->Option Value}{base:Heap}
end
def ObK (K:W.Frag)(D:Addr):Prop:=∃d kd sl,K.lookup D=some ⟨.type "type",d,.cls kd,sl⟩
theorem lN {K:W.Frag}{D:Addr}{bm:List Value}{n:String}(h:W.excIn K D bm n=true):ObK K D:=by
 unfold W.excIn at h
 split at h
 ·rename_i e;exact⟨_,_,_,e⟩
 ·cases h
structure jE (K:W.Frag)(D:Addr):Prop where
 ob:ObK K D
 cl:W.findIn K (.ref D) "__class__" =some (some (.builtin "object.__class__"))
 ga:W.findIn K (.ref D) "__getattribute__" =some (some (.builtin "BaseException.__getattribute__"))
 gt:W.findIn K (.ref D) "__getattr__" =some none
 mo:W.mroIn K D (.type "object")=some true
 mb:W.mroIn K D (.type "BaseException")=some true
 gg:W.specialIn K (.builtin "object.__class__") "__get__" =some (some (.builtin "getset_descriptor.__get__"))
 tk:W.takesIn K (.builtin "object.__class__")=some true
end L2
namespace L2
open PySem PySem.W PySem.Calls PyProof.Rows Builtin Builtin.ObjectAttr Builtin.Getset_descriptor
section
variable {prog:Program}{w:World}{A:Around}{E:Value->Shared->Prop}{K:W.Frag}{x D:Addr}
theorem A44 {M:Model}{h:Heap}(X:K.In h)(c:jE K D):W.Looks M h (find (.ref x) (.ref D) "__class__") (.bind (.builtin "getset_descriptor.__get__") (.builtin "object.__class__")):=by
 refine(W.looks_findIn X c.cl).andThen ?_
 refine W.Looks.andThen (a:=some (Value.builtin "getset_descriptor.__get__")) (W.looks_specialIn X c.gg) ?_
 refine W.Looks.andThen (a:=some (Value.builtin "getset_descriptor.__get__",Value.builtin "object.__class__")) ?_ (W.Looks.tag .now)
 exact(W.looks_takesIn X c.tk).andThen .now
theorem A5k {R:Result->Shared->Prop}{s:Shared}{tp:Value}(X:K.In s.heap)(L0:W.Looks (model prog w) s.heap (typeOf (.ref x)) (.ref D))(c:jE K D)(h:R (.ok (.ret (.ref D))) s):
  codeAny (model prog w) A (.call (.builtin "getset_descriptor.__get__") ⟨[.builtin "object.__class__",.ref x,tp],[]⟩) R s:=by
 obtain⟨hh,g,dr,t,os⟩:=s
 have LM:=W.looks_mroIn (M:=model prog w) X c.mo
 refine codeAny_call_builtin KF.slot_gs.plain KF.entry_gs (KF.slot_gs.check _ _ _ _ _ _ _ _ KF.type_class (KF.args_gs _ _ _) ?_);unfold Builtin.«getset_descriptor.__get__» descrGet;rw [dga_obj]
 refine wpAny_bind (wpAny_pure ?_);unfold descrGetter descrCheckInstance descrNameAndClass isInstance;simp only [KF.owner_class];repeat lk
 refine⟨Code.quiet_builtin _ (by decide +kernel),codeAny_builtin KF.entry_class ?_⟩;unfold Builtin.«object.__class__» shownTypeOf;repeat lk
 exact h
theorem B0y {s:Shared}{Q:Option Value->Shared->Prop}(X:K.In s.heap){o:Obj}(hx:s.heap.get? x=some o)(hc:o.cls= .ref D)(c:jE K D)(h:Q (some (.ref D)) {s with toks:=s.toks+1}):
  wpAny (model prog w) A (getAttr? (.ref x) "__class__") Q E s:=by
 obtain⟨hh,g,d,t,os⟩:=s
 have hx:hh.get? x=some o:=hx
 have L0:Looks (model prog w) hh (typeOf (.ref x)) (.ref D):=hc▸(Looks.ld hx).andThen .now
 have L1:=looks_findIn (M:=model prog w) X c.ga
 have L2':=looks_findIn (M:=model prog w) X c.gt
 have LB:=looks_mroIn (M:=model prog w) X c.mb
 have LF:=A44 (x:=x) (M:=model prog w) X c
 unfold getAttr? getAttrBy? getAttrBy
 refine wpAny_bind (wpAny_mkText (wpAny_bind (wpAny_attempt (wpAny_holding (wpAny_bind (L0.at (wpAny_bind (L1.at ?_))))))))
 have hne:(onTheHeap (Value.ref D)&&Value.builtin "BaseException.__getattribute__" ==Value.builtin "object.__getattribute__")=false:=by
  rw [show(Value.builtin "BaseException.__getattribute__" ==Value.builtin "object.__getattribute__")=false by decide +kernel];rfl
 dsimp only
 rw [if_neg (by rw [hne];decide)]
 unfold getAttrByItsOwn hookBefore
 rw [if_pos (show onTheHeap (Value.ref D)=true from rfl)]
 refine wpAny_bind (L2'.at (wpAny_bind (wpAny_attempt (wpAny_holding ?_))))
 unfold callGetattribute boundAndCalled
 rw [if_neg (by decide)]
 refine wpAny_bind (wpAny_of_eq (PySem.F.attr_ValueError.ga.bind (.ref x)) ?_)
 refine wpAny_call (codeAny_call_builtin PySem.F.attr_ValueError.ga.plain PySem.F.entry_bexc_ga ?_)
 have hk:builtinKind "BaseException.__getattribute__" =some .slot:=by decide +kernel
 have hsp:splitId "BaseException.__getattribute__" =some ("BaseException","__getattribute__"):=by decide +kernel
 have ha:=PySem.F.args_bexc_ga (.ref x) (.str "__class__" t)
 simp only [checkBuiltinCall,hk,hsp]
 have LI:Looks (model prog w) hh (isInstance (.ref x) (.type "BaseException")) true:=L0.andThen LB
 refine wpAny_bind (LI.at ?_)
 repeat (first|assumption|wp_step)
 rw [hc]
 have LC:=looks_findIn (M:=model prog w) X c.cl
 have LG:Looks (model prog w) hh (getOf (some (Value.builtin "object.__class__"))) (some (Value.builtin "getset_descriptor.__get__")):=looks_specialIn X c.gg
 have LD:Looks (model prog w) hh (dataDescriptor? (some (Value.builtin "object.__class__")) (some (Value.builtin "getset_descriptor.__get__"))) (some (Value.builtin "getset_descriptor.__get__",Value.builtin "object.__class__")):=(looks_takesIn X c.tk).andThen .now
 refine LC.at (wpAny_bind (LG.at (wpAny_bind (LD.at (wpAny_bind (wpAny_rule (wpAny_pure ?_)))))))
 dsimp only
 unfold bindTo
 dsimp only
 refine wpAny_bind (wpAny_holding (wpAny_call (A5k (s:=⟨hh,g,d,t+1,os⟩) X L0 c (wpAny_pure ?_))))
 exact handed_on rfl (wpAny_pure h)
end
theorem xZ {K:W.Frag}{x D:Addr}(c:jE K D):W.KitX K (.ref x) (.ref D) (fun h=> ∃o,h.get? x=some o/\o.cls= .ref D)where
 ty:=fun M h _ z=>let ⟨o,h1,h2⟩:=z;h2▸(W.Looks.ld h1).andThen .now
 it:=fun M h X _=>by
  obtain⟨oD,kD,lD,look⟩:=c.ob
  have hC:=X _ _ look
  intro A' Q' E' s' k z
  unfold isType loadHead
  exact wpAny_bind (wpAny_loadPart (k _ _ hC) (wpAny_pure z))
 ne:=fun h tp dd its n sl X htp=>Bool.eq_false_iff.mpr fun q=>by
  obtain⟨oD,kD,lD,look⟩:=c.ob
  have hC:=X _ _ look
  have e:D=tp:=Value.ref.inj (beq_iff_eq.mp q)
  subst e
  have z:Value.type "type" =Value.type "tuple":=congrArg Obj.cls (Option.some.inj (hC.symm.trans htp))
  injection z with z
  exact absurd z (by decide)
 ca:=fun X z k=>let ⟨o,h1,h2⟩:=z;B0y X h1 h2 c k
end L2
namespace L2
open PySem PySem.Spec PyProof.Rows
theorem dZ {X:Cx}{e D:Addr}{oe:Obj}(c:jE X.K D):dX (X.within e oe) (.builtin "isinstance") (fun xs H Q=>oe.cls= .ref D/\((∃C b,xs=[.ref e,.ref C]/\W.kitOne X.K (.ref D) (.ref C)=some b/\Q (.bl b) H)\/ ∃T b,xs=[.ref e,.ty T]/\W.kitOne X.K (.ref D) (.type T)=some b/\Q (.bl b) H)):=by
 intro pins s σ H xs us Q I r h
 obtain⟨hc,h⟩:=h
 have hp:s.heap.get? e=some oe:=(I.pin (e,oe) (List.mem_append_left _ List.mem_cons_self)).1
 rcases h with⟨C,b,rfl,k,q⟩| ⟨T,b,rfl,k,q⟩
 ·obtain⟨u,w',rfl,rx,ry⟩:=qZ r
  cases rx
  cases ry
  exact W.kia_one (xZ c) I.kIn ⟨oe,hp,hc⟩ k (fun z=>nomatch z) fun tk=> ⟨.bl b,H,I.tok _,rfl,q⟩
 ·obtain⟨u,w',rfl,rx,ry⟩:=qZ r
  cases rx
  cases (show w'=Value.type T from ry)
  exact W.kia_one (xZ c) I.kIn ⟨oe,hp,hc⟩ k (fun z=>nomatch z) fun tk=> ⟨.bl b,H,I.tok _,rfl,q⟩
theorem PI.or {X:Cx}{tg iter:Expr}{w1 w2:TI}(h1:PI X tg iter w1)(h2:PI X tg iter w2):PI X tg iter (fun σ H R=>w1 σ H R\/w2 σ H R):=by
 intro pins s σ H R I h
 rcases h with h|h
 ·exact h1 pins s σ H R I h
 ·exact h2 pins s σ H R I h
abbrev C3:=Int×Int×Int
def ClP (H:Hp)(bs:List Addr)(cl:List C3):Prop:=Paired (fun b (c:C3)=>H b=some (.tup [.int c.1,.int c.2.1,.int c.2.2])) bs cl
theorem ClP.ext {H H':Hp}{bs:List Addr}{cl:List C3}(h:ClP H bs cl)(e:Ext H H'):ClP H' bs cl:=Paired.mapP h fun _ _ z=>e.tup _ _ z
theorem ClP.get {H:Hp}:∀{bs:List Addr}{cl:List C3}{i:Nat}{b:Addr},ClP H bs cl->bs[i]?=some b->∃c,cl[i]?=some c/\H b=some (.tup [.int c.1,.int c.2.1,.int c.2.2])
 |_,_,0,_,.cons r _,h=>by cases h;exact⟨_,rfl,r⟩
 |_,_,i+1,_,.cons _ t,h=>ClP.get (i:=i) t (by simpa using h)
def ClT (H:Hp)(a:Addr)(cl:List C3):Prop:=∃bs,H a=some (.tup (bs.map V.ref))/\ClP H bs cl
theorem ClT.ext {H H':Hp}{a:Addr}{cl:List C3}(h:ClT H a cl)(e:Ext H H'):ClT H' a cl:=let ⟨bs,h1,h2⟩:=h;⟨bs,e.tup _ _ h1,h2.ext e⟩
structure fY (cs:List Int):Prop where
 l1:1<=cs.length
 l6:cs.length<=6
 num:∀x∈cs,1<=x/\x<=100
def lt2 (a b:Int×Int):Bool:=HT.lexLt [a.1,a.2] [b.1,b.2]
def bK (c:C3):Int×Int:=(c.1,c.2.1)
structure gQ (cl:List C3):Prop where
 l1:1<=cl.length
 l12:cl.length<=12
 num:∀c∈cl,(0<=c.1/\c.1<=3)/\(0<=c.2.1/\c.2.1<=5)/\1<=c.2.2/\c.2.2<=20
 up:(cl.map bK).Pairwise fun a b=>lt2 a b=true
def mL (cs:List Int)(cl:List C3):Prop:=∀c∈cl,c.2.1<cs.length
def hZ (H:Hp)(a:Addr)(cs:List Int):Prop:=H a=some (.tup (cs.map V.int))
def Wk (J:It)(xs:List V)(S:Hp->Prop):Prop:=∀{g:TG}{tb:TS}{D:cQ}{σ:St}{H:Hp}(Pv:Nat->St->Hp->Prop),Pv 0 σ H->(∀i σ H,i<=xs.length->Pv i σ H->S H)->
 (∀i x σ H,xs[i]?=some x->Pv i σ H->g x σ H fun σ2 H2=>tb {D with nx:=Pv (i+1),ct:=Pv (i+1),bk:=D.nx} σ2 H2)->(∀σ H,Pv xs.length σ H->D.nx σ H)->eN J g tb D σ H
theorem gZ {K:W.Frag}{a:Addr}{xs:List V}:Wk (Itt K a) xs fun H=>SqT K H a xs:=fun Pv h0 hl hs hd=>pO Pv h0 hl hs hd
theorem oE {K:W.Frag}{a:Addr}{xs:List V}:Wk (Itl K a) xs fun H=>SqL K H a xs:=fun Pv h0 hl hs hd=>qV Pv h0 hl hs hd
theorem qC {K:PySem.W.Frag}{J:It}{S:Hp->Prop}{l:Addr}{bs:List Addr}{cl:List C3}{te:TE}{H0:Hp}{rest:St}{Q:St->Hp->Prop}(W:Wk J (bs.map V.ref) S)(hS:∀H',Same H0 H'->S H')(hC:ClP H0 bs cl)(hl:H0 l=none)(hz:bs.length<=1000)(f:C3->V)
  (turn:∀c H' Q',c∈cl->Same H0 H'->(∀H2,Same H' H2->Q' (f c) H2)->te (some (.int c.1)::some (.int c.2.1)::some (.int c.2.2)::rest) H' Q')(hQ:∀σ H',Same H0 H'->H' l=some (.lst (cl.map f))->Q σ H'):
  eN J (rV K 3 (iJ (dJ 0) (iJ (dJ 1) (iJ (dJ 2) pA)))) (eG jI (eL l te)) (eC Q) (none::none::none::rest) (upd H0 l (.lst [])):=by
 have hlen:bs.length=cl.length:=Paired.length hC
 refine W (fun i σ H'=>(∃x y z,σ=x::y::z::rest)/\Same H0 H'/\H' l=some (.lst ((cl.take i).map f))) ⟨⟨_,_,_,rfl⟩,aJ hl,by rw [aI];rfl⟩ (fun i σ H' _ h=>hS _ h.2.1) ?_ ?_
 ·rintro i x σ H' hx ⟨⟨x0,y0,z0,rfl⟩,hs,hl'⟩
  rw [List.getElem?_map]at hx
  cases hb:bs[i]? with
  |none=>rw [hb]at hx;cases hx
  |some b=>
   rw [hb]at hx;cases hx
   obtain⟨c,hc,he⟩:=hC.get hb
   refine⟨b,_,rfl,SqT.of (hs _ _ he),rfl,_,_,rfl,_,_,rfl,_,_,rfl,rfl,?_⟩
   refine nI ?_
   refine turn c H' _ (List.mem_of_getElem? hc) hs fun H2 h2=> ?_
   refine⟨_,h2 _ _ hl',eW (by rw [List.length_map,List.length_take];omega),⟨_,_,_,rfl⟩,fun b u e=> ?_,?_⟩
   ·rw [aS (cB e hl)];exact h2 _ _ (hs _ _ e)
   ·rw [aI,List.take_succ,hc,List.map_append];rfl
 ·rintro σ H' ⟨_,hs,hl'⟩
  rw [List.length_map,hlen,List.take_of_length_le (Nat.le_refl _)]at hl'
  exact hQ σ H' hs hl'
theorem A8e {K:PySem.W.Frag}{J:It}{S:Hp->Prop}{l:Addr}{bs:List Addr}{cl:List C3}{H0:Hp}{Q:St->Hp->Prop}(W:Wk J (bs.map V.ref) S)(hS:∀H',Same H0 H'->S H')(hC:ClP H0 bs cl)(hl:H0 l=none)(hz:bs.length<=1000)
  (hQ:∀σ H' ps,Same H0 H'->H' l=some (.lst (ps.map V.ref))->PlAt H' ps (cl.map bK)->Q σ H'):
  eN J (rV K 3 (iJ (dJ 0) (iJ (dJ 1) (iJ (dJ 2) pA)))) (eG jI (eL l (sQ (cF (fD 0) (cF (fD 1) lP))))) (eC Q) [none,none,none] (upd H0 l (.lst [])):=by
 have hlen:bs.length=cl.length:=Paired.length hC
 refine W (fun i σ H'=>σ.length=3/\Same H0 H'/\∃ps:List Addr,H' l=some (.lst (ps.map V.ref))/\PlAt H' ps ((cl.take i).map bK)) ⟨rfl,aJ hl,[],by rw [aI];rfl,.nil⟩ (fun i σ H' _ h=>hS _ h.2.1) ?_ ?_
 ·rintro i x σ H' hx ⟨hσ,hs,ps,hl',hP⟩
  match σ,hσ with
  | [x0,y0,z0],_=>
  rw [List.getElem?_map]at hx
  cases hb:bs[i]? with
  |none=>rw [hb]at hx;cases hx
  |some b=>
   rw [hb]at hx;cases hx
   obtain⟨c,hc,he⟩:=hC.get hb
   have hpl:ps.length<=i:=by have:=Paired.length hP;rw [List.length_map,List.length_take]at this;omega
   have hil:i<bs.length:=(List.getElem?_eq_some_iff.mp hb).1
   refine⟨b,_,rfl,SqT.of (hs _ _ he),rfl,_,_,rfl,_,_,rfl,_,_,rfl,rfl,?_⟩
   refine nI ?_
   refine⟨_,rfl,_,rfl,by show 2<=sizeLine;decide,fun q hq=> ?_⟩
   have s2:=aJ (o:=.tup [.int c.1,.int c.2.1]) hq
   have hlq:q≠l:=fun z=>by rw [z,hl']at hq;cases hq
   refine⟨_,s2 _ _ hl',eW (by rw [List.length_map];omega),rfl,fun b u e=> ?_,ps++[q],?_,?_⟩
   ·rw [aS (cB e hl)];exact s2 _ _ (hs _ _ e)
   ·rw [aI,List.map_append];rfl
   ·rw [List.take_succ,hc,List.map_append]
    refine PlAt.snoc (Paired.mapP hP fun p c' e=> ?_) (by rw [aS hlq,aI];rfl)
    have e':=s2 _ _ e
    rw [aS (fun z=>by rw [z,s2 _ _ hl']at e';cases e')];exact e'
 ·rintro σ H' ⟨_,hs,ps,hl',hP⟩
  rw [List.length_map,hlen,List.take_of_length_le (Nat.le_refl _)]at hP
  exact hQ σ H' ps hs hl' hP
end L2
namespace M04
open PySem L2 PyProof.Rows
def top (i:Nat):Stmt:=PySem.Challenge.pw_meadshares_k04_claims_refused.main.body.getD i (.Pass ⟨0,0,0,0⟩)
abbrev nZ:Stmt:=top 19
abbrev rF:Stmt:=top 20
abbrev pQ:Stmt:=top 21
abbrev nE:Stmt:=top 22
abbrev nD:Stmt:=top 29
abbrev qP:Stmt:=top 30
abbrev kZ:Stmt:=top 31
abbrev qN:Stmt:=top 32
abbrev qT:Stmt:=top 33
abbrev rQ:Stmt:=top 34
abbrev mF:Stmt:=top 35
abbrev qF:Stmt:=top 36
abbrev mU:Stmt:=top 37
abbrev qX:Stmt:=top 38
abbrev pB:Stmt:=top 39
abbrev nK:Stmt:=top 40
abbrev nM:Stmt:=top 41
abbrev mK:Stmt:=top 42
abbrev pV:Stmt:=top 43
abbrev pP:Stmt:=top 44
abbrev nG:Stmt:=top 45
abbrev nV:Stmt:=top 46
abbrev oT:Stmt:=top 47
abbrev jZ:Stmt:=top 48
abbrev pC:Stmt:=top 50
abbrev qG:Stmt:=top 51
abbrev pK:Stmt:=top 52
abbrev mJ:Stmt:=top 53
abbrev oB:Stmt:=top 54
abbrev kQ:Stmt:=top 55
abbrev fT:Stmt:=top 56
abbrev rJ:Stmt:=top 57
abbrev oS:Stmt:=top 58
abbrev rD:Stmt:=top 59
abbrev mO:Stmt:=top 60
abbrev kM:Stmt:=top 61
abbrev kP:Stmt:=top 62
abbrev pW:Stmt:=top 63
abbrev iQ:Stmt:=top 64
abbrev mP:Stmt:=top 65
abbrev mX:Stmt:=top 66
abbrev oX:Stmt:=top 67
abbrev jW:Stmt:=top 68
abbrev cR:Stmt:=top 69
structure Txt (mg:Str->Option Value):Prop where
 isinstance:mg "isinstance" =none
 int:mg "int" =none
 bool:mg "bool" =none
 tuple:mg "tuple" =none
 len:mg "len" =none
 all:mg "all" =none
 zip:mg "zip" =none
 range:mg "range" =none
 list:mg "list" =none
 set:mg "set" =none
 sorted:mg "sorted" =none
 repr:mg "repr" =none
 any:mg "any" =none
 sum:mg "sum" =none
 enumerate:mg "enumerate" =none
 verr:mg "ValueError" =none
 sorts:∃t,mg "MOST_SORTS" =some (.int 6 t)
 counted:∃t,mg "MOST_COUNTED" =some (.int 100 t)
 holders:∃t,mg "MOST_HOLDERS" =some (.int 4 t)
 rights:∃t,mg "MOST_RIGHTS" =some (.int 20 t)
 claims:∃t,mg "MOST_CLAIMS" =some (.int 12 t)
structure At (P:Program)(w:World)(K:W.Frag)(mg:Str->Option Value)(base:Heap)(k:Nat)(x:Str)(f:Addr)(fd:FuncData)(ps:List Str)(sp:Sp):Prop where
 nm:mg x=some (.ref f)
 kp:W.keepIn K (.ref f)=true
 bd:L2.Binds K fd ps []
 ok:aR P w K mg base CX0 k f fd ps sp
def oU:Sp:=fun vs H Q _=> ∃v,vs=[v]/\Kn H 1 v/\Q (.bl (isInt v)) H
def pD:Sp:=fun vs H Q _=> ∃v lo hi,vs=[v,.int lo,.int hi]/\Kn H 1 v/\Q (.bl (bG lo hi v)) H
def eP (H:Hp)(lo hi:Int)(v:V):Bool:=match tupOf H v with|some xs=>decide (lo<=xs.length)&&decide ((xs.length:Int)<=hi)|none=>false
def mW:Sp:=fun vs H Q _=> ∃v lo hi,vs=[v,.int lo,.int hi]/\Kn H 1 v/\Q (.bl (eP H lo hi v)) H
section
variable {P:Program}{w:World}{K:W.Frag}{mg:Str->Option Value}{base:Heap}
theorem B1z:bH ["thing"] ["thing"] (aQ nZ):=by ac_rfl
theorem xS {f:Addr}{fd:FuncData}(F:Fun K "is_number" "is_number" nZ f fd)(T:Txt mg):aR P w K mg base CX0 1 f fd ["thing"] oU:=by
 refine F.ok B1z (fun vs H Q E h=> ?_) (fun cdv A outer s H vs Q E hr h=> ?_)
 ·obtain⟨v,rfl,_⟩:=h;rfl
 ·obtain⟨v,rfl,k,q⟩:=h
  refine⟨_,aV (aZ (kA (bB jF rfl T.isinstance boot_isinstance (bD (pv 0) (bD (iP (v:=.ty "int") rfl T.int boot_int rfl) aF)))
   (lF (A2h (bB jF rfl T.isinstance boot_isinstance (bD (pv 0) (bD (iP (v:=.ty "bool") rfl T.bool boot_bool rfl) aF))))))),?_⟩
  obtain⟨t,ty,k1,k2,_⟩:=lB (K:=K) k
  refine⟨_,rfl,_,"int",t,_,rfl,ty,k1,_,rfl,dQ (fun e=> ?_) fun e=> ?_⟩
  ·refine⟨_,rfl,_,"bool",t,_,rfl,ty,k2,_,rfl,?_⟩
   have:(!vK v)=isInt v:=by cases v<;>first|rfl|cases e
   rw [this];exact q
  ·have:isInt v=false:=(Bool.or_eq_false_iff.mp e).1
   rw [this]at q;exact q
theorem A88:bH ["thing","least","most"] ["thing","least","most"] (aQ rF):=by ac_rfl
theorem A9d {f g:Addr}{fd gd:FuncData}(F:Fun K "is_number_within" "is_number_within" rF f fd)(T:Txt mg)(G:Fun K "is_number" "is_number" nZ g gd)(b:Binds K gd ["thing"] [])(m:mg "is_number" =some (.ref g)):aR P w K mg base CX0 2 f fd ["thing","least","most"] pD:=by
 have GN:aR P w K mg base CX0 1 g gd ["thing"] oU:=xS G T
 refine F.ok A88 (fun vs H Q E h=> ?_) (fun cdv A outer s H vs Q E hr h=> ?_)
 ·obtain⟨v,lo,hi,rfl,_⟩:=h;rfl
 ·obtain⟨v,lo,hi,rfl,k,q⟩:=h
  refine⟨_,aV (aZ (kA (aX GN hr rfl m G.kp b .nil bA (bD (pv 0) aF)) (lF (sE iG iG (pv 1) (pv 0) (pv 2))))),?_⟩
  refine⟨_,rfl,v,rfl,k,_,rfl,dQ (fun e=> ?_) fun e=> ?_⟩
  ·cases v with
   |int i=>
    refine⟨_,rfl,_,rfl,_,_,rfl,rfl,_,rfl,cW (fun h1=> ?_) fun h1=> ?_⟩
    ·refine⟨_,rfl,_,_,rfl,rfl,?_⟩
     have:bG lo hi (.int i)=decide (i<=hi):=by simp [bG,h1]
     rw [this]at q;exact q
    ·have:bG lo hi (.int i)=false:=by simp [bG,h1]
     rw [this]at q;exact q
   |_=>cases e
  ·have:bG lo hi v=false:=by cases v<;>first|rfl|cases e
   rw [this]at q;exact q
theorem A76:bH ["thing","least","most"] ["thing","least","most"] (aQ pQ):=by ac_rfl
theorem A4r {f:Addr}{fd:FuncData}(F:Fun K "is_tuple_within" "is_tuple_within" pQ f fd)(T:Txt mg):aR P w K mg base CX0 1 f fd ["thing","least","most"] mW:=by
 refine F.ok A76 (fun vs H Q E h=> ?_) (fun cdv A outer s H vs Q E hr h=> ?_)
 ·obtain⟨v,lo,hi,rfl,_⟩:=h;rfl
 ·obtain⟨v,lo,hi,rfl,k,q⟩:=h
  refine⟨_,aV (aZ (kA (bB jF rfl T.isinstance boot_isinstance (bD (pv 0) (bD (iP (v:=.ty "tuple") rfl T.tuple boot_tuple rfl) aF)))
   (lF (sE iG iG (pv 1) (bB eR rfl T.len PySem.boot_len (bD (pv 0) aF)) (pv 2))))),?_⟩
  obtain⟨t,ty,_,_,k3⟩:=lB (K:=K) k
  refine⟨_,rfl,_,"tuple",t,_,rfl,ty,k3,_,rfl,dQ (fun e=> ?_) fun e=> ?_⟩
  ·obtain⟨xs,ex⟩:=Option.isSome_iff_exists.mp e
   obtain⟨a,rfl,ha⟩:=eX ex
   refine⟨_,rfl,_,rfl,a,xs,rfl,.inr (SqT.of ha),_,_,rfl,rfl,_,rfl,cW (fun h1=> ?_) fun h1=> ?_⟩
   ·refine⟨_,rfl,_,_,rfl,rfl,?_⟩
    have:eP H lo hi (.ref a)=decide ((xs.length:Int)<=hi):=by simp [eP,ex,h1]
    rw [this]at q;exact q
   ·have:eP H lo hi (.ref a)=false:=by simp [eP,ex,h1]
    rw [this]at q;exact q
  ·have:eP H lo hi v=false:=by
    unfold eP
    cases z:tupOf H v with
    |none=>rfl
    |some xs=>rw [z]at e;cases e
   rw [this]at q;exact q
end
end M04
namespace Stb
open PySem PySem.SetTable
theorem len_le_of_sub {α:Type} [DecidableEq α]:∀(l1 l2:List α),l1.Nodup->(∀x∈l1,x∈l2)->l1.length<=l2.length
 | [],_,_,_=>Nat.zero_le _
 |x::xs,l2,hn,hs=>by
  have hx:x∈l2:=hs x List.mem_cons_self
  have h:=len_le_of_sub xs (l2.erase x) (List.nodup_cons.mp hn).2 (fun y hy=>(List.mem_erase_of_ne (fun(e:y=x)=>(List.nodup_cons.mp hn).1 (e▸hy))).mpr (hs y (List.mem_cons_of_mem _ hy)))
  rw [List.length_erase_of_mem hx]at h
  have:0<l2.length:=List.length_pos_of_mem hx
  simp only [List.length_cons];omega
theorem hole (pl:List Nat)(M:Nat)(h:pl.length<M):∃p,p<M/\p∉pl:=by
 refine Classical.byContradiction fun hc=> ?_
 have:(List.range M).length<=pl.length:=len_le_of_sub _ _ List.nodup_range (fun x hx=>Classical.byContradiction fun hn=>hc ⟨x,List.mem_range.mp hx,hn⟩)
 rw [List.length_range]at this;omega
theorem least {P:Nat->Prop}:∀n,P n->∃m,m<=n/\P m/\∀k<m,¬P k:=fun n=>Nat.strongRecOn n fun n ih h=>by
 by_cases hc:∃k,k<n/\P k
 ·obtain⟨k,hk,pk⟩:=hc
  obtain⟨m,h1,h2,h3⟩:=ih k hk pk
  exact⟨m,by omega,h2,h3⟩
 ·exact⟨n,Nat.le_refl _,h,fun k hk pk=>hc ⟨k,hk,pk⟩⟩
def rk (j:Nat):List Nat->Nat
 | []=>0
 |x::xs=>if x<j then rk j xs+1 else 0
theorem A1b (j:Nat):∀(l:List Nat)(i:Nat),i<rk j l->l.getD i j<j
 | [],i,h=>by simp [rk]at h
 |x::xs,i,h=>by
  unfold rk at h
  by_cases hx:x<j
  ·rw [if_pos hx]at h
   cases i with
   |zero=>simpa using hx
   |succ i=>simpa using A1b j xs i (by omega)
  ·rw [if_neg hx]at h;omega
theorem wY (j:Nat):∀(l:List Nat),l.Pairwise (· < ·)->∀i,rk j l<=i->¬l.getD i j<j
 | [],_,i,_=>by simp
 |x::xs,hp,i,h=>by
  rw [List.pairwise_cons]at hp
  unfold rk at h
  by_cases hx:x<j
  ·rw [if_pos hx]at h
   cases i with
   |zero=>omega
   |succ i=>simpa using wY j xs hp.2 i (by omega)
  ·cases i with
   |zero=>simpa using hx
   |succ i=>
    intro hlt
    have hlt':xs.getD i j<j:=by simpa using hlt
    by_cases hi:i<xs.length
    ·have e:xs.getD i j=xs[i]:=by simp [hi]
     have:=hp.1 xs[i] (List.getElem_mem hi)
     omega
    ·have e:xs.getD i j=j:=by simp [List.getD,List.getElem?_eq_none (Nat.le_of_not_lt hi)]
     omega
theorem pY (j:Nat):∀(l:List Nat),rk j l<=l.length
 | []=>Nat.le_refl _
 |x::xs=>by
  unfold rk
  have:=pY j xs
  split<;>simp<;>omega
theorem lE {j:Nat}:∀{l:List Nat}{i:Nat},l.Pairwise (· < ·)->l[i]?=some j->rk j l=i
 | [],i,_,h=>by simp at h
 |x::xs,0,_,h=>by
  have:x=j:=by simpa using h
  unfold rk;rw [if_neg (by omega)]
 |x::xs,i+1,hp,h=>by
  rw [List.pairwise_cons]at hp
  have h':xs[i]?=some j:=by simpa using h
  have:=hp.1 j (List.mem_of_getElem? h')
  unfold rk;rw [if_pos this,lE hp.2 h']
theorem uV (xs:Array Nat)(j k:Nat)(h1:∀i,i<k->xs.getD i j<j)(h2:∀i,k<=i->¬xs.getD i j<j):∀(fuel lo hi:Nat),hi - lo<=fuel->lo<=k->k<=hi->below.go xs j fuel lo hi=k
 |0,lo,hi,hf,hl,hh=>by unfold below.go;omega
 |fuel+1,lo,hi,hf,hl,hh=>by
  unfold below.go
  by_cases hlt:lo<hi
  ·rw [if_pos hlt]
   dsimp only
   by_cases hm:xs.getD ((lo+hi)/2) j<j
   ·rw [if_pos hm]
    have:(lo+hi)/2<k:=Nat.lt_of_not_le fun h=>h2 _ h hm
    exact uV xs j k h1 h2 fuel _ _ (by omega) (by omega) hh
   ·rw [if_neg hm]
    have:k<=(lo+hi)/2:=Nat.le_of_not_lt fun h=>hm (h1 _ h)
    exact uV xs j k h1 h2 fuel _ _ (by omega) hl this
  ·rw [if_neg hlt];omega
theorem sY {l:List Nat}(h:l.Pairwise (· < ·))(j:Nat):below l.toArray j=rk j l:=by
 unfold below
 refine uV _ _ _ (fun i hi=> ?_) (fun i hi=> ?_) _ _ _ (by simp) (Nat.zero_le _) (by simpa using pY j l)
 ·simpa using A1b j l i hi
 ·simpa using wY j l h i hi
def ins {α:Type}(l:List α)(k:Nat)(x:α):List α:=l.take k++x::l.drop k
theorem A2c {α:Type}(l:List α)(k:Nat)(x:α):SetTable.insertAt l.toArray k x=(ins l k x).toArray:=by
 unfold SetTable.insertAt ins
 apply Array.ext'
 simp
 rw [List.take_of_length_le (by rw [List.length_drop];exact Nat.le_refl _)]
theorem mem_ins {α:Type}{l:List α}{k:Nat}{x y:α}:y∈ins l k x↔y=x\/y∈l:=by
 unfold ins
 rw [List.mem_append,List.mem_cons]
 have:y∈l↔y∈l.take k\/y∈l.drop k:=by
  rw [←List.mem_append,List.take_append_drop]
 rw [this]
 constructor
 ·rintro(h|h|h)
  ·exact .inr (.inl h)
  ·exact .inl h
  ·exact .inr (.inr h)
 ·rintro(h|h|h)
  ·exact .inr (.inl h)
  ·exact .inl h
  ·exact .inr (.inr h)
theorem oM {α:Type}{l:List α}{k:Nat}{x:α}(h:k<=l.length):(ins l k x).length=l.length+1:=by
 unfold ins
 rw [List.length_append,List.length_cons,List.length_take,List.length_drop];omega
theorem wN {α:Type}(l:List α)(k:Nat)(x:α):(ins l k x).Perm (x::l):=by
 unfold ins
 refine List.perm_middle.trans ?_
 rw [List.take_append_drop]
theorem yA {j:Nat}:∀{l:List Nat},l.Pairwise (· < ·)->j∉l->(ins l (rk j l) j).Pairwise (· < ·)
 | [],_,_=>by simp [ins]
 |x::xs,hp,hn=>by
  rw [List.pairwise_cons]at hp
  rw [List.mem_cons,not_or]at hn
  by_cases hx:x<j
  ·have e:ins (x::xs) (rk j (x::xs)) j=x::ins xs (rk j xs) j:=by
    have e':rk j (x::xs)=rk j xs+1:=by rw [rk,if_pos hx]
    unfold ins;rw [e'];rfl
   rw [e,List.pairwise_cons]
   refine⟨fun y hy=> ?_,yA hp.2 hn.2⟩
   rcases mem_ins.mp hy with rfl|h
   ·exact hx
   ·exact hp.1 y h
  ·have e:ins (x::xs) (rk j (x::xs)) j=j::x::xs:=by
    have e':rk j (x::xs)=0:=by rw [rk,if_neg hx]
    unfold ins;rw [e'];rfl
   have hx':j<x:=by omega
   rw [e,List.pairwise_cons,List.pairwise_cons]
   refine⟨fun y hy=> ?_,hp⟩
   rcases List.mem_cons.mp hy with rfl|h
   ·exact hx'
   ·exact Nat.lt_trans hx' (hp.1 y h)
theorem A87 {α β:Type}(l:List α)(k:List β)(r:Nat)(x:α)(y:β)(hl:l.length=k.length):(ins l r x).zip (ins k r y)=ins (l.zip k) r (x,y):=by
 unfold ins
 rw [List.zip_append (by rw [List.length_take,List.length_take,hl]),List.zip_cons_cons]
 unfold List.zip
 rw [List.take_zipWith,List.drop_zipWith]
def tb (mask moves:Nat)(led:Bool)(pl:List Nat):SetTable:={mask:=mask,place:=pl.toArray,dummies:=#[],finger:=0,led:=led,moves:=moves,plain:=true}
theorem uO {mask moves:Nat}{led:Bool}{pl:List Nat}{i j:Nat}(hu:pl.Pairwise (· < ·))(h:pl[i]?=some j):(tb mask moves led pl).slot j= .live i:=by
 have e:below pl.toArray j=i:=by rw [sY hu,lE hu h]
 unfold SetTable.slot
 show(let i':=below pl.toArray j;if pl.toArray[i']?==some j then Slot.live i' else _)=_
 rw [e]
 simp [h]
theorem A3t {mask moves:Nat}{led:Bool}{pl:List Nat}{j:Nat}(h:j∉pl):(tb mask moves led pl).slot j= .empty:=by
 unfold SetTable.slot
 show(let i':=below pl.toArray j;if pl.toArray[i']?==some j then Slot.live i' else if has #[] j then .dummy else .empty)=_
 have h1:(pl.toArray[below pl.toArray j]?==some j)=false:=by
  rw [beq_eq_false_iff_ne]
  intro e
  exact h (List.mem_of_getElem? (by simpa using e))
 have h2:has #[] j=false:=by simp [has]
 simp only [h1,h2];rfl
def adv (mask:Nat)(p:Probe):Probe:=(tb mask 0 false []).advance p
def nth (mask:Nat)(h:Int):Nat->Probe
 |0=>(tb mask 0 false []).probeStart h
 |n+1=>adv mask (nth mask h n)
def lp (mask:Nat)(h:Int):Nat->Nat×Nat
 |0=>(bits h%(mask+1),bits h)
 |k+1=>leap mask (lp mask h k).1 (lp mask h k).2
def hdp (mask:Nat)(q:Nat×Nat):Probe:={j:=q.1,more:=runEnd mask q.1 - q.1,i:=q.1,perturb:=q.2,dummy:=none}
def idx (mask:Nat)(h:Int):Nat->Nat
 |0=>0
 |k+1=>idx mask h k+(runEnd mask (lp mask h k).1 -(lp mask h k).1)+1
theorem tO {mask:Nat}{h:Int}{n:Nat}{p:Probe}(hn:nth mask h n=p):∀d,d<=p.more->nth mask h (n+d)={p with j:=p.j+d,more:=p.more - d}
 |0,_=>by rw [Nat.add_zero,hn];rfl
 |d+1,hd=>by
  show adv mask (nth mask h (n+d))=_
  rw [tO hn d (by omega)]
  unfold adv SetTable.advance
  dsimp only
  rw [if_pos (by omega)]
  simp only [Probe.mk.injEq,and_true,true_and]
  omega
theorem rG {mask:Nat}{h:Int}:∀k,nth mask h (idx mask h k)=hdp mask (lp mask h k)
 |0=>rfl
 |k+1=>by
  have ih:=rG (mask:=mask) (h:=h) k
  show adv mask (nth mask h (idx mask h k+(runEnd mask (lp mask h k).1 -(lp mask h k).1)))=_
  have e:=tO ih (runEnd mask (lp mask h k).1 -(lp mask h k).1) (Nat.le_refl _)
  rw [e]
  unfold adv SetTable.advance hdp
  dsimp only
  rw [if_neg (by omega)]
  rfl
theorem tG (mask:Nat)(h:Int):∀k,(lp mask h k).1<=mask
 |0=>Nat.le_of_lt_succ (Nat.mod_lt _ (Nat.succ_pos _))
 |k+1=>Nat.le_of_lt_succ (Nat.mod_lt _ (Nat.succ_pos _))
theorem xC (mask:Nat)(h:Int):∀k,(lp mask h k).2=bits h/32^k
 |0=>by simp [lp]
 |k+1=>by
  show(lp mask h k).2/32=_
  rw [xC mask h k,Nat.div_div_eq_div_mul,Nat.pow_succ]
theorem A5v (h:Int):bits h<2^64:=by
 unfold bits
 have h1:=Int.emod_lt_of_pos h (show(0:Int)<2^64 by decide)
 have h2:=Int.emod_nonneg h (show((2:Int)^64)≠0 by decide)
 omega
def it (mask:Nat)(i:Nat):Nat->Nat
 |0=>i
 |m+1=>(it mask i m*5+1)%(mask+1)
theorem wA (mask:Nat)(h:Int):∀m,(lp mask h (13+m)).1=it mask (lp mask h 13).1 m
 |0=>rfl
 |m+1=>by
  show((lp mask h (13+m)).1*5+1+(lp mask h (13+m)).2/32)%(mask+1)=_
  have e:(lp mask h (13+m)).2/32=0:=by
   rw [xC,Nat.div_div_eq_div_mul,←Nat.pow_succ]
   refine Nat.div_eq_of_lt (Nat.lt_of_lt_of_le (A5v h) ?_)
   exact Nat.le_trans (by decide:2^64<=32^13) (Nat.pow_le_pow_right (by decide) (by omega))
  rw [e,wA mask h m];rfl
def Mk (mask:Nat):Prop:=mask=7\/mask=31
theorem A6s:∀i,i<8->∀p,p<8->∃m,m<8/\it 7 i m=p:=by decide +kernel
theorem B1p:∀i,i<32->∀p,p<32->∃m,m<32/\it 31 i m=p:=by decide +kernel
theorem cover {mask:Nat}(hm:Mk mask)(h:Int)(p:Nat)(hp:p<=mask):∃k,k<=13+mask/\(lp mask h k).1=p:=by
 have hl:=tG mask h 13
 rcases hm with rfl|rfl
 ·obtain⟨m,h1,h2⟩:=A6s (lp 7 h 13).1 (by omega) p (by omega)
  exact⟨13+m,by omega,by rw [wA];exact h2⟩
 ·obtain⟨m,h1,h2⟩:=B1p (lp 31 h 13).1 (by omega) p (by omega)
  exact⟨13+m,by omega,by rw [wA];exact h2⟩
theorem A70 (mask i:Nat):runEnd mask i - i<=9:=by unfold runEnd;split<;>omega
theorem yQ {mask i:Nat}(h:i<=mask):runEnd mask i<=mask:=by unfold runEnd;split<;>omega
theorem rL (mask i:Nat):i<=runEnd mask i:=by unfold runEnd;split<;>omega
theorem xT (mask:Nat)(h:Int):∀k,idx mask h k<=10*k
 |0=>Nat.le_refl _
 |k+1=>by
  have:=xT mask h k
  have:=A70 mask (lp mask h k).1
  unfold idx;omega
theorem vW (mask:Nat)(h:Int):∀n,(nth mask h n).j+(nth mask h n).more=runEnd mask (nth mask h n).i/\(nth mask h n).i<=mask/\(nth mask h n).dummy=none
 |0=>by
  have h1:bits h%(mask+1)<=mask:=Nat.le_of_lt_succ (Nat.mod_lt _ (Nat.succ_pos _))
  refine⟨?_,h1,rfl⟩
  show bits h%(mask+1)+(runEnd mask (bits h%(mask+1)) - bits h%(mask+1))=runEnd mask (bits h%(mask+1))
  have:=rL mask (bits h%(mask+1))
  omega
 |n+1=>by
  obtain⟨h1,h2,h3⟩:=vW mask h n
  show(adv mask (nth mask h n)).j+(adv mask (nth mask h n)).more=runEnd mask (adv mask (nth mask h n)).i/\(adv mask (nth mask h n)).i<=mask/\(adv mask (nth mask h n)).dummy=none
  unfold adv SetTable.advance
  by_cases hc:(nth mask h n).more>0
  ·rw [if_pos hc]
   exact⟨by show(nth mask h n).j+1+((nth mask h n).more - 1)=_;rw [←h1];omega,h2,h3⟩
  ·rw [if_neg hc]
   have h4:(leap mask (nth mask h n).i (nth mask h n).perturb).1<=mask:=Nat.le_of_lt_succ (Nat.mod_lt _ (Nat.succ_pos _))
   refine⟨?_,h4,h3⟩
   have:=rL mask (leap mask (nth mask h n).i (nth mask h n).perturb).1
   show(leap mask (nth mask h n).i (nth mask h n).perturb).1+(runEnd mask (leap mask (nth mask h n).i (nth mask h n).perturb).1 -(leap mask (nth mask h n).i (nth mask h n).perturb).1)=runEnd mask (leap mask (nth mask h n).i (nth mask h n).perturb).1
   omega
theorem A1k (mask:Nat)(h:Int)(n:Nat):(nth mask h n).j<=mask:=by
 obtain⟨h1,h2,_⟩:=vW mask h n
 have:=yQ h2
 omega
theorem yB {mask:Nat}(hm:Mk mask)(h:Int)(F:Nat->Prop)(hF:∃p,p<=mask/\¬F p):∃n0 k,n0<=idx mask h k/\k<=13+mask/\n0<10*turns mask/\¬F (nth mask h n0).j/\∀m,m<n0->F (nth mask h m).j:=by
 obtain⟨p,hp,hf⟩:=hF
 obtain⟨k,hk,e⟩:=cover hm h p hp
 have e2:(nth mask h (idx mask h k)).j=p:=by rw [rG];exact e
 obtain⟨n0,h1,h2,h3⟩:=least (P:=fun n=> ¬F (nth mask h n).j) (idx mask h k) (by rw [e2];exact hf)
 have:=xT mask h k
 exact⟨n0,k,h1,hk,by unfold turns;omega,h2,fun m hm=>Classical.byContradiction fun hc=>h3 m hm hc⟩
theorem go_run {mask moves:Nat}{led:Bool}{pl:List Nat}(hu:pl.Pairwise (· < ·))(hs:Nat->Int)(h:Int)(n0:Nat)(hE:(nth mask h n0).j∉pl)(hL:∀m,m<n0->(nth mask h m).j∈pl):∀(d n fuel:Nat),n+d=n0->d<fuel->
  (probe.go (tb mask moves led pl) hs h fuel (nth mask h n)=some (.empty (nth mask h n0).j none)/\∀m,n<=m->m<n0->∀i,pl[i]?=some (nth mask h m).j->hs i≠h)\/
  ∃m i,n<=m/\m<n0/\pl[i]?=some (nth mask h m).j/\hs i=h/\probe.go (tb mask moves led pl) hs h fuel (nth mask h n)=some (.candidate (nth mask h m).j i (nth mask h (m+1)))/\∀m',n<=m'->m'<m->∀i,pl[i]?=some (nth mask h m').j->hs i≠h
 |0,n,0,_,hf=>absurd hf (by omega)
 |0,n,fuel+1,hn,hf=>by
  have hn':n=n0:=by omega
  subst hn'
  refine .inl ⟨?_,fun m h1 h2=>absurd h1 (by omega)⟩
  unfold probe.go
  rw [A3t hE]
  dsimp only
  rw [(vW mask h n).2.2]
 |d+1,n,0,_,hf=>absurd hf (by omega)
 |d+1,n,fuel+1,hn,hf=>by
  obtain⟨i,hi⟩:=List.mem_iff_getElem?.mp (hL n (by omega))
  have hun:∀i',pl[i']?=some (nth mask h n).j->i'=i:=fun i' hi'=>by rw [←lE hu hi',lE hu hi]
  by_cases hh:hs i=h
  ·refine .inr ⟨n,i,Nat.le_refl _,by omega,hi,hh,?_,fun m' h1 h2=>absurd h1 (by omega)⟩
   unfold probe.go
   rw [uO hu hi]
   dsimp only
   rw [if_pos (by simpa using hh)]
   rfl
  ·have e:probe.go (tb mask moves led pl) hs h (fuel+1) (nth mask h n)=probe.go (tb mask moves led pl) hs h fuel (nth mask h (n+1)):=by
    rw [probe.go,uO hu hi]
    dsimp only
    rw [if_neg (by simpa using hh)]
    rfl
   rw [e]
   have hne:∀i',pl[i']?=some (nth mask h n).j->hs i'≠h:=fun i' hi'=>by rw [hun i' hi'];exact hh
   rcases go_run hu hs h n0 hE hL d (n+1) fuel (by omega) (by omega)with⟨h1,h2⟩| ⟨m,i',h1,h2,h3,h4,h5,h6⟩
   ·refine .inl ⟨h1,fun m a b=> ?_⟩
    by_cases e:m=n
    ·subst e;exact hne
    ·exact h2 m (by omega) b
   ·refine .inr ⟨m,i',by omega,h2,h3,h4,h5,fun m' a b=> ?_⟩
    by_cases e:m'=n
    ·subst e;exact hne
    ·exact h6 m' (by omega) b
def Rch (mask:Nat)(F:Nat->Prop)(x:Nat×Int):Prop:=∃n,(nth mask x.2 n).j=x.1/\∀m,m<n->F (nth mask x.2 m).j
structure Ok (mask:Nat)(pl:List Nat)(hs:List Int):Prop where
 mk':Mk mask
 len:pl.length=hs.length
 up:pl.Pairwise (· < ·)
 top:∀p∈pl,p<=mask
 few:hs.length*5<mask*3
 reach:∀x∈pl.zip hs,Rch mask (· ∈pl) x
theorem Ok.nil:Ok 7 [] []:=⟨.inl rfl,rfl,List.Pairwise.nil,fun p h=>absurd h (by simp),by decide,fun x h=>absurd h (by simp)⟩
theorem Ok.free {mask:Nat}{pl:List Nat}{hs:List Int}(o:Ok mask pl hs)(h:Int):∃n0,n0<10*turns mask/\(nth mask h n0).j∉pl/\∀m,m<n0->(nth mask h m).j∈pl:=by
 have hl:pl.length<mask+1:=by have:=o.few;have:=o.len;omega
 obtain⟨p,h1,h2⟩:=hole pl (mask+1) hl
 obtain⟨n0,k,a,b,c,d,e⟩:=yB o.mk' h (· ∈pl) ⟨p,by omega,h2⟩
 exact⟨n0,c,d,e⟩
theorem Ok.met {mask:Nat}{pl:List Nat}{hs:List Int}(o:Ok mask pl hs){i n0:Nat}{h:Int}(hi:hs[i]?=some h)(h0:(nth mask h n0).j∉pl):∃m,m<n0/\pl[i]?=some (nth mask h m).j:=by
 have hlt:i<pl.length:=by rw [o.len];exact(List.getElem?_eq_some_iff.mp hi).1
 have hp:pl[i]?=some pl[i]:=List.getElem?_eq_getElem hlt
 have hz:(pl.zip hs)[i]?=some (pl[i],h):=by rw [List.getElem?_zip_eq_some];exact⟨hp,hi⟩
 obtain⟨n,h1,h2⟩:=o.reach _ (List.mem_of_getElem? hz)
 have h1':(nth mask h n).j=pl[i]:=h1
 refine⟨n,?_,by rw [h1'];exact hp⟩
 refine Nat.lt_of_not_le fun hle=> ?_
 by_cases e:n0=n
 ·subst e;exact h0 (by rw [h1'];exact List.getElem_mem hlt)
 ·exact h0 (h2 n0 (by omega))
theorem Ok.put {mask:Nat}{pl:List Nat}{hs:List Int}(o:Ok mask pl hs){h:Int}{n0:Nat}(hE:(nth mask h n0).j∉pl)(hL:∀m,m<n0->(nth mask h m).j∈pl)(few:(hs.length+1)*5<mask*3):
  Ok mask (ins pl (rk (nth mask h n0).j pl) (nth mask h n0).j) (ins hs (rk (nth mask h n0).j pl) h):=by
 have hr:rk (nth mask h n0).j pl<=pl.length:=pY _ _
 refine⟨o.mk',?_,yA o.up hE,fun p hp=> ?_,?_,fun x hx=> ?_⟩
 ·rw [oM hr,oM (by rw [←o.len];exact hr),o.len]
 ·rcases mem_ins.mp hp with rfl|h
  ·exact A1k _ _ _
  ·exact o.top p h
 ·rw [oM (by rw [←o.len];exact hr)];exact few
 ·rw [A87 _ _ _ _ _ o.len]at hx
  rcases mem_ins.mp hx with rfl|hx
  ·exact⟨n0,rfl,fun m hm=>mem_ins.mpr (.inr (hL m hm))⟩
  ·obtain⟨n,h1,h2⟩:=o.reach x hx
   exact⟨n,h1,fun m hm=>mem_ins.mpr (.inr (h2 m hm))⟩
def fE (ow:Array (Option Nat))(j:Nat):Prop:=∃k,ow[j]?=some (some k)
structure Own (mask:Nat)(ow:Array (Option Nat))(done:List Int):Prop where
 mk':Mk mask
 size:ow.size=mask+1
 bnd:∀(j k:Nat),ow[j]?=some (some k)->k<done.length
 has:∀k:Nat,k<done.length->∃j:Nat,ow[j]?=some (some k)
 uniq:∀(j j' k:Nat),ow[j]?=some (some k)->ow[j']?=some (some k)->j=j'
 reach:∀(j k:Nat)(h:Int),ow[j]?=some (some k)->done[k]?=some h->Rch mask (fE ow) (j,h)
theorem Own.hole {mask:Nat}{ow:Array (Option Nat)}{done:List Int}(o:Own mask ow done)(hl:done.length<=mask):∃p,p<=mask/\¬fE ow p:=by
 refine Classical.byContradiction fun hc=> ?_
 have hall:∀p,p<=mask->fE ow p:=fun p hp=>Classical.byContradiction fun hn=>hc ⟨p,hp,hn⟩
 have hf:∀p,p<=mask->ow[p]?=some (some ((ow.getD p none).getD 0)):=fun p hp=>by
  obtain⟨k,hk⟩:=hall p hp
  rw [Array.getD_eq_getD_getElem?,hk];rfl
 have h1:((List.range (mask+1)).map fun p=>(ow.getD p none).getD 0).Nodup:=by
  refine List.pairwise_map.mpr ((List.nodup_range (n:=mask+1)).imp_of_mem fun{a b} ha hb hne e=>hne ?_)
  have ha':=hf a (by have:=List.mem_range.mp ha;omega)
  have hb':=hf b (by have:=List.mem_range.mp hb;omega)
  rw [e]at ha'
  exact o.uniq a b _ ha' hb'
 have h2:((List.range (mask+1)).map fun p=>(ow.getD p none).getD 0).length<=(List.range done.length).length:=len_le_of_sub _ _ h1 fun x hx=>by
  obtain⟨p,hp,rfl⟩:=List.mem_map.mp hx
  exact List.mem_range.mpr (o.bnd p _ (hf p (by have:=List.mem_range.mp hp;omega)))
 rw [List.length_map,List.length_range,List.length_range]at h2
 omega
theorem getD_none {mask:Nat}{ow:Array (Option Nat)}(hs:ow.size=mask+1){j:Nat}(hj:j<=mask):(ow.getD j (some 0)).isNone=true↔ ¬fE ow j:=by
 have hlt:j<ow.size:=by omega
 have e:ow[j]?=some ow[j]:=Array.getElem?_eq_getElem hlt
 rw [Array.getD_eq_getD_getElem?,e]
 unfold fE
 rw [e]
 cases ow[j]<;>simp
theorem A7n {mask:Nat}{ow:Array (Option Nat)}{h:Int}{n0 K:Nat}(hs:ow.size=mask+1)(hE:¬fE ow (nth mask h n0).j)(hL:∀m,m<n0->fE ow (nth mask h m).j)(hK:n0<=idx mask h K):∀(d k fuel:Nat),k+d=K->d<fuel->idx mask h k<=n0->
  layClean.free mask ow fuel (lp mask h k).1 (lp mask h k).2=some (nth mask h n0).j:=by
 intro d
 induction d with
 |zero=>
  intro k fuel hk hf hi
  obtain⟨fuel,rfl⟩:∃f,fuel=f+1:=⟨fuel - 1,by omega⟩
  have hk':k=K:=by omega
  subst hk'
  have e0:n0=idx mask h k:=by omega
  have hj:(nth mask h n0).j=(lp mask h k).1:=by rw [e0,rG];rfl
  unfold layClean.free
  have:(List.range (runEnd mask (lp mask h k).1+1 -(lp mask h k).1)).find? (fun c=>(ow.getD ((lp mask h k).1+c) (some 0)).isNone)=some 0:=by
   rw [List.find?_range_eq_some]
   refine⟨?_,List.mem_range.mpr (by have:=rL mask (lp mask h k).1;omega),fun j hj=>absurd hj (by omega)⟩
   rw [Nat.add_zero,getD_none hs (tG _ _ _),←hj];exact hE
  rw [this]
  dsimp only
  rw [hj,Nat.add_zero]
 |succ d ih=>
  intro k fuel hk hf hi
  obtain⟨fuel,rfl⟩:∃f,fuel=f+1:=⟨fuel - 1,by omega⟩
  have hrun:∀e,e<=runEnd mask (lp mask h k).1 -(lp mask h k).1->(nth mask h (idx mask h k+e)).j=(lp mask h k).1+e:=fun e he=>by
   rw [tO (rG k) e he];rfl
  have hend:=yQ (tG mask h k)
  have hge:=rL mask (lp mask h k).1
  unfold layClean.free
  by_cases hc:n0<=idx mask h k+(runEnd mask (lp mask h k).1 -(lp mask h k).1)
  ·have:(List.range (runEnd mask (lp mask h k).1+1 -(lp mask h k).1)).find? (fun c=>(ow.getD ((lp mask h k).1+c) (some 0)).isNone)=some (n0 - idx mask h k):=by
    rw [List.find?_range_eq_some]
    refine⟨?_,List.mem_range.mpr (by omega),fun j hj=> ?_⟩
    ·rw [getD_none hs (by omega),←hrun _ (by omega),show idx mask h k+(n0 - idx mask h k)=n0 by omega];exact hE
    ·have hj':=hL (idx mask h k+j) (by omega)
     rw [hrun j (by omega)]at hj'
     rw [Bool.not_eq_true']
     cases z:(ow.getD ((lp mask h k).1+j) (some 0)).isNone with
     |false=>rfl
     |true=>exact absurd hj' ((getD_none hs (by omega)).mp z)
   rw [this]
   dsimp only
   rw [←hrun _ (by omega),show idx mask h k+(n0 - idx mask h k)=n0 by omega]
  ·have:(List.range (runEnd mask (lp mask h k).1+1 -(lp mask h k).1)).find? (fun c=>(ow.getD ((lp mask h k).1+c) (some 0)).isNone)=none:=by
    rw [List.find?_range_eq_none]
    intro j hj
    have hj':=hL (idx mask h k+j) (by omega)
    rw [hrun j (by omega)]at hj'
    rw [Bool.not_eq_true']
    cases z:(ow.getD ((lp mask h k).1+j) (some 0)).isNone with
    |false=>rfl
    |true=>exact absurd hj' ((getD_none hs (by omega)).mp z)
   rw [this]
   exact ih (k+1) fuel (by omega) (by omega) (by show idx mask h k+_+1<=n0;omega)
theorem Own.put {mask:Nat}{ow:Array (Option Nat)}{done:List Int}(o:Own mask ow done){h:Int}{n0:Nat}(hE:¬fE ow (nth mask h n0).j)(hL:∀m,m<n0->fE ow (nth mask h m).j):
  Own mask (ow.setIfInBounds (nth mask h n0).j (some done.length)) (done++[h]):=by
 have hlt:(nth mask h n0).j<ow.size:=by rw [o.size];have:=A1k mask h n0;omega
 have get:∀j:Nat,(ow.setIfInBounds (nth mask h n0).j (some done.length))[j]?=if (nth mask h n0).j=j then some (some done.length)else ow[j]?:=fun j=>by
  rw [Array.getElem?_setIfInBounds]
  by_cases e:(nth mask h n0).j=j
  ·rw [if_pos e,if_pos e,if_pos (by omega)]
  ·rw [if_neg e,if_neg e]
 have keep:∀j,fE ow j->fE (ow.setIfInBounds (nth mask h n0).j (some done.length)) j:=fun j ⟨k,hk⟩=>by
  refine⟨k,?_⟩
  rw [get,if_neg (fun e=>hE ⟨k,by rw [e];exact hk⟩)];exact hk
 refine⟨o.mk',by rw [Array.size_setIfInBounds,o.size],fun j k e=> ?_,fun k hk=> ?_,fun j j' k e e'=> ?_,fun j k h' e e'=> ?_⟩
 ·rw [get]at e
  rw [List.length_append]
  by_cases z:(nth mask h n0).j=j
  ·rw [if_pos z]at e;cases e;simp
  ·rw [if_neg z]at e;have:=o.bnd j k e;simp;omega
 ·rw [List.length_append]at hk
  by_cases z:k=done.length
  ·subst z;exact⟨_,by rw [get,if_pos rfl]⟩
  ·obtain⟨j,hj⟩:=o.has k (by simp at hk;omega)
   exact⟨j,by rw [get,if_neg (fun e=>hE ⟨k,by rw [e];exact hj⟩)];exact hj⟩
 ·rw [get]at e e'
  by_cases z:(nth mask h n0).j=j
  ·rw [if_pos z]at e;cases e
   by_cases z':(nth mask h n0).j=j'
   ·omega
   ·rw [if_neg z']at e';have:=o.bnd j' _ e';omega
  ·rw [if_neg z]at e
   by_cases z':(nth mask h n0).j=j'
   ·rw [if_pos z']at e';cases e';have:=o.bnd j _ e;omega
   ·rw [if_neg z']at e';exact o.uniq j j' k e e'
 ·rw [get]at e
  by_cases z:(nth mask h n0).j=j
  ·rw [if_pos z]at e;cases e
   have:h'=h:=by simpa using e'.symm
   subst this
   exact⟨n0,z,fun m hm=>keep _ (hL m hm)⟩
  ·rw [if_neg z]at e
   have hk:=o.bnd j k e
   rw [List.getElem?_append_left hk]at e'
   obtain⟨n,h1,h2⟩:=o.reach j k h' e e'
   exact⟨n,h1,fun m hm=>keep _ (h2 m hm)⟩
def uB (mask:Nat)(acc:Option (Array (Option Nat)×Nat))(h:Int):Option (Array (Option Nat)×Nat):=do
 let (owner,k)←acc
 let j←layClean.free mask owner (turns mask) (bits h%(mask+1)) (bits h)
 pure (owner.setIfInBounds j (some k),k+1)
theorem A0x {mask:Nat}:∀(hs done:List Int)(ow:Array (Option Nat)),Own mask ow done->done.length+hs.length<=mask+1->∃ow',hs.foldl (uB mask) (some (ow,done.length))=some (ow',done.length+hs.length)/\Own mask ow' (done++hs)
 | [],done,ow,o,_=> ⟨ow,rfl,by rw [List.append_nil];exact o⟩
 |h::hs,done,ow,o,hl=>by
  rw [List.length_cons]at hl
  obtain⟨n0,k,h1,h2,h3,h4,h5⟩:=yB o.mk' h (fE ow) (o.hole (by omega))
  have e:layClean.free mask ow (turns mask) (bits h%(mask+1)) (bits h)=some (nth mask h n0).j:=A7n (K:=k) o.size h4 h5 h1 k 0 (turns mask) (by omega) (by unfold turns;omega) (Nat.zero_le _)
  have e2:uB mask (some (ow,done.length)) h=some (ow.setIfInBounds (nth mask h n0).j (some done.length),done.length+1):=by
   show(layClean.free mask ow (turns mask) (bits h%(mask+1)) (bits h)).bind _=_
   rw [e];rfl
  rw [List.foldl_cons,e2]
  obtain⟨ow',g1,g2⟩:=A0x hs (done++[h]) _ (o.put h4 h5) (by rw [List.length_append];simp;omega)
  refine⟨ow',?_,by rw [List.append_assoc]at g2;exact g2⟩
  rw [List.length_append]at g1
  rw [show done.length+1=done.length+[h].length from rfl,g1]
  simp;omega
theorem Own.nil {mask:Nat}(hm:Mk mask):Own mask (Array.replicate (mask+1) none) []:=by
 have hno:∀(j k:Nat),(Array.replicate (mask+1) (none:Option Nat))[j]?≠some (some k):=fun j k e=>by
  rw [Array.getElem?_replicate]at e
  split at e<;>cases e
 exact⟨hm,by simp,fun j k e=>absurd e (hno j k),fun k hk=>by simp at hk,fun j _ k e=>absurd e (hno j k),fun j k _ e=>absurd e (hno j k)⟩
theorem B01 {mask:Nat}(hm:Mk mask)(hs:List Int)(hl:hs.length<=mask+1):∃ow,layClean mask hs.toArray=some ow/\Own mask ow hs:=by
 obtain⟨ow,h1,h2⟩:=A0x hs [] _ (Own.nil hm) (by simpa using hl)
 refine⟨ow,?_,by simpa using h2⟩
 unfold layClean
 rw [←Array.foldl_toList]
 show Option.map (·.1) (hs.foldl (uB mask) (some (Array.replicate (mask+1) none,0)))=_
 rw [show(some (Array.replicate (mask+1) (none:Option Nat),0))=some (Array.replicate (mask+1) none,([]:List Int).length)from rfl,h1]
 rfl
theorem A6a {mask:Nat}(hm:Mk mask)(moves:Nat)(led:Bool)(hs:List Int)(few:hs.length*5<mask*3):
  ∃(pl:List Nat)(order:List Nat),laid mask 0 moves led true hs.toArray=some (tb mask moves led pl,order.toArray)/\order.Perm (List.range hs.length)/\Ok mask pl (order.map fun k=>hs.getD k 0):=by
 obtain⟨ow,e,o⟩:=B01 hm hs (by omega)
 generalize hlive:((List.range (mask+1)).filterMap fun j=>(ow.getD j none).map fun k=>(j,k))=live
 have mem:∀(j k:Nat),(j,k)∈live↔ow[j]?=some (some k):=fun j k=>by
  rw [←hlive,List.mem_filterMap]
  constructor
  ·rintro⟨a,_,h⟩
   rw [Array.getD_eq_getD_getElem?]at h
   cases z:ow[a]? with
   |none=>rw [z]at h;cases h
   |some x=>
    rw [z]at h
    cases x with
    |none=>cases h
    |some b=>
     have h':some (a,b)=some (j,k):=h
     cases h'
     exact z
  ·intro h
   have hlt:j<ow.size:=(Array.getElem?_eq_some_iff.mp h).1
   refine⟨j,List.mem_range.mpr (by rw [←o.size];exact hlt),?_⟩
   rw [Array.getD_eq_getD_getElem?,h];rfl
 have up:(live.map (·.1)).Pairwise (· < ·):=by
  rw [List.pairwise_map,←hlive,List.pairwise_filterMap]
  refine List.pairwise_lt_range.imp fun{a b} hab x hx y hy=> ?_
  have ex:x.1=a:=by
   cases z:ow.getD a none with
   |none=>rw [z]at hx;cases hx
   |some c=>rw [z]at hx;cases hx;rfl
  have ey:y.1=b:=by
   cases z:ow.getD b none with
   |none=>rw [z]at hy;cases hy
   |some c=>rw [z]at hy;cases hy;rfl
  rw [ex,ey];exact hab
 have nd2:(live.map (·.2)).Nodup:=by
  have nd1:live.Pairwise fun a b=>a.1<b.1:=List.pairwise_map.mp up
  refine List.pairwise_map.mpr (nd1.imp_of_mem fun{a b} ha hb hlt he=> ?_)
  have h1:=(mem a.1 a.2).mp ha
  have h2:=(mem b.1 b.2).mp hb
  rw [he]at h1
  have:=o.uniq _ _ _ h1 h2
  omega
 have perm:(live.map (·.2)).Perm (List.range hs.length):=by
  rw [List.perm_ext_iff_of_nodup nd2 List.nodup_range]
  intro k
  rw [List.mem_map,List.mem_range]
  constructor
  ·rintro⟨x,hx,rfl⟩
   exact o.bnd _ _ ((mem x.1 x.2).mp hx)
  ·intro hk
   obtain⟨j,hj⟩:=o.has k hk
   exact⟨(j,k),(mem j k).mpr hj,rfl⟩
 have full:∀j,fE ow j->j∈live.map (·.1):=fun j ⟨k,hk⟩=>List.mem_map.mpr ⟨(j,k),(mem j k).mpr hk,rfl⟩
 have hlen:live.length=hs.length:=by have:=perm.length_eq;simpa using this
 refine⟨live.map (·.1),live.map (·.2),?_,perm,hm,by simp,up,fun p hp=> ?_,by simp only [List.length_map];omega,fun x hx=> ?_⟩
 ·unfold laid
  rw [e]
  show some (({mask:=mask,place:=(((List.range (mask+1)).filterMap fun j=>(ow.getD j none).map fun k=>(j,k)).map (·.1)).toArray,dummies:=#[],finger:=0,led:=led,moves:=moves,plain:=true}:SetTable),(((List.range (mask+1)).filterMap fun j=>(ow.getD j none).map fun k=>(j,k)).map (·.2)).toArray)=_
  rw [hlive];rfl
 ·obtain⟨x,hx,rfl⟩:=List.mem_map.mp hp
  have:=(Array.getElem?_eq_some_iff.mp ((mem x.1 x.2).mp hx)).1
  rw [o.size]at this;omega
 ·rw [List.map_map]at hx
  rw [List.zip_map']at hx
  obtain⟨y,hy,rfl⟩:=List.mem_map.mp hx
  have h1:=(mem y.1 y.2).mp hy
  have hk:=o.bnd _ _ h1
  obtain⟨n,a,b⟩:=o.reach y.1 y.2 hs[y.2] h1 (List.getElem?_eq_getElem hk)
  refine⟨n,?_,fun m hm=>full _ ?_⟩
  ·show(nth mask (hs.getD y.2 0) n).j=y.1
   rw [show hs.getD y.2 0=hs[y.2] by simp [hk]];exact a
  ·have:=b m hm
   show fE ow (nth mask (hs.getD y.2 0) m).j
   rw [show hs.getD y.2 0=hs[y.2] by simp [hk]];exact this
theorem B1x (moves:Nat)(led:Bool)(pl:List Nat)(hs:List Int)(h5:hs.length=5):
  ∃(pl' order:List Nat)(moves':Nat),(tb 7 moves led pl).relaid hs.toArray (SetTable.grown 5)=some (tb 31 moves' led pl',order.toArray)/\order.Perm (List.range hs.length)/\Ok 31 pl' (order.map fun k=>hs.getD k 0):=by
 obtain⟨pl',order,h1,h2,h3⟩:=A6a (mask:=31) (.inr rfl) ((tb 7 moves led pl).movedTo 31) led hs (by omega)
 exact⟨pl',order,_,h1,h2,h3⟩
end Stb
namespace Stb
open PySem PyProof.Rows
def hT (k:List Int):Int:=reduceHash (Builtin.Tuple.tupleHashOf (k.map hashInt))
def ent (x:List Int×Addr):Int×Value:=(hT x.1,.ref x.2)
def bM (xs:List (List Int×Addr))(ep mask moves:Nat)(led:Bool)(pl:List Nat):Obj:={cls:=.type "set",dict:=none,data:=.set (xs.map ent).toArray ep (tb mask moves led pl)}
def cM (xs:List (List Int×Addr)):List Int:=xs.map fun x=>hT x.1
def IsSt (h:Heap)(a:Addr)(xs:List (List Int×Addr))(led:Bool):Prop:=∃ep mask moves pl,h.get? a=some (bM xs ep mask moves led pl)/\Ok mask pl (cM xs)
theorem IsSt.at {h h':Heap}{a:Addr}{xs:List (List Int×Addr)}{led:Bool}(x:IsSt h a xs led)(e:∀o,h.get? a=some o->h'.get? a=some o):IsSt h' a xs led:=let ⟨ep,mask,moves,pl,ho,ok⟩:=x;⟨ep,mask,moves,pl,e _ ho,ok⟩
theorem lG {xs:List (List Int×Addr)}{mask moves:Nat}{led:Bool}{pl:List Nat}(ok:Ok mask pl (cM xs)):(tb mask moves led pl).fits (xs.map ent).toArray.size=true:=by
 have h1:=ok.len
 have h2:=ok.few
 unfold cM at h1 h2
 rw [List.length_map]at h1 h2
 simp only [SetTable.fits,SetTable.fill,tb,List.size_toArray,List.length_map,Bool.and_eq_true,beq_iff_eq,decide_eq_true_eq]
 exact⟨h1,by simp;omega⟩
section
variable {prog:Program}{w:World}{A:Around}{E:Value->Shared->Prop}{s:Shared}
abbrev KAt (prog:Program)(w:World)(h:Heap)(k:List Int)(a:Addr):Prop:=IsTupleKey (intKind prog w) h k a
theorem KAt.ints {h:Heap}{k:List Int}{vs:List Value}(x:ItemsAre (intKind prog w) k vs):∀v∈vs,∃i t,v= .int i t:=by
 induction x with
 |nil=>intro v hv;cases hv
 | @cons k v' ks vs h1 _ ih=>
  intro v hv
  rcases List.mem_cons.mp hv with rfl|hv
  ·obtain⟨t,e⟩:=Value.isInt_shape h1
   exact⟨_,t,e⟩
  ·exact ih v hv
theorem A0r {k:List Int}{a:Addr}{Q:Bool->Shared->Prop}(hk:KAt prog w s.heap k a)(h:Q false s):wpAny (model prog w) A (ofAClassStatement 8 (.ref a)) Q E s:=by
 have hT:=hk.typeIs
 obtain⟨o,items,n,ho,_,hd,hi⟩:=hk
 unfold ofAClassStatement
 refine wpAny_bind (wpAny_typeOf hT ?_)
 dsimp only
 simp only [beq_self_eq_true,↓reduceIte]
 refine wpAny_bind (wpAny_pure ?_)
 simp only [Bool.not_true,Bool.false_eq_true,↓reduceIte]
 refine wpAny_bind (wpAny_seqItems ho hd ?_)
 refine wpAny_bind ?_
 rw [←Array.forIn_toList]
 refine wpAny_forIn_list _ (fun rest r s'=>r.1=none/\s'=s/\∀v∈rest,∃i t,v=Value.int i t) _ ?_ ?_ _ _ ⟨rfl,rfl,KAt.ints (h:=s.heap) hi⟩
 ·rintro v rest r s' ⟨hr,rfl,hall⟩
  obtain⟨i,t,rfl⟩:=hall v List.mem_cons_self
  refine wpAny_bind ?_
  unfold ofAClassStatement
  refine wpAny_pure ?_
  simp only [Bool.false_eq_true,↓reduceIte]
  exact wpAny_pure ⟨rfl,rfl,fun u hu'=>hall u (List.mem_cons_of_mem _ hu')⟩
 ·rintro⟨r1,r2⟩ s' ⟨hr,rfl,_⟩
  simp only at hr
  subst hr
  exact wpAny_pure h
theorem A59 {k:List Int}{a:Addr}{ys:List Value}{Q:Bool->Shared->Prop}(hk:KAt prog w s.heap k a)(hy:∀v∈ys,∃k' b,v= .ref b/\KAt prog w s.heap k' b)(h:Q false s):wpAny (model prog w) A (searchCouldBeSeen (.ref a) ys) Q E s:=by
 unfold searchCouldBeSeen
 refine wpAny_bind ?_
 refine wpAny_forIn_list _ (fun rest r s'=>r.1=none/\s'=s/\∀v∈rest,∃k' b,v=Value.ref b/\KAt prog w s.heap k' b) _ ?_ ?_ _ _ ⟨rfl,rfl,hy⟩
 ·rintro v rest r s' ⟨hr,rfl,hall⟩
  obtain⟨k',b,rfl,hb⟩:=hall v List.mem_cons_self
  have tl:∀u∈rest,∃k' b,u=Value.ref b/\KAt prog w s'.heap k' b:=fun u hu'=>hall u (List.mem_cons_of_mem _ hu')
  dsimp only
  split
  ·exact wpAny_pure ⟨rfl,rfl,tl⟩
  ·refine wpAny_bind (wpAny_eqIsQuiet_tuple hk ?_)
   simp only [Bool.not_true,Bool.false_eq_true,↓reduceIte]
   refine wpAny_bind (wpAny_eqIsQuiet_tuple hb ?_)
   simp only [Bool.not_true,Bool.false_eq_true,↓reduceIte]
   refine wpAny_bind (A0r hk ?_)
   simp only [Bool.false_eq_true,↓reduceIte]
   refine wpAny_bind (A0r hb ?_)
   simp only [Bool.false_eq_true,↓reduceIte]
   exact wpAny_pure ⟨rfl,rfl,tl⟩
 ·rintro⟨r1,r2⟩ s' ⟨hr,rfl,_⟩
  simp only at hr
  subst hr
  exact wpAny_pure h
theorem A6b {k:List Int}{a:Addr}{Q:Bool->Shared->Prop}(hk:KAt prog w s.heap k a)(h:Q true s):wpAny (model prog w) A (hashByValue 8 (.ref a)) Q E s:=by
 have hT:=hk.typeIs
 obtain⟨o,items,n,ho,_,hd,hi⟩:=hk
 unfold hashByValue
 refine wpAny_bind (wpAny_specialOf hT F.slot_tuple_hash.lookup ?_)
 show wpAny _ _ (seqItems? (.ref a)>>=_) _ _ s
 refine wpAny_bind (wpAny_seqItems ho hd ?_)
 refine wpAny_bind ?_
 show wpAny _ _ (forIn items _ _) _ _ s
 rw [←Array.forIn_toList]
 refine wpAny_forIn_list _ (fun rest r s'=>r.1=none/\s'=s/\∀v∈rest,∃i t,v=Value.int i t) _ ?_ ?_ _ _ ⟨rfl,rfl,KAt.ints (h:=s.heap) hi⟩
 ·rintro v rest r s' ⟨hr,rfl,hall⟩
  obtain⟨i,t,rfl⟩:=hall v List.mem_cons_self
  refine wpAny_bind ?_
  unfold hashByValue
  refine wpAny_pure ?_
  simp only [Bool.not_true,Bool.false_eq_true,↓reduceIte]
  exact wpAny_pure ⟨rfl,rfl,fun u hu'=>hall u (List.mem_cons_of_mem _ hu')⟩
 ·rintro⟨r1,r2⟩ s' ⟨hr,rfl,_⟩
  simp only at hr
  subst hr
  exact wpAny_pure h
theorem A2m {α:Type}{c:Bool}{m:Sem Bool}{U R:Sem α}{Q:α->Shared->Prop}(hm:∀Q':Bool->Shared->Prop,Q' false s->wpAny (model prog w) A m Q' E s)(h:wpAny (model prog w) A R Q E s):wpAny (model prog w) A (if c=true then(m>>=fun b=>if b=true then U else R)else R) Q E s:=by
 cases c with
 |false=>rw [if_neg Bool.false_ne_true];exact h
 |true=>
  rw [if_pos rfl]
  refine wpAny_bind (hm _ ?_)
  rw [if_neg Bool.false_ne_true];exact h
theorem A51 {a:Addr}{xs:List (List Int×Addr)}{ep mask moves:Nat}{led:Bool}{pl:List Nat}{k:List Int}{b:Addr}{n0:Nat}{Q:SetFound->Shared->Prop}(hu:A.units<cLine)(ho:s.heap.get? a=some (bM xs ep mask moves led pl))(ok:Ok mask pl (cM xs))
  (hK:∀x∈xs,KAt prog w s.heap x.1 x.2)(hk:KAt prog w s.heap k b)(hn0:n0<10*SetTable.turns mask)(hE:(nth mask (hT k) n0).j∉pl)(hL:∀m,m<n0->(nth mask (hT k) m).j∈pl)
  (h1:k∈xs.map (·.1)->Q (.there none) s)(h2:k∉xs.map (·.1)->Q (.free (nth mask (hT k) n0).j false) s):
  ∀(fuel n:Nat)(stand:Option SetTable.Probe),n<=n0->n0 - n<fuel->stand.getD ((tb mask moves led pl).probeStart (hT k))=nth mask (hT k) n->(∀m,m<n->∀(i:Nat)(x:List Int×Addr),pl[i]?=some (nth mask (hT k) m).j->xs[i]?=some x->x.1≠k)->
   wpAny (model prog w) A (setSearchFrom a (.ref b) (hT k) true fuel stand) Q E s:=by
 have hd:(bM xs ep mask moves led pl).data= .set (xs.map ent).toArray ep (tb mask moves led pl):=rfl
 have hf:=lG (moves:=moves) (led:=led) ok
 have hgw:(tb mask moves led pl).gaveWay=false:=by
  show(mask%2==0)=false
  rcases ok.mk' with rfl|rfl<;>rfl
 intro fuel
 induction fuel with
 |zero=>intro n stand _ hlt;omega
 |succ fuel ih=>
  intro n stand hn hlt hst hpre
  unfold setSearchFrom
  refine wpAny_bind (wpAny_setState_of ho hd hf ?_);dsimp only
  rw [hgw]
  simp only [Bool.false_eq_true,↓reduceIte]
  rw [hst]
  have hp:∀(i:Nat)(x:List Int×Addr),xs[i]?=some x->((((xs.map ent).toArray)[i]?).map (·.1)).getD 0=hT x.1:=fun i x e=>by simp [e,ent]
  have hrun:=go_run (mask:=mask) (moves:=moves) (led:=led) ok.up (fun i=>((((xs.map ent).toArray)[i]?).map (·.1)).getD 0) (hT k) n0 hE hL (n0 - n) n (10*SetTable.turns mask) (by omega) (by omega)
  have lenx:pl.length=xs.length:=by have:=ok.len;unfold cM at this;rwa [List.length_map]at this
  generalize hP:SetTable.probe (tb mask moves led pl) _ (hT k) (nth mask (hT k) n)=P
  rcases hrun with⟨e,hno⟩| ⟨m,i,m1,m2,m3,m4,e,hno⟩
  ·obtain rfl:=hP.symm.trans e
   dsimp only
   refine wpAny_pure (h2 fun hm=> ?_)
   obtain⟨x,hx,ek⟩:=List.mem_map.mp hm
   obtain⟨i,hi⟩:=List.mem_iff_getElem?.mp hx
   have hi2:(cM xs)[i]?=some (hT k):=by unfold cM;rw [List.getElem?_map,hi,←ek];rfl
   obtain⟨m,a1,a2⟩:=ok.met hi2 hE
   by_cases hmn:m<n
   ·exact hpre m hmn i x a2 hi ek
   ·exact hno m (by omega) a1 i a2 (by rw [hp i x hi,ek])
  ·obtain rfl:=hP.symm.trans e
   dsimp only
   have hi:i<xs.length:=by rw [←lenx];exact(List.getElem?_eq_some_iff.mp m3).1
   have hx:xs[i]?=some xs[i]:=List.getElem?_eq_getElem hi
   have hy:(xs.map ent).toArray[i]?=some (ent xs[i]):=by simp [hi]
   have hKi:=hK xs[i] (List.getElem_mem hi)
   refine A2m (fun Q' q'=>A59 hk (fun v hv=> ?_) q') ?_
   ·obtain⟨e',he',rfl⟩:=List.mem_map.mp hv
    have hm1:=(Array.mem_filter.mp (Array.mem_toList_iff.mp he')).1
    have hm2:e'∈xs.map ent:=by simpa using hm1
    obtain⟨x,hx',rfl⟩:=List.mem_map.mp hm2
    exact⟨x.1,x.2,rfl,hK x hx'⟩
   rw [hy]
   dsimp only [ent]
   refine wpAny_bind (wpAny_holding (wpAny_eqBool_tuple (A:=A) hu hKi hk ?_))
   refine wpAny_bind (wpAny_setState_of ho hd hf ?_);dsimp only
   by_cases ek:xs[i].1=k
   ·rw [decide_eq_true ek]
    simp only [Bool.and_self,↓reduceIte]
    exact wpAny_pure (h1 (List.mem_map.mpr ⟨xs[i],List.getElem_mem hi,ek⟩))
   ·rw [decide_eq_false ek]
    simp only [Bool.and_false,Bool.false_eq_true,↓reduceIte]
    have hsm:(tb mask moves led pl).sameMemory (tb mask moves led pl).moves (tb mask moves led pl).mask=some true:=by simp [SetTable.sameMemory]
    rw [hsm]
    dsimp only
    simp only [↓reduceIte]
    rw [uO ok.up m3]
    dsimp only
    rw [hy]
    dsimp only [ent]
    refine wpAny_bind (wpAny_isSame_ref_self ?_)
    simp only [↓reduceIte]
    refine wpAny_bind (wpAny_pure ?_)
    dsimp only
    refine ih (m+1) _ (by omega) (by omega) rfl fun m' hm' i' x hi' hx'=> ?_
    by_cases c1:m'<n
    ·exact hpre m' c1 i' x hi' hx'
    ·by_cases c2:m'<m
     ·intro ex
      exact hno m' (by omega) c2 i' hi' (by rw [hp i' x hx',ex])
     ·have c3:m'=m:=by omega
      subst c3
      have ei:i'=i:=by rw [←lE ok.up hi',lE ok.up m3]
      subst ei
      rw [hx]at hx';cases hx';exact ek
end
theorem B18 {mask moves:Nat}{led:Bool}{pl:List Nat}(hu:pl.Pairwise (· < ·))(j:Nat):(tb mask moves led pl).put j=(tb mask moves led (ins pl (rk j pl) j),rk j pl):=by
 have h2:SetTable.has #[] j=false:=by simp [SetTable.has]
 show(({tb mask moves led pl with place:=SetTable.insertAt pl.toArray (SetTable.below pl.toArray j) j,dummies:=if SetTable.has #[] j then SetTable.eraseAt #[] (SetTable.below #[] j)else #[]}:SetTable),SetTable.below pl.toArray j)=_
 rw [sY hu,A2c,h2]
 rfl
theorem A7k {mask moves:Nat}{led:Bool}{pl:List Nat}:(tb mask moves led pl).tooFull=decide (mask*3<=pl.length*5):=by
 unfold SetTable.tooFull SetTable.fill tb
 simp
theorem A7q {α:Type}(l:List α)(d:α)(order:List Nat)(h:∀k∈order,k<l.length):order.filterMap (fun k=>l[k]?)=order.map fun k=>l.getD k d:=by
 induction order with
 |nil=>rfl
 |cons k ks ih=>
  have hk:=h k List.mem_cons_self
  rw [List.filterMap_cons,List.getElem?_eq_getElem hk,List.map_cons,ih fun k' hk'=>h k' (List.mem_cons_of_mem _ hk')]
  simp [hk]
theorem B2h {α:Type}(l:List α)(d:α):(List.range l.length).map (fun k=>l.getD k d)=l:=by
 refine List.ext_getElem (by simp) fun i h1 h2=> ?_
 simp [h2]
section
variable {prog:Program}{w:World}{A:Around}{E:Value->Shared->Prop}{s:Shared}
theorem B2i {a:Addr}{xs:List (List Int×Addr)}{led:Bool}{k:List Int}{b:Addr}{Q:Bool->Shared->Prop}(hu:A.units<cLine)(hS:IsSt s.heap a xs led)(hK:∀x∈xs,KAt prog w s.heap x.1 x.2)(hk:KAt prog w s.heap k b)(few:xs.length+1<=18)
  (h:∀r h' xs',Heap.SameBut a s.heap h'->IsSt h' a xs' led->((k∈xs.map (·.1)/\xs'=xs)\/(k∉xs.map (·.1)/\xs'.Perm ((k,b)::xs)))->Q r {s with heap:=h'}):
  wpAny (model prog w) A (setAddHashed a (.ref b) (hT k)) Q E s:=by
 obtain⟨ep,mask,moves,pl,ho,ok⟩:=id hS
 have hd:(bM xs ep mask moves led pl).data= .set (xs.map ent).toArray ep (tb mask moves led pl):=rfl
 have hf:=lG (moves:=moves) (led:=led) ok
 obtain⟨n0,h1,h2,h3⟩:=ok.free (hT k)
 have lenx:pl.length=xs.length:=by have:=ok.len;unfold cM at this;rwa [List.length_map]at this
 have fewx:xs.length*5<mask*3:=by have:=ok.few;unfold cM at this;rwa [List.length_map]at this
 unfold setAddHashed setAddHashedIn
 refine wpAny_holding (wpAny_bind (wpAny_setState_of ho hd hf ?_));dsimp only
 have hbs:byScan (.ref b) (xs.map ent).toArray=false:=by simp [byScan,Value.scannable]
 rw [hbs]
 simp only [Bool.false_eq_true,↓reduceIte]
 unfold setSearch
 refine wpAny_bind (A51 hu ho ok hK hk h1 h2 h3 (fun hm=> ?_) (fun hm=> ?_) 100000 0 none (Nat.zero_le _) ?_ rfl fun m hm=>absurd hm (by omega))
 ·dsimp only
  exact wpAny_pure (h _ s.heap xs (Heap.SameBut.refl a s.heap) hS (.inl ⟨hm,rfl⟩))
 ·dsimp only
  refine wpAny_bind (wpAny_setState_of ho hd hf ?_);dsimp only
  rw [B18 ok.up]
  dsimp only
  have hpl:(tb mask moves led (ins pl (rk (nth mask (hT k) n0).j pl) (nth mask (hT k) n0).j)).plain=true:=rfl
  rw [hpl]
  simp only [↓reduceIte]
  refine wpAny_bind (A6b hk ?_)
  simp only [↓reduceIte]
  generalize hr:rk (nth mask (hT k) n0).j pl=r at*
  have hrle:r<=xs.length:=by rw [←hr,←lenx];exact pY _ _
  have eins:SetTable.insertAt (xs.map ent).toArray r (hT k,Value.ref b)=((ins xs r (k,b)).map ent).toArray:=by
   rw [A2c]
   unfold ins
   rw [List.map_append,List.map_cons,List.map_take,List.map_drop]
   rfl
  rw [eins]
  have hlen:(ins xs r (k,b)).length=xs.length+1:=oM hrle
  have hz:((ins xs r (k,b)).map ent).toArray.size<=sizeLine:=by rw [List.size_toArray,List.length_map,hlen,sizeLine_eq];omega
  refine wpAny_bind (wpAny_storeSet_of ho hd ?_ hz)
  have hlp:(ins pl r (nth mask (hT k) n0).j).length=xs.length+1:=by rw [oM (by omega),lenx]
  have hg:(s.heap.update a (Obj.putSet ((ins xs r (k,b)).map ent).toArray (tb mask moves led (ins pl r (nth mask (hT k) n0).j)))).get? a=some (bM (ins xs r (k,b)) (ep+1) mask moves led (ins pl r (nth mask (hT k) n0).j)):=by
   have:=Heap.get?_update_self (Obj.putSet ((ins xs r (k,b)).map ent).toArray (tb mask moves led (ins pl r (nth mask (hT k) n0).j))) ho (by rw [putSet_of _ _ hd];rfl)
   rw [putSet_of _ _ hd]at this;exact this
  have sb:=Heap.SameBut.update s.heap a (Obj.putSet ((ins xs r (k,b)).map ent).toArray (tb mask moves led (ins pl r (nth mask (hT k) n0).j)))
  have ehs:cM (ins xs r (k,b))=ins (cM xs) r (hT k):=by
   unfold cM ins
   rw [List.map_append,List.map_cons,List.map_take,List.map_drop]
  rw [A7k,hlp]
  by_cases fw:(xs.length+1)*5<mask*3
  ·rw [decide_eq_false (by omega)]
   simp only [Bool.and_false,Bool.false_eq_true,↓reduceIte]
   refine wpAny_pure (h _ _ (ins xs r (k,b)) sb ⟨ep+1,mask,moves,_,hg,?_⟩ (.inr ⟨hm,wN _ _ _⟩))
   rw [ehs,←hr]
   exact ok.put h2 h3 (by unfold cM;rw [List.length_map];exact fw)
  ·rw [decide_eq_true (by omega)]
   simp only [Bool.not_false,Bool.and_self,↓reduceIte]
   have m7:mask=7:=by
    rcases ok.mk' with e|e
    ·exact e
    ·omega
   subst m7
   have l5:xs.length+1=5:=by omega
   have esz:(xs.map ent).toArray.size+1=5:=by rw [List.size_toArray,List.length_map];exact l5
   rw [esz]
   have hf2:(tb 7 moves led (ins pl r (nth 7 (hT k) n0).j)).fits ((ins xs r (k,b)).map ent).toArray.size=true:=by
    simp only [SetTable.fits,SetTable.fill,tb,List.size_toArray,List.length_map,Bool.and_eq_true,beq_iff_eq,decide_eq_true_eq]
    exact⟨by omega,by simp;omega⟩
   refine wpAny_bind ?_
   unfold setRelay
   have hd2:(bM (ins xs r (k,b)) (ep+1) 7 moves led (ins pl r (nth 7 (hT k) n0).j)).data= .set ((ins xs r (k,b)).map ent).toArray (ep+1) (tb 7 moves led (ins pl r (nth 7 (hT k) n0).j)):=rfl
   refine wpAny_bind (wpAny_setState_of hg hd2 hf2 ?_);dsimp only
   rw [if_neg (by rw [sizeLine_eq];decide)]
   have emap:((ins xs r (k,b)).map ent).toArray.map (·.1)=(cM (ins xs r (k,b))).toArray:=by simp [cM,ent]
   rw [emap]
   obtain⟨pl',order,moves',e,perm,ok'⟩:=B1x moves led (ins pl r (nth 7 (hT k) n0).j) (cM (ins xs r (k,b))) (by unfold cM;rw [List.length_map,hlen];exact l5)
   rw [e]
   have hlenh:(cM (ins xs r (k,b))).length=(ins xs r (k,b)).length:=by unfold cM;rw [List.length_map]
   rw [hlenh]at perm
   have ordlt:∀i∈order,i<(ins xs r (k,b)).length:=fun i hi=>List.mem_range.mp (perm.mem_iff.mp hi)
   generalize hxs':(order.map fun i=>(ins xs r (k,b)).getD i (k,b))=xs'
   have xperm:xs'.Perm (ins xs r (k,b)):=by
    rw [←hxs']
    refine(perm.map _).trans (List.Perm.of_eq ?_)
    exact B2h _ _
   have ees:order.toArray.filterMap (fun i=>((ins xs r (k,b)).map ent).toArray[i]?)=(xs'.map ent).toArray:=by
    rw [List.filterMap_toArray]
    congr 1
    rw [←hxs']
    simp only [List.getElem?_toArray]
    rw [A7q _ (ent (k,b)) order (by rw [List.length_map];exact ordlt),List.map_map]
    refine List.map_congr_left fun i hi=> ?_
    have:=ordlt i hi
    simp [this]
   have okx:Ok 31 pl' (cM xs'):=by
    have:(order.map fun i=>(cM (ins xs r (k,b))).getD i 0)=cM xs':=by
     rw [←hxs']
     unfold cM
     rw [List.map_map]
     refine List.map_congr_left fun i hi=> ?_
     have:=ordlt i hi
     simp [this]
    rw [this]at ok';exact ok'
   have lenx':xs'.length=(ins xs r (k,b)).length:=xperm.length_eq
   have hz':(xs'.map ent).toArray.size<=sizeLine:=by rw [List.size_toArray,List.length_map,lenx',hlen,sizeLine_eq];omega
   refine wpAny_bind ?_
   show wpAny _ _ (if ((order.toArray.filterMap (fun i=>((ins xs r (k,b)).map ent).toArray[i]?)).size !=((ins xs r (k,b)).map ent).toArray.size)=true then _ else pure (order.toArray.filterMap (fun i=>((ins xs r (k,b)).map ent).toArray[i]?),tb 31 moves' led pl')) _ _ _
   rw [ees,if_neg (by simp [lenx'])]
   refine wpAny_pure ?_
   dsimp only
   refine wpAny_storeSet_of hg hd2 ?_ hz'
   have hg':((s.heap.update a (Obj.putSet ((ins xs r (k,b)).map ent).toArray (tb 7 moves led (ins pl r (nth 7 (hT k) n0).j)))).update a (Obj.putSet (xs'.map ent).toArray (tb 31 moves' led pl'))).get? a=some (bM xs' (ep+1+1) 31 moves' led pl'):=by
    have:=Heap.get?_update_self (Obj.putSet (xs'.map ent).toArray (tb 31 moves' led pl')) hg (by rw [putSet_of _ _ hd2];rfl)
    rw [putSet_of _ _ hd2]at this;exact this
   refine wpAny_pure (h _ _ xs' (sb.trans (Heap.SameBut.update _ a _)) ⟨_,31,moves',pl',hg',okx⟩ (.inr ⟨hm,xperm.trans (wN _ _ _)⟩))
 ·have:SetTable.turns mask<=100:=by
   unfold SetTable.turns
   rcases ok.mk' with e|e<;>omega
  omega
end
structure Acc (val:Nat->List Int×Addr)(i:Nat)(xs:List (List Int×Addr)):Prop where
 nd:(xs.map (·.1)).Nodup
 of:∀x∈xs,∃j,j<i/\val j=x
 all:∀j,j<i->(val j).1∈xs.map (·.1)
theorem Acc.nil {val:Nat->List Int×Addr}:Acc val 0 []:=⟨List.nodup_nil,fun x h=>absurd h (by simp),fun j h=>absurd h (by omega)⟩
theorem Acc.len {val:Nat->List Int×Addr}{i:Nat}{xs:List (List Int×Addr)}(a:Acc val i xs):xs.length<=i:=by
 have h:=len_le_of_sub (xs.map (·.1)) ((List.range i).map fun j=>(val j).1) a.nd fun k hk=>by
  obtain⟨x,hx,rfl⟩:=List.mem_map.mp hk
  obtain⟨j,hj,e⟩:=a.of x hx
  exact List.mem_map.mpr ⟨j,List.mem_range.mpr hj,by rw [e]⟩
 simpa using h
theorem Acc.step {val:Nat->List Int×Addr}{i:Nat}{xs xs':List (List Int×Addr)}(a:Acc val i xs)(h:((val i).1∈xs.map (·.1)/\xs'=xs)\/((val i).1∉xs.map (·.1)/\xs'.Perm ((val i)::xs))):Acc val (i+1) xs':=by
 rcases h with⟨h1,rfl⟩| ⟨h1,h2⟩
 ·refine⟨a.nd,fun x hx=>let ⟨j,hj,e⟩:=a.of x hx;⟨j,by omega,e⟩,fun j hj=> ?_⟩
  by_cases e:j=i
  ·subst e;exact h1
  ·exact a.all j (by omega)
 ·have hm:=h2.map (·.1)
  refine⟨?_,fun x hx=> ?_,fun j hj=> ?_⟩
  ·rw [hm.nodup_iff,List.map_cons,List.nodup_cons];exact⟨h1,a.nd⟩
  ·rcases List.mem_cons.mp (h2.mem_iff.mp hx)with rfl|h
   ·exact⟨i,by omega,rfl⟩
   ·obtain⟨j,hj,e⟩:=a.of x h;exact⟨j,by omega,e⟩
  ·rw [hm.mem_iff,List.map_cons,List.mem_cons]
   by_cases e:j=i
   ·subst e;exact .inl rfl
   ·exact .inr (a.all j (by omega))
theorem KAt.at {prog:Program}{w:World}{h h':Heap}{k:List Int}{a:Addr}(x:KAt prog w h k a)(e:∀o,h.get? a=some o->h'.get? a=some o):KAt prog w h' k a:=let ⟨o,items,n,ho,r⟩:=x;⟨o,items,n,e _ ho,r⟩
section
variable {prog:Program}{w:World}{A:Around}{R:Result->Shared->Prop}{I:Addr}{fp wr:List Addr}{G:Array GenState->Array GenState->Prop}{n:Nat}{P:Nat->Value->Prop}{St:Nat->Shared->Prop}{led:Bool}
theorem A5r (hu:A.units+1<cLine)(W:WalksS prog w A.in1 I fp wr G n P St)(D:Addr)(hD:D∉fp)(val:Nat->List Int×Addr)(hv:∀i v,P i v->v= .ref (val i).2)(hn:n<=18)(hne:∀j,j<n->(val j).2∉D::wr):∀(k i:Nat)(s:Shared)(xs:List (List Int×Addr)),n - i=k->i<=n->St i s->(∀j,j<n->KAt prog w s.heap (val j).1 (val j).2)->IsSt s.heap D xs led->Acc val i xs->
  (∀s' xs',Moved (D::wr) G s s'->IsSt s'.heap D xs' led->Acc val n xs'->R (.ok (.ret .none)) s')->codeAny (model prog w) A (.builtin "set.update.loop" ⟨[.ref D,.ref I],[]⟩) R s:=by
 have nw:D∉wr:=fun h=>hD (W.sub _ h)
 have sub:∀b∈wr,b∈D::wr:=fun b hb=>List.mem_cons_of_mem _ hb
 intro k
 induction k with
 |zero=>
  intro i s xs hk hi st hK hS hA hR
  obtain rfl:i=n:=by omega
  refine codeAny_builtin F.entry_set_update_loop ?_;rw [Around.under_plainId F.plain_set_update_loop _]
  show wpAny _ A.in1 (pyNext (.ref I)>>=_) _ _ s;refine wpAny_bind (W.done s _ _ st fun s' hm=> ?_)
  show wpAny _ A.in1 (ret Value.none) _ _ s'
  exact wpAny_pure (hR s' xs (hm.mono sub) (hS.at fun o e=>hm.heap D _ nw e) hA)
 |succ k ih=>
  intro i s xs hk hi st hK hS hA hR
  have hlt:i<n:=by omega
  refine codeAny_builtin F.entry_set_update_loop ?_;rw [Around.under_plainId F.plain_set_update_loop _]
  show wpAny _ A.in1 (pyNext (.ref I)>>=_) _ _ s;refine wpAny_bind (W.item i s _ _ hlt st fun v s' hP st' hm=> ?_)
  obtain rfl:=hv i v hP
  have hK':∀j,j<n->KAt prog w s'.heap (val j).1 (val j).2:=fun j hj=>(hK j hj).at fun o e=>hm.heap _ _ (fun z=>hne j hj (List.mem_cons_of_mem _ z)) e
  have hA18:=hA.len
  show wpAny _ A.in1 (holding [Value.ref (val i).2] (setAdd D (.ref (val i).2))>>=_) _ _ s'
  refine wpAny_bind (wpAny_holding ?_);unfold setAdd;refine wpAny_holding ?_
  refine wpAny_bind (wpAny_pyHash_tuple (show A.in1.units<cLine from hu) (hK' i hlt) ?_)
  refine B2i (s:={s' with toks:=s'.toks+((val i).1.length+1)}) (k:=(val i).1) (show A.in1.units<cLine from hu) (hS.at fun o e=>hm.heap D _ nw e) (fun x hx=> ?_) (hK' i hlt) (by omega) fun b h' xs' hsb hS2 hstep=> ?_
  ·obtain⟨j,hj,rfl⟩:=hA.of x hx
   exact hK' j (by omega)
  refine wpAny_pure ⟨plainId_quiet F.plain_set_update_loop _,ih (i+1) _ xs' (by omega) hlt (W.frame _ s' _ _ st' (Nat.le_add_right _ _) fun b hb o e=> ?_) (fun j hj=>(hK' j hj).at fun o e=> ?_) hS2 (hA.step hstep) fun s'' xs'' hm'' hS'' hA''=> ?_⟩
  ·rw [hsb.2 b (fun h:b=D=>hD (by rw [←h];exact hb))];exact e
  ·rw [hsb.2 _ (fun h:(val j).2=D=>hne j hj (by rw [h];exact List.mem_cons_self))];exact e
  ·refine hR s'' xs'' (Moved.trans W.gtrans ((hm.mono sub).then_heap (Nat.le_add_right _ _) fun b o hb e=> ?_) hm'') hS'' hA''
   rw [hsb.2 b (fun h:b=D=>hb (by rw [h];exact List.mem_cons_self))];exact e
end
section
variable {prog:Program}{w:World}{A:Around}{E:Value->Shared->Prop}{s:Shared}
def byT (w:World):Bool:=w.params.followText "set-order"
theorem A46 (a:Value){Q₁:Value->Shared->Prop}(h:Q₁ (.ref s.heap.objs.size) {s with heap:=s.heap.push (bM [] 0 7 0 (!byT w) [])}):
  codeAny (model prog w) A (.call (.builtin "set.__new__") ⟨[.type "set",a],[]⟩) (wants Q₁ E) s:=by
 refine codeAny_of_tree ?_
 show wpAny _ A.in1 (do checkBuiltinCall "set.__new__" ⟨[.type "set",a],[]⟩;again (.builtin "set.__new__" ⟨[.type "set",a],[]⟩)) _ _ s
 refine wpAny_bind (wpAny_of_eq (PySem.F.newCall_set_1 a) (wpAny_pure ⟨plainId_quiet PySem.F.plain_set_new _,codeAny_builtin PySem.F.entry_set_new ?_⟩))
 rw [Around.under_plainId PySem.F.plain_set_new _];unfold Builtin.«set.__new__» Builtin.Frozenset.newClass
 have hsub:=PySem.sub_set_self
 obtain⟨hp,g,d,tk,os⟩:=s
 dsimp only;wp_walk
 refine wpAny_askSetting (wpAny_pure ?_);dsimp only;simp only [newObj]
 refine wpAny_bind (wpAny_alloc (wpAny_pure ?_));exact wpAny_pure h
theorem A6p {l:Addr}{items:Array Value}{val:Nat->List Int×Addr}{Q:Value->Shared->Prop}(hu:A.units+8<cLine)(hh:A.handled=none)(hl:s.heap.IsList l items)(hv:∀(i:Nat)(v:Value),items[i]?=some v->v= .ref (val i).2)(hK:∀i,i<items.size->KAt prog w s.heap (val i).1 (val i).2)(h18:items.size<=18)
  (h:∀(h':Heap)(tk:Nat)(xs:List (List Int×Addr)),IsSt h' s.heap.objs.size xs (!byT w)->Acc val items.size xs->(∀b o,b<s.heap.objs.size->s.heap.get? b=some o->h'.get? b=some o)->Q (.ref s.heap.objs.size) {s with heap:=h',toks:=tk}):
  wpAny (model prog w) A (call (.type "set") [.ref l]) Q E s:=by
 obtain⟨c,tl,hmro⟩:=PySem.F.called_set.mro
 have hmade:=PySem.F.called_set.made
 have hsub:=PySem.F.called_set.sub
 refine wpAny_call (codeAny_of_tree ?_)
 show wpAny _ _ (callAny (.type "set") _) _ _ _
 refine wpAny_pure ⟨Code.quiet_builtin _ (by decide +kernel),codeAny_builtin PySem.F.entry_type_call ?_⟩
 rw [Around.under_plain (weight_type_call_type "set" [.ref l] []) rfl]
 have h1:=PySem.F.called_set.notType
 have h2:=PySem.F.called_set.canCreate
 have hct:=PySem.F.typeCall_set_1 (.ref l)
 repeat (any_goals (first|assumption|wp_step))
 refine codeAny_mono (A46 (.ref l) (E:=E) (Q₁:=fun obj s₁=>obj= .ref s.heap.objs.size/\s₁={s with heap:=s.heap.push (bM [] 0 7 0 (!byT w) [])}) ⟨rfl,rfl⟩) fun r s₁ hr=> ?_
 cases r with
 |error e=>exact hr
 |ok fl=>
  cases fl with
  |ret obj=>
   obtain⟨rfl,rfl⟩:=hr
   have hS:(s.heap.push (bM [] 0 7 0 (!byT w) [])).get? s.heap.objs.size=some (bM [] 0 7 0 (!byT w) []):=Heap.get?_push_size _ rfl
   have hT:Shared.TypeIs {s with heap:=s.heap.push (bM [] 0 7 0 (!byT w) [])} (.ref s.heap.objs.size) "set":=⟨_,hS,rfl⟩
   have hli:=PySem.F.called_set.init.lookup
   have hbi:=PySem.F.called_set.init.bind (.ref s.heap.objs.size)
   repeat (any_goals (first|assumption|wp_step))
   refine codeAny_mono (codeAny_call_builtin (R:=wants (fun r s₂=>r= .none/\∃h' tk xs,s₂={s with heap:=h',toks:=tk}/\IsSt h' s.heap.objs.size xs (!byT w)/\Acc val items.size xs/\
     (∀b o,b<s.heap.objs.size->s.heap.get? b=some o->h'.get? b=some o)) E) PySem.F.called_set.init.plain PySem.F.entry_set_init (check_set_init_1 hT ?_)) fun r₂ s₂ hr₂=> ?_
   ·obtain⟨ol,hol,hcl,nl,hdl⟩:=hl
    obtain⟨ocls,odict,odata,oslots⟩:=ol
    simp only at hcl hdl
    subst hcl;subst hdl
    have hol':(s.heap.push (bM [] 0 7 0 (!byT w) [])).get? l=some {cls:=.type "list",dict:=odict,data:=.seq items nl,slots:=oslots}:=Heap.get?_push_of_some _ hol
    have hsls:=PySem.F.sub_list_set
    have hslf:=PySem.F.sub_list_frozenset
    have hne:(Value.type "list" ==Value.type "dict")=false:=by decide
    have hl1:(s.heap.push (bM [] 0 7 0 (!byT w) [])).IsList l items:=⟨_,hol',rfl,nl,rfl⟩
    unfold Builtin.«set.__init__» noKeywords Builtin.Frozenset.updateFrom
    generalize hPI:pyIter=PI
    wp_walk
    subst hPI
    refine wpAny_pyIter_list hl1 ?_;refine wpAny_bind (wpAny_runValue ?_)
    have hlS:l<s.heap.objs.size:=Heap.lt_size hol
    have hh3:A.in1.in1.in1.handled=none:=by simp [hh]
    have hneI:l≠(s.heap.push (bM [] 0 7 0 (!byT w) [])).objs.size:=by rw [Heap.size_push];exact Nat.ne_of_lt (Nat.lt_succ_of_lt hlS)
    have hSf:s.heap.objs.size∉[(s.heap.push (bM [] 0 7 0 (!byT w) [])).objs.size,l]:=by
     rw [Heap.size_push];intro hm
     rcases List.mem_cons.mp hm with e|e
     ·exact absurd e (Nat.ne_of_lt (Nat.lt_succ_self _))
     ·exact absurd (List.mem_singleton.mp e) (Nat.ne_of_gt hlS)
    have hKt:∀j,j<items.size->(val j).2<s.heap.objs.size/\(val j).2≠l:=fun j hj=>by
     obtain⟨o,its,n',ho',hc',_⟩:=hK j hj
     refine⟨Heap.lt_size ho',fun z=> ?_⟩
     rw [z,hol]at ho';cases ho';exact absurd (show Value.type "list" =Value.type "tuple" from hc') (by decide)
    refine A5r (by show A.units+1+1+1<cLine;omega) ((Walks.list hh3 _ l hneI items).toS) s.heap.objs.size hSf val hv h18 (fun j hj hmm=> ?_) (items.size - 0) 0 _ [] (by omega) (Nat.zero_le _) ⟨⟨_,Heap.get?_push_size _ rfl,rfl,rfl⟩,(hl1.push _)⟩ (fun j hj=>(hK j hj).at fun o e=>Heap.get?_push_of_some _ (Heap.get?_push_of_some _ e)) (show IsSt _ _ [] (!byT w)from⟨0,7,0,[],Heap.get?_push_of_some _ hS,Ok.nil⟩) Acc.nil ?_
    ·obtain⟨z1,z2⟩:=hKt j hj
     rcases List.mem_cons.mp hmm with z|z
     ·exact Nat.ne_of_lt z1 z
     ·rw [Heap.size_push]at z
      exact Nat.ne_of_lt (Nat.lt_succ_of_lt z1) (List.mem_singleton.mp z)
    intro s' xs' hm hS' hA'
    obtain⟨h',g',d',tk',os'⟩:=s'
    have eg:g'=s.gens:=hm.gens
    have ed:d'=s.drawn:=hm.drawn
    have eo:os'=s.os:=hm.os
    subst eg;subst ed;subst eo
    show wpAny _ _ _ _ _ _;refine wpAny_pure ?_;show wpAny _ _ (ret Value.none) _ _ _
    refine wpAny_pure ⟨rfl,h',tk',xs',rfl,hS',hA',fun b o hb e=> ?_⟩
    refine hm.heap b o (fun hmm=> ?_) (Heap.get?_push_of_some _ (Heap.get?_push_of_some _ e))
    rcases List.mem_cons.mp hmm with z|z
    ·exact Nat.ne_of_lt hb z
    ·rw [Heap.size_push]at z
     exact Nat.ne_of_lt (Nat.lt_succ_of_lt hb) (List.mem_singleton.mp z)
   ·cases r₂ with
    |error e=>exact hr₂
    |ok fl₂=>
     cases fl₂ with
     |ret r=>
      obtain⟨rfl,h',tk,xs',rfl,hS',hA',hk'⟩:=hr₂
      repeat (any_goals (first|assumption|wp_step))
      exact h _ _ _ hS' hA' hk'
     |_=>exact hr₂.elim
  |_=>exact hr.elim
end
theorem lY {α:Type}:∀(l:List α)(i:Nat)(h:i<l.length),(l[i]::l.eraseIdx i).Perm l
 | [],i,h=>by simp at h
 |x::l,0,h=>List.Perm.refl _
 |x::l,i+1,h=>by
  have ih:=lY l i (by simpa using h)
  show(l[i]'(by simpa using h)::x::l.eraseIdx i).Perm (x::l)
  exact(List.Perm.swap _ _ _).trans (ih.cons x)
theorem lZ {α:Type}(next:Nat->Nat):∀(fuel k:Nat)(left:List α)(out:Array α),left.length=fuel->(pickOrder.go next fuel k left out).toList.Perm (out.toList++left)
 |0,k,left,out,h=>by
  cases left with
  |nil=>unfold pickOrder.go;simp
  |cons _ _=>simp at h
 |fuel+1,k,left,out,h=>by
  have hl:next k%left.length<left.length:=Nat.mod_lt _ (by omega)
  unfold pickOrder.go
  rw [List.getElem?_eq_getElem hl]
  have ih:=lZ next fuel (k+1) (left.eraseIdx (next k%left.length)) (out.push left[next k%left.length]) (by rw [List.length_eraseIdx_of_lt hl];omega)
  refine ih.trans ?_
  rw [Array.toList_push,List.append_assoc]
  exact List.Perm.append_left _ (lY _ _ hl)
theorem uJ {α:Type}(next:Nat->Nat)(xs:Array α):(pickOrder next xs).toList.Perm xs.toList:=by
 have:=lZ next xs.size 0 xs.toList #[] (by simp)
 unfold pickOrder
 simpa using this
theorem uZ {j:Nat}:∀{l:List Nat}{i:Nat},i<=l.length->(∀m,m<i->l.getD m j<j)->¬l.getD i j<j->rk j l=i
 | [],i,h,_,_=>by simp at h;subst h;rfl
 |x::xs,0,_,_,h2=>by
  have:¬x<j:=by simpa using h2
  unfold rk;rw [if_neg this]
 |x::xs,i+1,h,h1,h2=>by
  have hx:x<j:=by simpa using h1 0 (by omega)
  unfold rk
  rw [if_pos hx,uZ (i:=i) (by simpa using h) (fun m hm=>by simpa using h1 (m+1) (by omega)) (by simpa using h2)]
def slot (pl:List Nat)(i:Nat):Nat:=if i=0 then 0 else pl.getD (i - 1) 0+1
theorem B0v {pl:List Nat}(hu:pl.Pairwise (· < ·))(i:Nat)(hi:i<=pl.length):SetTable.below pl.toArray (slot pl i)=i:=by
 rw [sY hu]
 cases i with
 |zero=>exact uZ (Nat.zero_le _) (fun m hm=>absurd hm (by omega)) (by unfold slot;simp)
 |succ i=>
  have hlt:i<pl.length:=by omega
  have e:slot pl (i+1)=pl[i]+1:=by unfold slot;rw [if_neg (by omega)];simp [hlt]
  rw [e]
  refine uZ hi (fun m hm=> ?_) ?_
  ·have hm':m<pl.length:=by omega
   rw [show pl.getD m (pl[i]+1)=pl[m] by simp [hm']]
   by_cases em:m=i
   ·subst em;omega
   ·have:=List.pairwise_iff_getElem.mp hu m i hm' hlt (by omega);omega
  ·by_cases h2:i+1<pl.length
   ·rw [show pl.getD (i+1) (pl[i]+1)=pl[i+1] by simp [h2]]
    have:=List.pairwise_iff_getElem.mp hu i (i+1) hlt h2 (by omega);omega
   ·simp [List.getD,List.getElem?_eq_none (Nat.le_of_not_lt h2)]
def ord (w:World)(a:Addr)(xs:List (List Int×Addr))(ep:Nat):List Value:=((if byT w=true then pickOrder (w.params.setOrder a ep) (xs.map ent).toArray else(xs.map ent).toArray).toList).map (·.2)
theorem nS (w:World)(a:Addr)(xs:List (List Int×Addr))(ep:Nat):(ord w a xs ep).Perm (xs.map fun x=>Value.ref x.2):=by
 have e:(xs.map ent).toArray.toList.map (·.2)=xs.map fun x=>Value.ref x.2:=by simp [ent,Function.comp_def]
 unfold ord
 by_cases h:byT w=true
 ·rw [if_pos h,←e]
  exact(uJ _ _).map _
 ·rw [if_neg h,e]
def nslot (w:World)(pl:List Nat)(i:Nat):Nat:=if byT w=true then 0 else slot pl i
section
variable {prog:Program}{w:World}{A:Around}{E:Value->Shared->Prop}{s:Shared}
theorem A0j {a:Addr}{xs:List (List Int×Addr)}{ep mask moves i:Nat}{pl:List Nat}{Q:Option (Value×Nat)->Shared->Prop}(ho:s.heap.get? a=some (bM xs ep mask moves (!byT w) pl))(ok:Ok mask pl (cM xs))(hi:i<=xs.length)(h:Q (((ord w a xs ep)[i]?).map fun v=>(v,nslot w pl (i+1))) s):
  wpAny (model prog w) A (setNext a (nslot w pl i) i ep) Q E s:=by
 have hd:(bM xs ep mask moves (!byT w) pl).data= .set (xs.map ent).toArray ep (tb mask moves (!byT w) pl):=rfl
 have hf:=lG (moves:=moves) (led:=!byT w) ok
 have lenx:pl.length=xs.length:=by have:=ok.len;unfold cM at this;rwa [List.length_map]at this
 unfold setNext setsByText
 refine wpAny_bind (wpAny_setState_of ho hd hf ?_);dsimp only
 refine wpAny_bind (wpAny_bind (wpAny_askSetting (wpAny_pure ?_)))
 show wpAny _ _ (if byT w=true then _ else _) _ _ _
 unfold ord nslot at h
 unfold nslot
 by_cases hb:byT w=true
 ·rw [if_pos hb]at h⊢
  rw [if_pos hb]at h
  rw [if_pos hb]
  rw [if_neg (by simp)]
  refine wpAny_bind ?_
  unfold setWalk setsByText
  refine wpAny_bind ((wpAny_setState_of ho hd hf ?_));dsimp only
  refine wpAny_bind (wpAny_bind (wpAny_askSetting (wpAny_pure ?_)))
  show wpAny _ _ (if byT w=true then _ else _) _ _ _
  rw [if_pos hb]
  refine wpAny_bind (wpAny_askSetting (wpAny_pure ?_))
  refine wpAny_pure ?_
  rw [List.getElem?_map,Array.getElem?_toList,Option.map_map]at h
  exact h
 ·rw [if_neg hb]at h⊢
  rw [if_neg hb]at h
  rw [if_neg hb]
  have hb':byT w=false:=by simpa using hb
  show wpAny _ _ (if (!true&&decide ((xs.map ent).toArray.size>1))=true then _ else _) _ _ _
  rw [if_neg (by simp)]
  show wpAny _ _ ((if (!(!byT w)&& !(xs.map ent).toArray.isEmpty)=true then unsupported "set:maker-not-led" else pure ())>>=_) _ _ _
  rw [hb',if_neg (by simp)]
  refine wpAny_bind (wpAny_pure (wpAny_pure ?_))
  show Q (match (xs.map ent).toArray[SetTable.below pl.toArray (slot pl i)]?,pl.toArray[SetTable.below pl.toArray (slot pl i)]? with|some (_,x),some j=>some (x,j+1)|_,_=>none) s
  rw [B0v ok.up i (by omega)]
  rw [List.getElem?_map,Array.getElem?_toList]at h
  by_cases hl:i<xs.length
  ·have hl2:i<pl.length:=by omega
   have e1:(xs.map ent).toArray[i]?=some (ent xs[i]):=by simp [hl]
   have e2:pl.toArray[i]?=some pl[i]:=by simp [hl2]
   rw [e1]at h⊢
   rw [e2]
   have e3:slot pl (i+1)=pl[i]+1:=by unfold slot;rw [if_neg (by omega)];simp [hl2]
   rw [e3]at h
   exact h
  ·have e1:(xs.map ent).toArray[i]?=none:=by simp;omega
   rw [e1]at h⊢
   exact h
end
abbrev iN (h:Heap)(I a:Addr)(sl i n ep:Nat):Prop:=h.get? I=some {cls:=.type "set_iterator",dict:=none,data:=.fields #[.int sl 0,.int i 0,.ref a,.int n 0,.int ep 0],slots:=#[]}
theorem slot_next:Slot "set_iterator" "__next__" "set_iterator.__next__":=.of (owner:="set_iterator") (n:="__next__") (by rw [typeLookup_type,builtinLookup_eq_fast];kernel_rfl) (by decide +kernel) (by decide +kernel) (by decide +kernel) (by first|exact .inl (by decide +kernel)|exact .inr (by decide +kernel)) (by rw [isSubtype_type];kernel_rfl)
theorem mZ:Slot "set_iterator" "__iter__" "set_iterator.__iter__":=.of (owner:="set_iterator") (n:="__iter__") (by rw [typeLookup_type,builtinLookup_eq_fast];kernel_rfl) (by decide +kernel) (by decide +kernel) (by decide +kernel) (by first|exact .inl (by decide +kernel)|exact .inr (by decide +kernel)) (by rw [isSubtype_type];kernel_rfl)
theorem oH:entryFor table "set_iterator.__next__" =some Builtin.«set_iterator.__next__»:=entryFor_of_tree (by kernel_rfl)
theorem vM:entryFor table "set_iterator.__iter__" =some Builtin.«dict_keyiterator.__iter__»:=entryFor_alias (id':="dict_keyiterator.__iter__") (by kernel_rfl) rfl (by decide +kernel) (by kernel_rfl)
theorem tP:entryFor table "set.__iter__" =some Builtin.«frozenset.__iter__»:=entryFor_alias (id':="frozenset.__iter__") (by kernel_rfl) rfl (by decide +kernel) (by kernel_rfl)
theorem mB (a:Value):argsOk "set_iterator.__next__" ⟨[a],[]⟩:=by unfold argsOk;kernel_rfl
theorem uF (a:Value):argsOk "set_iterator.__iter__" ⟨[a],[]⟩:=by unfold argsOk;kernel_rfl
theorem jK (w:World)(a:Addr)(xs:List (List Int×Addr))(ep:Nat):(ord w a xs ep).length=xs.length:=by rw [(nS w a xs ep).length_eq,List.length_map]
section
variable {prog:Program}{w:World}{A:Around}{E:Value->Shared->Prop}{s:Shared}
theorem A6z {a:Addr}{xs:List (List Int×Addr)}{ep mask moves:Nat}{pl:List Nat}{Q:Value->Shared->Prop}(ho:s.heap.get? a=some (bM xs ep mask moves (!byT w) pl))(ok:Ok mask pl (cM xs))
  (h:Q (.ref s.heap.objs.size) {s with heap:=s.heap.push {cls:=.type "set_iterator",data:=.fields #[.int 0 0,.int 0 0,.ref a,.int xs.length 0,.int ep 0]}}):wpAny (model prog w) A (pyIter (.ref a)) Q E s:=by
 have hd:(bM xs ep mask moves (!byT w) pl).data= .set (xs.map ent).toArray ep (tb mask moves (!byT w) pl):=rfl
 have hf:=lG (moves:=moves) (led:=!byT w) ok
 have hT:s.TypeIs (.ref a) "set":=⟨_,ho,rfl⟩
 refine wpAny_pyIter_slot hT PySem.F.slot_set_iter (wpAny_call_entry PySem.F.slot_set_iter hT tP ?_ (PySem.F.args_set_iter_1 _))
 unfold Builtin.«frozenset.__iter__»
 refine wpAny_bind (wpAny_pure ?_)
 unfold Builtin.Frozenset.sizeOf
 refine wpAny_bind (wpAny_bind (wpAny_setEntries_of ho hd hf (wpAny_pure ?_)))
 refine wpAny_bind ?_
 unfold setDrawn setsByText
 refine wpAny_bind (wpAny_setState_of ho hd hf ?_);dsimp only
 refine wpAny_bind (wpAny_bind (wpAny_askSetting (wpAny_pure ?_)))
 refine wpAny_pure ?_
 show wpAny _ _ (if (!byT w&&(!true&&decide ((xs.map ent).toArray.size>1)))=true then _ else _) _ _ _
 rw [if_neg (by simp)]
 refine wpAny_bind (wpAny_pure ?_)
 unfold setEpoch
 refine wpAny_bind (wpAny_bind (wpAny_setState_of ho hd hf (wpAny_pure ?_)))
 unfold newFields
 refine wpAny_bind (wpAny_newObj_type (wpAny_pure ⟨_,rfl,"set_iterator",_,⟨_,Heap.get?_push_size _ rfl,rfl⟩,slot_next.lookup,?_⟩) (by simp [sizeOk,sizeLine_eq]))
 rw [show(xs.map ent).toArray.size=xs.length by rw [List.size_toArray,List.length_map]]
 exact h
theorem A89 (hh:A.handled=none)(I a:Addr)(hne:a≠I){xs:List (List Int×Addr)}{ep mask moves:Nat}{pl:List Nat}(ok:Ok mask pl (cM xs)):
  Walks prog w A I [I,a] [I] xs.length (fun i v=>(ord w a xs ep)[i]?=some v) (fun i h=>iN h I a (nslot w pl i) i xs.length ep/\h.get? a=some (bM xs ep mask moves (!byT w) pl))where
 sub:=fun b hb=>by simp at hb;simp [hb]
 frame:=fun _ _ _ st hk=> ⟨hk I (by simp) _ st.1,hk a (by simp) _ st.2⟩
 item:=fun i s Q E hi st hQ=>by
  obtain⟨hit,ho⟩:=st
  have hd:(bM xs ep mask moves (!byT w) pl).data= .set (xs.map ent).toArray ep (tb mask moves (!byT w) pl):=rfl
  have hf:=lG (moves:=moves) (led:=!byT w) ok
  have hT:s.TypeIs (.ref I) "set_iterator":=⟨_,hit,rfl⟩
  have hlt:i<(ord w a xs ep).length:=by rw [jK];exact hi
  unfold pyNext
  refine wpAny_bind (wpAny_attempt (wpAny_callSpecial?_slot (name:=Str.ofString "__next__") hT slot_next (wpAny_call_entry slot_next hT oH ?_ (mB _))))
  unfold Builtin.«set_iterator.__next__»
  refine wpAny_bind (wpAny_pure ?_)
  refine wpAny_bind (wpAny_fieldsOf hit rfl ?_)
  refine wpAny_bind (wpAny_setEntries_of ho hd hf ?_)
  rw [if_neg (by rw [List.size_toArray,List.length_map];simp)]
  refine wpAny_bind (A0j (i:=i) (ep:=ep) ho ok (Nat.le_of_lt hi) ?_)
  rw [List.getElem?_eq_getElem hlt]
  refine wpAny_bind (wpAny_setField_rec hit (by simp) fun h1 g1 s1=> ?_)
  refine wpAny_bind (wpAny_setField_rec g1 (by simp) fun h2 g2 s2=> ?_)
  refine wpAny_pure ⟨_,rfl,wpAny_pure ?_⟩
  refine hQ _ h2 s.toks (List.getElem?_eq_getElem hlt) ⟨?_,?_⟩ fun b o hb e=> ?_
  ·have e:((i+1:Nat):Int)=(i:Int)+1:=by omega
   unfold iN;rw [e];simpa [rawInt]using g2
  ·exact(s2.2 a hne).trans ((s1.2 a hne).trans ho)
  ·have:b≠I:=fun z=>hb (by simp [z])
   exact(s2.2 b this).trans ((s1.2 b this).trans e)
 done:=fun s Q E st hQ=>by
  obtain⟨hit,ho⟩:=st
  have hd:(bM xs ep mask moves (!byT w) pl).data= .set (xs.map ent).toArray ep (tb mask moves (!byT w) pl):=rfl
  have hf:=lG (moves:=moves) (led:=!byT w) ok
  have hT:s.TypeIs (.ref I) "set_iterator":=⟨_,hit,rfl⟩
  unfold pyNext
  refine wpAny_bind (wpAny_attempt (wpAny_callSpecial?_slot (name:=Str.ofString "__next__") hT slot_next (wpAny_call_entry slot_next hT oH ?_ (mB _))))
  unfold Builtin.«set_iterator.__next__»
  refine wpAny_bind (wpAny_pure ?_)
  refine wpAny_bind (wpAny_fieldsOf hit rfl ?_)
  refine wpAny_bind (wpAny_setEntries_of ho hd hf ?_)
  rw [if_neg (by rw [List.size_toArray,List.length_map];simp)]
  refine wpAny_bind (A0j (i:=xs.length) (ep:=ep) ho ok (Nat.le_refl _) ?_)
  rw [List.getElem?_eq_none (by rw [jK];exact Nat.le_refl _)]
  refine wpAny_bind (wpAny_setField hit rfl (by simp) ?_)
  show wpAny _ _ (newExc (.type "StopIteration") []>>=_) _ _ _;refine wpAny_bind ?_;simp only [newExc,newTuple]
  refine wpAny_bind (wpAny_newObj_type ?_ (by size_fits));refine wpAny_bind (m:=firstArgMember _ _) (wpAny_of_eq (a:=Value.none) (by first|rfl| (simp only [firstArgMember];rfl)) ?_)
  refine wpAny_newObj_type ?_ (by size_fits);simp only [raiseNew];refine wpAny_bind (wpAny_handled ?_);rw [show A.in1.handled=none from hh]
  refine wpAny_bind (wpAny_pure (wpAny_throw ?_));refine wpAny_bind (wpAny_isInstance (T:="StopIteration") (b:=true) ⟨_,Heap.get?_push_size _ rfl,rfl⟩ isSubtype_stop ?_)
  have go:∀h':Heap,Heap.ExtBut I s.heap h'->Q none {s with heap:=h',toks:=s.toks}:=fun h' hx=>hQ h' s.toks fun b o hb e=>hx b o (fun z=>hb (by simp [z])) e
  exact wpAny_pure (go _ (((Heap.SameBut.update ..).extBut.push _).push _))
 self:=fun i s Q E st hQ=>by
  have hT:s.TypeIs (.ref I) "set_iterator":=⟨_,st.1,rfl⟩
  refine wpAny_pyIter_slot hT mZ (wpAny_call_entry mZ hT vM ?_ (uF _))
  show wpAny _ _ (ret (.ref I)) _ _ s
  exact wpAny_pure ⟨_,rfl,"set_iterator",_,hT,slot_next.lookup,hQ⟩
end
section
variable {prog:Program}{w:World}{A:Around}{E:Value->Shared->Prop}{s:Shared}
theorem A28 {a:Addr}{Q:Bool->Shared->Prop}(hT:s.TypeIs (.ref a) "set")(h:Q false s):wpAny (model prog w) A (Builtin.List.listLengthHint (.ref a)) Q E s:=by
 unfold Builtin.List.listLengthHint
 refine wpAny_bind (wpAny_specialOf hT PySem.F.slot_set_len.lookup ?_)
 show wpAny _ _ (do if !(←isInstance (.ref a) (.type "set"))then unsupported _ else pure ()
                    let .ref _←typeOf (.ref a)|return false
                    _) _ _ _
 refine wpAny_bind (wpAny_isInstance hT sub_set_self ?_)
 simp only [Bool.not_true,Bool.false_eq_true,if_false]
 refine wpAny_bind (wpAny_typeOf hT ?_)
 exact wpAny_pure h
theorem B1l {a:Addr}{xs:List (List Int×Addr)}{ep mask moves:Nat}{pl:List Nat}{Q:List Value->Shared->Prop}(hh:A.handled=none)(ho:s.heap.get? a=some (bM xs ep mask moves (!byT w) pl))(ok:Ok mask pl (cM xs))(h18:xs.length<=1000)
  (h:∀h1 tk,(∀b o,s.heap.get? b=some o->h1.get? b=some o)->s.heap.objs.size<=h1.objs.size->Q (ord w a xs ep) {s with heap:=h1,toks:=tk}):wpAny (model prog w) A (collect (.ref a)) Q E s:=by
 have la:a<s.heap.objs.size:=Heap.lt_size ho
 unfold collect
 refine wpAny_bind (wpAny_runValue (codeAny_builtin PySem.F.entry_proto_collect ?_))
 rw [Around.under_plainId PySem.F.plain_proto_collect _]
 show wpAny _ A.in1 (newList []>>=fun l=>again (.builtin "list.__iadd__" ⟨[l,.ref a],[]⟩)) _ _ s
 refine wpAny_bind (wpAny_newObj_type (wpAny_pure ⟨plainId_quiet PySem.F.plain_list_iadd _,codeAny_builtin PySem.F.entry_list_iadd ?_⟩))
 rw [Around.under_plainId PySem.F.plain_list_iadd _]
 generalize hg1:s.heap.push {cls:=.type "list",data:=.seq ([]:List Value).toArray}=g1
 have k1:∀b o,s.heap.get? b=some o->g1.get? b=some o:=fun b o e=>by rw [←hg1];exact Heap.get?_push_of_some _ e
 have l1:g1.get? s.heap.objs.size=some {cls:=.type "list",data:=.seq #[]}:=by rw [←hg1];exact Heap.get?_push_size _ rfl
 have z1:g1.objs.size=s.heap.objs.size+1:=by rw [←hg1,Heap.size_push]
 have o1:=k1 _ _ ho
 have hT1:Shared.TypeIs {s with heap:=g1} (.ref a) "set":=⟨_,o1,rfl⟩
 have neA:s.heap.objs.size≠a:=Nat.ne_of_gt la
 show wpAny _ A.in1 (Builtin.List.listExtendWith (.ref s.heap.objs.size) (.ref a) (.ref s.heap.objs.size)) _ _ {s with heap:=g1}
 unfold Builtin.List.listExtendWith
 refine wpAny_bind (wpAny_typeOf hT1 ?_)
 have e1:Builtin.List.listSameRef (.ref s.heap.objs.size) (.ref a)=false:=by simp [Builtin.List.listSameRef,neA]
 have e2:(Value.type "set" ==Value.type "list")=false:=by decide
 have e3:(Value.type "set" ==Value.type "tuple")=false:=by decide
 simp only [e1,e2,e3,Bool.or_false,Bool.false_eq_true,if_false]
 refine wpAny_bind (A6z (s:={s with heap:=g1}) o1 ok ?_)
 generalize hg2:g1.push {cls:=.type "set_iterator",data:=.fields #[.int 0 0,.int 0 0,.ref a,.int xs.length 0,.int ep 0]}=g2
 have k2:∀b o,g1.get? b=some o->g2.get? b=some o:=fun b o e=>by rw [←hg2];exact Heap.get?_push_of_some _ e
 have i2:iN g2 g1.objs.size a 0 0 xs.length ep:=by rw [←hg2];exact Heap.get?_push_size _ rfl
 have z2:g2.objs.size=g1.objs.size+1:=by rw [←hg2,Heap.size_push]
 have o2:=k2 _ _ o1
 refine wpAny_bind (wpAny_holding (A28 (s:={s with heap:=g2}) ⟨_,o2,rfl⟩ ?_))
 show wpAny _ A.in1 (rule "list.extend.makes-room" >>=fun _=>Builtin.List.listTouch (.ref s.heap.objs.size)>>=fun _=>again (.builtin "list.extend.loop" ⟨[.ref s.heap.objs.size,.ref g1.objs.size,.ref s.heap.objs.size],[]⟩)) _ _ {s with heap:=g2}
 refine wpAny_bind (wpAny_rule ?_)
 have l2:=k2 _ _ l1
 refine wpAny_bind ?_
 show wpAny _ A.in1 (updateSeq s.heap.objs.size (·.push .none)>>=fun _=>updateSeq s.heap.objs.size (·.pop)) _ _ {s with heap:=g2}
 refine wpAny_bind (wpAny_updateSeq l2 rfl ?_)
 have l3:=Heap.get?_update_self (Obj.mapSeq (·.push Value.none)) l2 rfl
 refine wpAny_updateSeq l3 rfl ?_
 have l4:=Heap.get?_update_self (Obj.mapSeq (·.pop)) l3 rfl
 have k4:∀b o,b≠s.heap.objs.size->g2.get? b=some o->((g2.update s.heap.objs.size (Obj.mapSeq (·.push Value.none))).update s.heap.objs.size (Obj.mapSeq (·.pop))).get? b=some o:=
  fun b o hb e=>(Heap.get?_update_other _ _ (Ne.symm hb)).trans ((Heap.get?_update_other _ _ (Ne.symm hb)).trans e)
 have z4:((g2.update s.heap.objs.size (Obj.mapSeq (·.push Value.none))).update s.heap.objs.size (Obj.mapSeq (·.pop))).objs.size=s.heap.objs.size+2:=by rw [Heap.size_update,Heap.size_update,z2,z1]
 generalize (g2.update s.heap.objs.size (Obj.mapSeq (·.push Value.none))).update s.heap.objs.size (Obj.mapSeq (·.pop))=g4 at l4 k4 z4
 have neI:a≠g1.objs.size:=by rw [z1];exact Nat.ne_of_lt (Nat.lt_succ_of_lt la)
 have neS:s.heap.objs.size∉[g1.objs.size,a]:=by
  rw [z1];intro hm
  rcases List.mem_cons.mp hm with e|e
  ·exact absurd e (Nat.ne_of_lt (Nat.lt_succ_self _))
  ·exact neA (List.mem_singleton.mp e)
 have hh2:A.in1.handled=none:=by simp [hh]
 have i4:iN g4 g1.objs.size a (nslot w pl 0) 0 xs.length ep:=by
  have:=k4 _ _ (by rw [z1];exact Nat.ne_of_gt (Nat.lt_succ_self _)) i2
  have e:nslot w pl 0=0:=by unfold nslot slot;split<;>rfl
  rw [e];exact this
 refine wpAny_pure ⟨plainId_quiet PySem.F.plain_extend_loop _,codeAny_extend_loopS ((A89 (prog:=prog) (w:=w) hh2 g1.objs.size a neI (ep:=ep) (moves:=moves) ok).toS) (by rw [sizeLine_eq];omega) s.heap.objs.size neS _ xs.length 0 {s with heap:=g4} _ _ rfl (Nat.zero_le _)
  ⟨i4,k4 _ _ neA.symm o2⟩ l4 (ItemsOf.nil _) fun s' acc' c' hm hS' hacc=> ?_⟩
 show wpAny _ A (load s.heap.objs.size>>=_) _ _ s'
 refine wpAny_bind (wpAny_load hS' ?_)
 have eacc:acc'.toList=ord w a xs ep:=by
  refine List.ext_getElem? fun j=> ?_
  rw [Array.getElem?_toList]
  by_cases hj:j<acc'.size
  ·rw [Array.getElem?_eq_getElem hj]
   exact(hacc.2 j acc'[j] (Array.getElem?_eq_getElem hj)).symm
  ·rw [Array.getElem?_eq_none (by omega),List.getElem?_eq_none (by rw [jK,←hacc.1];omega)]
 obtain⟨h',g',d',tk',os'⟩:=s'
 have eg:g'=s.gens:=hm.gens
 have ed:d'=s.drawn:=hm.drawn
 have eo:os'=s.os:=hm.os
 subst eg;subst ed;subst eo
 refine wpAny_pure ?_
 show Q acc'.toList _
 rw [eacc]
 have kk:∀b o,s.heap.get? b=some o->h'.get? b=some o:=fun b o e=>by
  have hb:=Heap.lt_size e
  refine hm.heap b o (fun hmm=> ?_) (k4 b o (Nat.ne_of_lt hb) (k2 _ _ (k1 _ _ e)))
  rcases List.mem_cons.mp hmm with z|z
  ·exact Nat.ne_of_lt hb z
  ·rw [z1]at z
   exact Nat.ne_of_lt (Nat.lt_succ_of_lt hb) (List.mem_singleton.mp z)
 exact h h' tk' kk (Nat.le_of_lt (Heap.lt_size hS'))
end
end Stb
namespace Stb
theorem A6y {α β:Type}(f:α->β){l l':List β}(p:l.Perm l'):∀m:List α,l'=m.map f->∃m':List α,l=m'.map f/\m'.Perm m:=by
 induction p with
 |nil=>intro m e;exact⟨[],rfl,by cases m with|nil=>exact .refl _|cons _ _=>cases e⟩
 |cons x _ ih=>
  intro m e
  cases m with
  |nil=>cases e
  |cons y m=>
   rw [List.map_cons,List.cons.injEq]at e
   obtain⟨m',e1,e2⟩:=ih m e.2
   exact⟨y::m',by rw [List.map_cons,e1,e.1],e2.cons y⟩
 |swap x y l=>
  intro m e
  match m,e with
  |a::b::m,e=>
   simp only [List.map_cons,List.cons.injEq]at e
   exact⟨b::a::m,by simp [e],.swap a b m⟩
  | [a],e=>simp at e
  | [],e=>cases e
 |trans _ _ ih1 ih2=>
  intro m e
  obtain⟨m1,e1,p1⟩:=ih2 m e
  obtain⟨m2,e2,p2⟩:=ih1 m1 e1
  exact⟨m2,e2,p2.trans p1⟩
end Stb
namespace L2
open PySem PySem.Spec PyProof.Rows Srt Stb
def iT (w:World)(a:Addr)(xs:List (List Int×Addr)):HO:=.ext fun h=>IsSt h a xs (!byT w)
structure Ded (zs:List (Addr×List Int))(xs:List (List Int×Addr)):Prop where
 nd:(xs.map (·.1)).Nodup
 of:∀x∈xs,(x.2,x.1)∈zs
 all:∀z∈zs,z.2∈xs.map (·.1)
theorem A0d {P:Program}{w:World}:∀{ks:List Int}{us:List Value},Vals (ks.map V.int) us->ItemsAre (intKind P w) ks us
 | [],_,.nil=> .nil
 |k::ks,_,.cons r t=>by
  obtain⟨t',rfl⟩:=r
  exact .cons (intKind_is _ _ _ _) (A0d t)
section
variable {X:Cx}
theorem A6n {pins:List (Addr×Obj)}{σ:St}{H:Hp}{s:Shared}{a:Addr}{ks:List Int}(I:Inv X pins σ H s)(h:H a=some (.tup (ks.map V.int))):KAt X.prog X.w s.heap ks a:=by
 obtain⟨_,its,rv,o,ho,hc,n,hd⟩:=(show ObjOk X.prog X.w H s.heap a (.tup _)from I.hok _ _ h)
 exact⟨o,its.toArray,n,ho,hc,hd,A0d rv⟩
theorem A8r (hc:X.calm=true)(hu:X.A.units+8<cLine):dX X (.type "set") (fun as H Q=> ∃(p:Addr)(zs:List (Addr×List Int)),as=[.ref p]/\SqL X.K H p (zs.map fun z=>V.ref z.1)/\(∀z∈zs,H z.1=some (.tup (z.2.map V.int)))/\zs.length<=18/\
  ∀l xs,H l=none->Ded zs xs->Q (.ref l) (upd H l (iT X.w l xs))):=by
 intro pins s σ H as us Q I r h
 obtain⟨p,zs,rfl,hq,hz,h18,q⟩:=h
 obtain⟨u,rfl,rx⟩:=eT r
 cases rx
 obtain⟨its,rv,pl,_⟩:=I.list hq
 have hits:its=zs.map fun z=>Value.ref z.1:=by
  have:=pG (as:=zs.map (·.1)) (us:=its) (by rw [List.map_map];exact rv)
  rw [this,List.map_map];rfl
 subst hits
 have sz:(zs.map fun z=>Value.ref z.1).toArray.size=zs.length:=by simp
 have gd:∀i (hi:i<zs.length),((zs.getD i (0,[])).2,(zs.getD i (0,[])).1)=(zs[i].2,zs[i].1):=fun i hi=>by simp [hi]
 refine A6p (val:=fun i=>((zs.getD i (0,[])).2,(zs.getD i (0,[])).1)) hu (I.ok.hd hc) pl.isList (fun i v e=> ?_) (fun i hi=> ?_) (by rw [sz];exact h18) fun h' tk xs hS hA hk=> ?_
 ·have e':(zs.map fun z=>Value.ref z.1)[i]?=some v:=by simpa using e
  rw [List.getElem?_map]at e'
  cases z:zs[i]? with
  |none=>rw [z]at e';cases e'
  |some y=>
   rw [z]at e';cases e'
   show Value.ref y.1=Value.ref (zs.getD i (0,[])).1
   rw [List.getD_eq_getElem?_getD,z];rfl
 ·rw [sz]at hi
  show KAt X.prog X.w s.heap (zs.getD i (0,[])).2 (zs.getD i (0,[])).1
  rw [show zs.getD i (0,[])=zs[i] by simp [hi]]
  exact A6n I (hz _ (List.getElem_mem hi))
 ·rw [sz]at hA
  obtain⟨ep,mask,moves,pl',ho,_⟩:=id hS
  refine⟨.ref s.heap.objs.size,_,I.laid (t':=tk) (fun b o q=>hk b o (Heap.lt_size q) q) (Nat.le_refl _) (o:=iT X.w _ xs) ⟨hS,⟨_,ho⟩,fun h1 h2 x e=>x.at e⟩,rfl,q _ xs (I.hok.fresh (Nat.le_refl _)) ⟨hA.nd,fun x hx=> ?_,fun z hz'=> ?_⟩⟩
  ·obtain⟨j,hj,e⟩:=hA.of x hx
   rw [←e]
   show(((zs.getD j (0,[])).1,(zs.getD j (0,[])).2):Addr×List Int)∈zs
   rw [show zs.getD j (0,[])=zs[j] by simp [hj]]
   exact List.getElem_mem hj
  ·obtain⟨j,hj,e⟩:=List.getElem_of_mem hz'
   have:=hA.all j hj
   rw [gd j hj,e]at this
   exact this
theorem A5x (hc:X.calm=true):dX X (.builtin "sorted") (fun as H Q=> ∃(p:Addr)(xs:List (List Int×Addr)),as=[.ref p]/\H p=some (iT X.w p xs)/\(∀x∈xs,H x.2=some (.tup (x.1.map V.int))/\x.1≠[])/\xs.length<64/\
  ∀l zs',H l=none->kF (xs.map fun x=>(x.2,x.1)) zs'->Q (.ref l) (upd H l (.lst (zs'.map fun z=>V.ref z.1)))):=by
 intro pins s σ H as us Q I r h
 obtain⟨p,xs,rfl,hp,hx,h64,q⟩:=h
 obtain⟨u,rfl,rx⟩:=eT r
 cases rx
 obtain⟨⟨ep,mask,moves,pl,ho,ok⟩,_,_⟩:=(show ObjOk X.prog X.w H s.heap p (iT X.w p xs)from I.hok _ _ hp)
 have e0:(xs.map fun x=>Value.ref x.2)=(xs.map fun x=>(x.2,x.1)).map fun z:Addr×List Int=>Value.ref z.1:=by rw [List.map_map];rfl
 obtain⟨zs,e1,p1⟩:=A6y (fun z:Addr×List Int=>Value.ref z.1) (nS X.w p xs ep) _ e0
 have hlen:zs.length=xs.length:=by rw [p1.length_eq,List.length_map]
 refine tM (zs:=zs) I (fun z hz=> ?_) (by omega) (fun Q' k=> ?_) fun l zs' hl hs=>q l zs' hl ⟨hs.1.trans p1,hs.2⟩
 ·obtain⟨x,hx',e⟩:=List.mem_map.mp (p1.mem_iff.mp hz)
  rw [←e];exact hx x hx'
 ·refine B1l (by simp [I.ok.hd hc]) ho ok (by omega) fun h1 tk k1 z1=> ?_
  rw [e1];exact k h1 tk k1 z1
end
def upL (ks:List (List Int)):Bool:=decide (ks.Pairwise fun a b=>HT.lexLt a b=true)
theorem A34 {ks rs:List (List Int)}(hk:ks.Pairwise fun a b=>HT.lexLt a b=true)(hr:rs.Pairwise fun a b=>HT.lexLt a b=true)(hm:∀k,k∈ks↔k∈rs):ks=rs:=by
 induction ks generalizing rs with
 |nil=>
  cases rs with
  |nil=>rfl
  |cons r rs=>exact absurd ((hm r).mpr List.mem_cons_self) (by simp)
 |cons k ks ih=>
  cases rs with
  |nil=>exact absurd ((hm k).mp List.mem_cons_self) (by simp)
  |cons r rs=>
   rw [List.pairwise_cons]at hk hr
   have e:k=r:=by
    rcases List.mem_cons.mp ((hm k).mp List.mem_cons_self)with e|h1
    ·exact e
    ·rcases List.mem_cons.mp ((hm r).mpr List.mem_cons_self)with e|h2
     ·exact e.symm
     ·have a:=hr.1 k h1
      have b:=hk.1 r h2
      have:=oJ a b
      rw [mD]at this;cases this
   subst e
   rw [ih hk.2 hr.2 fun x=> ?_]
   have nk:∀x,x∈ks->x≠k:=fun x hx z=>by subst z;have:=hk.1 x hx;rw [mD]at this;cases this
   have nr:∀x,x∈rs->x≠k:=fun x hx z=>by subst z;have:=hr.1 x hx;rw [mD]at this;cases this
   constructor
   ·intro hx
    rcases List.mem_cons.mp ((hm x).mp (List.mem_cons_of_mem _ hx))with z|z
    ·exact absurd z (nk x hx)
    ·exact z
   ·intro hx
    rcases List.mem_cons.mp ((hm x).mpr (List.mem_cons_of_mem _ hx))with z|z
    ·exact absurd z (nr x hx)
    ·exact z
theorem A25 {zs zs':List (Addr×List Int)}{xs:List (List Int×Addr)}(d:Ded zs xs)(s:kF (xs.map fun x=>(x.2,x.1)) zs'):decide (zs.map (·.2)=zs'.map (·.2))=upL (zs.map (·.2)):=by
 have pm:(zs'.map (·.2)).Perm (xs.map (·.1)):=by
  have:=s.1.map (·.2)
  rw [List.map_map]at this
  exact this
 have nd:(zs'.map (·.2)).Nodup:=pm.nodup_iff.mpr d.nd
 have hr:(zs'.map (·.2)).Pairwise fun a b=>HT.lexLt a b=true:=by
  rw [List.pairwise_map]
  have n2:zs'.Pairwise fun a b=>a.2≠b.2:=List.pairwise_map.mp nd
  refine(s.2.and n2).imp fun{a b} h=> ?_
  cases z:HT.lexLt a.2 b.2 with
  |true=>rfl
  |false=>exact absurd (vR z h.1) h.2
 unfold upL
 rw [decide_eq_decide]
 constructor
 ·intro e;rw [e];exact hr
 ·intro hk
  refine A34 hk hr fun k=> ?_
  rw [pm.mem_iff]
  constructor
  ·intro h
   obtain⟨z,hz,rfl⟩:=List.mem_map.mp h
   exact d.all z hz
  ·intro h
   obtain⟨x,hx,rfl⟩:=List.mem_map.mp h
   exact List.mem_map.mpr ⟨_,d.of x hx,rfl⟩
theorem A07:∀ks:List (List Int),((ks.zip (ks.drop 1)).map fun p=>HT.lexLt p.1 p.2).all id=upL ks
 | []=>rfl
 | [k]=>by simp [upL]
 |a::b::ks=>by
  have ih:=A07 (b::ks)
  have e:((a::b::ks).zip ((a::b::ks).drop 1)).map (fun p=>HT.lexLt p.1 p.2)=HT.lexLt a b::((b::ks).zip ((b::ks).drop 1)).map fun p=>HT.lexLt p.1 p.2:=rfl
  rw [e,List.all_cons,ih]
  unfold upL
  rw [Bool.eq_iff_iff,Bool.and_eq_true,decide_eq_true_eq,decide_eq_true_eq]
  show HT.lexLt a b=true/\_↔_
  rw [List.pairwise_cons (a:=a)]
  constructor
  ·rintro⟨h1,h2⟩
   refine⟨fun x hx=> ?_,h2⟩
   rcases List.mem_cons.mp hx with rfl|hx
   ·exact h1
   ·exact oJ h1 ((List.pairwise_cons.mp h2).1 x hx)
  ·rintro⟨h1,h2⟩
   exact⟨h1 b List.mem_cons_self,h2⟩
end L2
namespace L2
open PySem PySem.Spec PyProof.Rows
def E3 (R:V->V->Bool->Prop):List V->List V->List Bool->Prop
 | [],[],[]=>True
 |x::xs,y::ys,k::ks=>R x y k/\E3 R xs ys ks
 |_,_,_=>False
def EqF (a b:V)(k:Bool):Prop:=(∃i j,a= .int i/\b= .int j/\k=decide (i=j))\/ ∃x y,a= .str x/\b= .str y/\k=decide (x=y)
def EqD (H:Hp):Nat->V->V->Bool->Prop
 |0,a,b,k=>EqF a b k
 |n+1,a,b,k=>EqF a b k\/ ∃p q xs ys ks,a= .ref p/\b= .ref q/\((H p=some (.tup xs)/\H q=some (.tup ys))\/(H p=some (.lst xs)/\H q=some (.lst ys)))/\E3 (EqD H n) xs ys ks/\k=ks.all id
theorem E3.len {R:V->V->Bool->Prop}:∀{xs ys:List V}{ks:List Bool},E3 R xs ys ks->xs.length=ys.length/\xs.length=ks.length
 | [],[],[],_=> ⟨rfl,rfl⟩
 |x::xs,y::ys,k::ks,h=>by
  have:=E3.len h.2
  simp only [List.length_cons];omega
 | [],[],_::_,h=>h.elim
 | [],_::_,_,h=>h.elim
 |_::_,[],_,h=>h.elim
 |_::_,_::_,[],h=>h.elim
theorem E3.get {R:V->V->Bool->Prop}:∀{xs ys:List V}{ks:List Bool}{i:Nat}{x y:V},E3 R xs ys ks->xs[i]?=some x->ys[i]?=some y->∃k,ks[i]?=some k/\R x y k
 |x::xs,y::ys,k::ks,0,_,_,h,h1,h2=>by cases h1;cases h2;exact⟨k,rfl,h.1⟩
 |x::xs,y::ys,k::ks,i+1,_,_,h,h1,h2=>E3.get (i:=i) h.2 (by simpa using h1) (by simpa using h2)
 | [],_,_,_,_,_,_,h1,_=>by simp at h1
 |_::_,[],_,_,_,_,h,_,_=>h.elim
 |_::_,_::_,[],_,_,_,h,_,_=>h.elim
theorem EqF.refl_true {a:V}{k:Bool}(h:EqF a a k):k=true:=by
 rcases h with⟨i,j,h1,h2,h3⟩| ⟨x,y,h1,h2,h3⟩
 ·rw [h1]at h2;rw [h3,V.int.inj h2];simp
 ·rw [h1]at h2;rw [h3,V.str.inj h2];simp
theorem EqD.refl_true {H:Hp}:∀{n:Nat}{a:V}{k:Bool},EqD H n a a k->k=true
 |0,a,k,h=>EqF.refl_true h
 |n+1,a,k,h=>by
  rcases h with h| ⟨p,q,xs,ys,ks,h1,h2,h3,h4,h5⟩
  ·exact EqF.refl_true h
  ·rw [h1]at h2
   cases h2
   have e:xs=ys:=by
    rcases h3 with⟨u,v⟩| ⟨u,v⟩
    ·rw [u]at v;cases v;rfl
    ·rw [u]at v;cases v;rfl
   subst e
   rw [h5,List.all_eq_true]
   have go:∀{xs:List V}{ks:List Bool},E3 (EqD H n) xs xs ks->∀k∈ks,id k=true:=fun{xs ks}=>by
    induction xs generalizing ks with
    |nil=>intro h k hk;cases ks with|nil=>cases hk|cons _ _=>exact h.elim
    |cons x xs ih=>
     intro h k hk
     cases ks with
     |nil=>cases hk
     |cons k0 ks=>
      rcases List.mem_cons.mp hk with z|z
      ·rw [z];exact EqD.refl_true h.1
      ·exact ih h.2 k z
   exact go h4
theorem EqD.int {H:Hp}(n:Nat)(i j:Int):EqD H n (.int i) (.int j) (decide (i=j)):=by
 cases n with
 |zero=>exact .inl ⟨i,j,rfl,rfl,rfl⟩
 |succ n=>exact .inl (.inl ⟨i,j,rfl,rfl,rfl⟩)
section
variable {X:Cx}{pins:List (Addr×Obj)}{σ:St}{H:Hp}{s:Shared}
theorem xV (ks:List Bool):(List.range ks.length).all (fun j=>ks.getD j true)=ks.all id:=by
 rw [Bool.eq_iff_iff,List.all_eq_true,List.all_eq_true]
 constructor
 ·intro h k hk
  obtain⟨j,hj,e⟩:=List.getElem_of_mem hk
  have:=h j (by simpa using hj)
  rw [show ks.getD j true=ks[j] by simp [hj],e]at this
  exact this
 ·intro h j hj
  have hj':j<ks.length:=by simpa using hj
  rw [show ks.getD j true=ks[j] by simp [hj']]
  exact h _ (List.getElem_mem _)
theorem rC {A:Around}{n:Nat}{xs ys:List V}{us ws:List Value}{ks:List Bool}(ih:∀{a b:V}{k:Bool}{u v:Value},EqD H n a b k->RelV a u->RelV b v->SeqAt.EqAt A s u v k)(h4:E3 (EqD H n) xs ys ks)(r1:Vals xs us)(r2:Vals ys ws):
  ∀j (h1:j<us.toArray.size)(h2:j<ws.toArray.size),SeqAt.EqAt A s us.toArray[j] ws.toArray[j] (ks.getD j true):=fun j h1 h2=>by
 have hl:=h4.len
 have l1:=r1.length
 have l2:=r2.length
 rw [List.size_toArray]at h1 h2
 have j1:j<xs.length:=by omega
 have j2:j<ys.length:=by omega
 obtain⟨u,hu,ru⟩:=r1.get (List.getElem?_eq_getElem j1)
 obtain⟨v,hv,rv⟩:=r2.get (List.getElem?_eq_getElem j2)
 obtain⟨k,hk,e⟩:=h4.get (List.getElem?_eq_getElem j1) (List.getElem?_eq_getElem j2)
 have eu:us.toArray[j]=u:=by
  have:=(List.getElem?_eq_some_iff.mp hu).2
  simpa using this
 have ev:ws.toArray[j]=v:=by
  have:=(List.getElem?_eq_some_iff.mp hv).2
  simpa using this
 rw [eu,ev,show ks.getD j true=k by rw [List.getD_eq_getElem?_getD,hk];rfl]
 exact ih e ru rv
theorem sU {A:Around}{n:Nat}{p q:Addr}{xs ys:List V}{ks:List Bool}(I:Inv X pins σ H s)(hu:A.units<cLine)(ih:∀{a b:V}{k:Bool}{u v:Value},EqD H n a b k->RelV a u->RelV b v->SeqAt.EqAt A.in1 s u v k)
  (h3:(H p=some (.tup xs)/\H q=some (.tup ys))\/(H p=some (.lst xs)/\H q=some (.lst ys)))(h4:E3 (EqD H n) xs ys ks):SeqAt.RcAt A s (.ref p) (.ref q) (ks.all id)/\SeqAt.RcNeAt A s (.ref p) (.ref q) (!ks.all id):=by
 have hl:=h4.len
 rcases h3 with⟨hp,hq⟩| ⟨hp,hq⟩
 ·obtain⟨us,r1,p1,_⟩:=I.tuple (SqT.of hp)
  obtain⟨ws,r2,p2,_⟩:=I.tuple (SqT.of hq)
  have l1:=r1.length
  have l2:=r2.length
  have e:((List.range (min us.toArray.size ws.toArray.size)).all (fun j=>ks.getD j true)&&us.toArray.size==ws.toArray.size)=ks.all id:=by
   rw [List.size_toArray,List.size_toArray,show min us.length ws.length=ks.length by omega,xV,show us.length=ws.length by omega]
   simp
  have k1:=SeqAt.RcAt.tuples p1 p2 hu (rC ih h4 r1 r2)
  have k2:=SeqAt.RcNeAt.tuples p1 p2 hu (rC ih h4 r1 r2)
  rw [e]at k1 k2
  exact⟨k1,k2⟩
 ·obtain⟨us,r1,p1,_⟩:=I.list (SqL.of hp)
  obtain⟨ws,r2,p2,_⟩:=I.list (SqL.of hq)
  have l1:=r1.length
  have l2:=r2.length
  have e:(List.range us.toArray.size).all (fun j=>ks.getD j true)=ks.all id:=by rw [List.size_toArray,show us.length=ks.length by omega,xV]
  have hz:us.toArray.size=ws.toArray.size:=by rw [List.size_toArray,List.size_toArray];omega
  have k1:=SeqAt.RcAt.lists p1.isList p2.isList hz hu (rC ih h4 r1 r2)
  have k2:=SeqAt.RcNeAt.lists p1.isList p2.isList hz hu (rC ih h4 r1 r2)
  rw [e]at k1 k2
  exact⟨k1,k2⟩
theorem sV (I:Inv X pins σ H s):∀{n:Nat}{A:Around}{a b:V}{k:Bool}{u v:Value},A.units+n<cLine->EqD H n a b k->RelV a u->RelV b v->SeqAt.EqAt A s u v k:=by
 have flat:∀{A:Around}{a b:V}{k:Bool}{u v:Value},EqF a b k->RelV a u->RelV b v->SeqAt.EqAt A s u v k:=fun{A a b k u v} h ra rb=>by
  rcases h with⟨i,j,rfl,rfl,rfl⟩| ⟨x,y,rfl,rfl,rfl⟩
  ·obtain⟨t,rfl⟩:=ra
   obtain⟨t',rfl⟩:=rb
   have:=SeqAt.EqAt.int_int (A:=A) (s:=s) i t j t'
   rwa [show(i==j)=decide (i=j) by rw [Bool.eq_iff_iff];simp]at this
  ·obtain⟨t,rfl⟩:=ra
   obtain⟨t',rfl⟩:=rb
   have:=SeqAt.EqAt.str_str (A:=A) (s:=s) x t y t'
   rwa [show(x==y)=decide (x=y) by rw [Bool.eq_iff_iff];simp]at this
 intro n
 induction n with
 |zero=>intro A a b k u v _ h ra rb;exact flat h ra rb
 |succ n ih=>
  intro A a b k u v hu h ra rb
  rcases h with h| ⟨p,q,xs,ys,ks,rfl,rfl,h3,h4,rfl⟩
  ·exact flat h ra rb
  ·cases ra
   cases rb
   by_cases hpq:p=q
   ·subst hpq
    have:(ks.all id)=true:=EqD.refl_true (n:=n+1) (H:=H) (a:=.ref p) (.inr ⟨p,p,xs,ys,ks,rfl,rfl,h3,h4,rfl⟩)
    rw [this]
    exact SeqAt.EqAt.same _
   ·exact SeqAt.EqAt.of_refs hpq (sU I (by omega) (fun e r1 r2=>ih (show A.in1.units+n<cLine by show A.units+1+n<cLine;omega) e r1 r2) h3 h4).1
end
section
variable {X:Cx}
def wU (n:Nat)(g:Bool->Bool):R2:=fun x y H Q=> ∃p q xs ys ks,x= .ref p/\y= .ref q/\((H p=some (.tup xs)/\H q=some (.tup ys))\/(H p=some (.lst xs)/\H q=some (.lst ys)))/\E3 (EqD H n) xs ys ks/\Q (.bl (g (ks.all id))) H
theorem zF (n:Nat)(hu:X.A.units+n+1<cLine):OpR X (compareOp .Eq) (wU n id):=by
 intro pins s σ H x y v u Q I rx ry h
 obtain⟨p,q,xs,ys,ks,rfl,rfl,h3,h4,hq⟩:=h
 cases rx
 cases ry
 exact(sU I (by omega) (fun e r1 r2=>sV I (show X.A.in1.units+n<cLine by show X.A.units+1+n<cLine;omega) e r1 r2) h3 h4).1 X.prog X.w X.xe _ ⟨.bl _,H,I,rfl,hq⟩
theorem sZ (n:Nat)(hu:X.A.units+n+1<cLine):OpR X (compareOp .NotEq) (wU n not):=by
 intro pins s σ H x y v u Q I rx ry h
 obtain⟨p,q,xs,ys,ks,rfl,rfl,h3,h4,hq⟩:=h
 cases rx
 cases ry
 exact(sU I (by omega) (fun e r1 r2=>sV I (show X.A.in1.units+n<cLine by show X.A.units+1+n<cLine;omega) e r1 r2) h3 h4).2 X.prog X.w X.xe _ ⟨.bl _,H,I,rfl,hq⟩
def tH (n:Nat)(g:Bool->Bool):R2:=fun x y H Q=> ∃q xs ks,y= .ref q/\(H q=some (.tup xs)\/H q=some (.lst xs))/\E3 (EqD H n) xs (xs.map fun _=>x) ks/\Q (.bl (g (ks.any id))) H
theorem A1q:∀{a b:V}{u:Value},RelV a u->RelV b u->a=b:=fun{a b u} ha hb=>by
 cases a<;>cases b<;>simp only [RelV]at ha hb<;>first
  |rfl
  | (subst ha;cases hb;rfl)
  | (subst ha;cases hb;done)
  | (obtain⟨t,rfl⟩:=ha;obtain⟨t',e⟩:=hb;cases e;rfl)
  | (obtain⟨t,rfl⟩:=ha;obtain⟨t',e⟩:=hb;cases e;done)
  | (obtain⟨t,rfl⟩:=ha;cases hb;done)
  | (obtain⟨t,rfl⟩:=hb;cases ha;done)
theorem EqF.func {a b:V}{k k':Bool}(h:EqF a b k)(h':EqF a b k'):k=k':=by
 rcases h with⟨i,j,rfl,rfl,rfl⟩| ⟨x,y,rfl,rfl,rfl⟩
 ·rcases h' with⟨i',j',h1,h2,rfl⟩| ⟨x,y,h1,h2,rfl⟩
  ·cases h1;cases h2;rfl
  ·cases h1
 ·rcases h' with⟨i',j',h1,h2,rfl⟩| ⟨x',y',h1,h2,rfl⟩
  ·cases h1
  ·cases h1;cases h2;rfl
theorem EqF.noref {p:Addr}{b:V}{k:Bool}(h:EqF (.ref p) b k):False:=by
 rcases h with⟨i,j,h1,_⟩| ⟨x,y,h1,_⟩<;>cases h1
theorem EqD.func {H:Hp}:∀{n:Nat}{a b:V}{k k':Bool},EqD H n a b k->EqD H n a b k'->k=k'
 |0,a,b,k,k',h,h'=>EqF.func h h'
 |n+1,a,b,k,k',h,h'=>by
  rcases h with h| ⟨p,q,xs,ys,ks,rfl,rfl,h3,h4,rfl⟩
  ·rcases h' with h'| ⟨p,q,xs,ys,ks,rfl,rfl,h3,h4,rfl⟩
   ·exact EqF.func h h'
   ·exact h.noref.elim
  ·rcases h' with h'| ⟨p',q',xs',ys',ks',e1,e2,h3',h4',rfl⟩
   ·exact h'.noref.elim
   ·cases e1;cases e2
    have ex:xs=xs'/\ys=ys':=by
     rcases h3 with⟨u,v⟩| ⟨u,v⟩<;>rcases h3' with⟨u',v'⟩| ⟨u',v'⟩<;>rw [u]at u'<;>rw [v]at v'<;>cases u'<;>cases v'<;>exact⟨rfl,rfl⟩
    obtain⟨rfl,rfl⟩:=ex
    have go:∀{xs ys:List V}{ks ks':List Bool},E3 (EqD H n) xs ys ks->E3 (EqD H n) xs ys ks'->ks=ks':=fun{xs}=>by
     induction xs with
     |nil=>
      intro ys ks ks' g g'
      cases ys with
      |nil=>
       cases ks with
       |nil=>cases ks' with|nil=>rfl|cons _ _=>exact g'.elim
       |cons _ _=>exact g.elim
      |cons _ _=>exact g.elim
     |cons x xs ih=>
      intro ys ks ks' g g'
      cases ys with
      |nil=>exact g.elim
      |cons y ys=>
       cases ks with
       |nil=>exact g.elim
       |cons k ks=>
        cases ks' with
        |nil=>exact g'.elim
        |cons k' ks'=>rw [EqD.func g.1 g'.1,ih g.2 g'.2]
    rw [go h4 h4']
open Classical in
theorem A1z {H:Hp}{n:Nat}{x:V}{e:Value->Bool}(he:∀a u k,RelV a u->EqD H n a x k->e u=k):∀{xs:List V}{us:List Value}{ks:List Bool},Vals xs us->E3 (EqD H n) xs (xs.map fun _=>x) ks->us.any e=ks.any id
 | [],_,[],.nil,_=>rfl
 | [],_,_::_,.nil,h=>h.elim
 |y::xs,_,k::ks,.cons r t,h=>by
  rw [List.any_cons,List.any_cons,he _ _ _ r h.1,A1z he t h.2];rfl
 |_::_,_,[],.cons _ _,h=>h.elim
open Classical in
theorem qI {A:Around}{n:Nat}{x:V}{v:Value}{xs:List V}{us:List Value}{ks:List Bool}{pins:List (Addr×Obj)}{σ:St}{H:Hp}{s:Shared}(I:Inv X pins σ H s)(hu:A.units+n<cLine)(rx:RelV x v)(r:Vals xs us)(h:E3 (EqD H n) xs (xs.map fun _=>x) ks):
  ∃e:Value->Bool,(∀y∈us,SeqAt.EqAt A s y v (e y))/\us.any e=ks.any id:=by
 refine⟨fun y=>decide (∃a,RelV a y/\EqD H n a x true),fun y hy=> ?_,A1z (fun a u k ra hk=> ?_) r h⟩
 ·obtain⟨j,hj,e⟩:=List.getElem_of_mem hy
  have hl:=r.length
  have hjx:j<xs.length:=by omega
  obtain⟨u,hu',ru⟩:=r.get (List.getElem?_eq_getElem hjx)
  have eu:u=y:=by
   rw [List.getElem?_eq_getElem hj,e]at hu'
   exact(Option.some.inj hu').symm
  subst eu
  obtain⟨k,hk,ek⟩:=h.get (List.getElem?_eq_getElem hjx) (y:=x) (by rw [List.getElem?_map,List.getElem?_eq_getElem hjx];rfl)
  have:decide (∃a,RelV a u/\EqD H n a x true)=k:=by
   cases k with
   |true=>exact decide_eq_true ⟨_,ru,ek⟩
   |false=>
    refine decide_eq_false ?_
    rintro⟨a,ra,ea⟩
    have:=A1q ra ru
    subst this
    cases EqD.func ek ea
  show SeqAt.EqAt A s u v (decide (∃a,RelV a u/\EqD H n a x true))
  rw [this]
  exact sV I hu ek ru rx
 ·cases k with
  |true=>exact decide_eq_true ⟨a,ra,hk⟩
  |false=>
   refine decide_eq_false ?_
   rintro⟨b,rb,eb⟩
   have:=A1q rb ra
   subst this
   cases EqD.func hk eb
theorem tL (n:Nat)(hu:X.A.units+n+1<cLine):OpR X (compareOp .In) (tH n id):=by
 intro pins s σ H x y v u Q I rx ry h
 obtain⟨q,xs,ks,rfl,hq,h4,hQ⟩:=h
 cases ry
 have hu':X.A.in1.units+n<cLine:=by show X.A.units+1+n<cLine;omega
 rcases hq with hq|hq
 ·obtain⟨us,r,p,_⟩:=I.tuple (SqT.of hq)
  obtain⟨e,e1,e2⟩:=qI I hu' rx r h4
  refine SeqAt.in_tupleAt e p (fun y hy=>e1 y (by simpa using hy)) ⟨.bl _,H,I,rfl,?_⟩
  rw [show us.toArray.any e=us.any e by simp,e2];exact hQ
 ·obtain⟨us,r,p,_⟩:=I.list (SqL.of hq)
  obtain⟨e,e1,e2⟩:=qI I hu' rx r h4
  refine SeqAt.in_listAt e p.isList (fun y hy=>e1 y (by simpa using hy)) ⟨.bl _,H,I,rfl,?_⟩
  rw [show us.toArray.any e=us.any e by simp,e2];exact hQ
theorem qA (n:Nat)(hu:X.A.units+n+1<cLine):OpR X (compareOp .NotIn) (tH n not):=by
 intro pins s σ H x y v u Q I rx ry h
 obtain⟨q,xs,ks,rfl,hq,h4,hQ⟩:=h
 cases ry
 have hu':X.A.in1.units+n<cLine:=by show X.A.units+1+n<cLine;omega
 rcases hq with hq|hq
 ·obtain⟨us,r,p,_⟩:=I.tuple (SqT.of hq)
  obtain⟨e,e1,e2⟩:=qI I hu' rx r h4
  refine SeqAt.notIn_tupleAt e p (fun y hy=>e1 y (by simpa using hy)) ⟨.bl _,H,I,rfl,?_⟩
  rw [show us.toArray.any e=us.any e by simp,e2];exact hQ
 ·obtain⟨us,r,p,_⟩:=I.list (SqL.of hq)
  obtain⟨e,e1,e2⟩:=qI I hu' rx r h4
  refine SeqAt.notIn_listAt e p.isList (fun y hy=>e1 y (by simpa using hy)) ⟨.bl _,H,I,rfl,?_⟩
  rw [show us.toArray.any e=us.any e by simp,e2];exact hQ
end
def pT (n:Nat)(g:Bool->Bool):R2:=fun x y H Q=> ∃p q xs ys,x= .ref p/\y= .ref q/\H p=some (.lst xs)/\H q=some (.lst ys)/\((xs.length≠ys.length/\Q (.bl (g false)) H)\/ ∃ks,E3 (EqD H n) xs ys ks/\Q (.bl (g (ks.all id))) H)
section
variable {X:Cx}
theorem A05 (n:Nat)(hu:X.A.units+n+1<cLine):OpR X (compareOp .Eq) (pT n id):=by
 intro pins s σ H x y v u Q I rx ry h
 obtain⟨p,q,xs,ys,rfl,rfl,h1,h2,h4⟩:=h
 rcases h4 with⟨hne,hq⟩| ⟨ks,h4,hq⟩
 ·cases rx
  cases ry
  ·obtain⟨us,r1,p1,_⟩:=I.list (SqL.of (K:=X.K) h1)
   obtain⟨ws,r2,p2,_⟩:=I.list (SqL.of (K:=X.K) h2)
   have l1:=r1.length
   have l2:=r2.length
   exact SeqAt.RcAt.lists_lengths (A:=X.A) (s:=s) p1.isList p2.isList (by simp;omega) (by omega) X.prog X.w X.xe _ ⟨.bl _,H,I,rfl,hq⟩
 ·exact zF n hu pins s σ H _ _ v u Q I rx ry ⟨p,q,xs,ys,ks,rfl,rfl,.inr ⟨h1,h2⟩,h4,hq⟩
theorem wJ (n:Nat)(hu:X.A.units+n+1<cLine):OpR X (compareOp .NotEq) (pT n not):=by
 intro pins s σ H x y v u Q I rx ry h
 obtain⟨p,q,xs,ys,rfl,rfl,h1,h2,h4⟩:=h
 rcases h4 with⟨hne,hq⟩| ⟨ks,h4,hq⟩
 ·cases rx
  cases ry
  ·obtain⟨us,r1,p1,_⟩:=I.list (SqL.of (K:=X.K) h1)
   obtain⟨ws,r2,p2,_⟩:=I.list (SqL.of (K:=X.K) h2)
   have l1:=r1.length
   have l2:=r2.length
   exact SeqAt.RcNeAt.lists_lengths (A:=X.A) (s:=s) p1.isList p2.isList (by simp;omega) (by omega) X.prog X.w X.xe _ ⟨.bl _,H,I,rfl,hq⟩
 ·exact sZ n hu pins s σ H _ _ v u Q I rx ry ⟨p,q,xs,ys,ks,rfl,rfl,.inr ⟨h1,h2⟩,h4,hq⟩
theorem A7t (hu:X.A.units+1<cLine):OpR X (compareOp .NotEq) (fun x y H Q=> ∃p q xs,x= .ref p/\y= .ref q/\H p=some (.tup xs)/\H q=some (.tup [])/\xs≠[]/\Q (.bl true) H):=by
 intro pins s σ H x y v u Q I rx ry h
 obtain⟨p,q,xs,rfl,rfl,h1,h2,hne,hq⟩:=h
 cases rx
 cases ry
 obtain⟨us,r1,p1,_⟩:=I.tuple (SqT.of (K:=X.K) h1)
 obtain⟨ws,r2,p2,_⟩:=I.tuple (SqT.of (K:=X.K) h2)
 have e2:ws=[]:=by cases r2;rfl
 subst e2
 have l1:=r1.length
 have l0:us≠[]:=fun z=>by
  subst z
  cases xs with
  |nil=>exact hne rfl
  |cons _ _=>simp at l1
 have k:=SeqAt.RcNeAt.tuples (A:=X.A) (s:=s) (e:=fun _=>true) p1 p2 (by omega) (fun j _ h2=>absurd h2 (by simp))
 have e:(!((List.range (min us.toArray.size ([]:List Value).toArray.size)).all (fun _=>true)&&us.toArray.size==([]:List Value).toArray.size))=true:=by
  simpa using l0
 rw [e]at k
 exact k X.prog X.w X.xe _ ⟨.bl _,H,I,rfl,hq⟩
end
theorem xA {H:Hp}{n:Nat}:∀{a b:List Int},a.length=b.length->∃ks,E3 (EqD H n) (a.map V.int) (b.map V.int) ks/\ks.all id=decide (a=b)
 | [],[],_=> ⟨[],trivial,rfl⟩
 |x::a,y::b,h=>by
  obtain⟨ks,h1,h2⟩:=xA (H:=H) (n:=n) (a:=a) (b:=b) (by simpa using h)
  have f:EqF (.int x) (.int y) (decide (x=y)):=.inl ⟨x,y,rfl,rfl,rfl⟩
  refine⟨decide (x=y)::ks,⟨by cases n with|zero=>exact f|succ n=>exact .inl f,h1⟩,?_⟩
  rw [List.all_cons,h2,Bool.eq_iff_iff]
  simp
 | [],_::_,h=>by simp at h
 |_::_,[],h=>by simp at h
theorem xH {H:Hp}{n m:Nat}:∀{zs zs':List (Addr×List Int)},zs.length=zs'.length->(∀z∈zs,H z.1=some (.tup (z.2.map V.int))/\z.2.length=m)->(∀z∈zs',H z.1=some (.tup (z.2.map V.int))/\z.2.length=m)->
  ∃ks,E3 (EqD H (n+1)) (zs.map fun z=>V.ref z.1) (zs'.map fun z=>V.ref z.1) ks/\ks.all id=decide (zs.map (·.2)=zs'.map (·.2))
 | [],[],_,_,_=> ⟨[],trivial,rfl⟩
 |x::a,y::b,h,hx,hy=>by
  obtain⟨ks,h1,h2⟩:=xH (H:=H) (n:=n) (m:=m) (zs:=a) (zs':=b) (by simpa using h) (fun z hz=>hx z (List.mem_cons_of_mem _ hz)) (fun z hz=>hy z (List.mem_cons_of_mem _ hz))
  obtain⟨x1,x2⟩:=hx x List.mem_cons_self
  obtain⟨y1,y2⟩:=hy y List.mem_cons_self
  obtain⟨js,j1,j2⟩:=xA (H:=H) (n:=n) (a:=x.2) (b:=y.2) (by rw [x2,y2])
  refine⟨decide (x.2=y.2)::ks,⟨.inr ⟨x.1,y.1,_,_,js,rfl,rfl,.inl ⟨x1,y1⟩,j1,j2.symm⟩,h1⟩,?_⟩
  rw [List.all_cons,h2,Bool.eq_iff_iff]
  simp
 | [],_::_,h,_,_=>by simp at h
 |_::_,[],h,_,_=>by simp at h
end L2
namespace M04
open PySem L2 PyProof.Rows
def cuV (H:Hp)(v:V):Bool:=match tupOf H v with|some xs=>decide (1<=xs.length)&&decide (xs.length<=6)&&xs.all (bG 1 100)|none=>false
def clV (H:Hp)(v:V):Bool:=match tupOf H v with|some [a,b,c]=>bG 0 3 a&&(bG 0 5 b&&bG 1 20 c)|_=>false
def k2V (H:Hp)(v:V):List Int:=match tupOf H v with|some [.int a,.int b,_]=> [a,b]|_=> []
def bV (H:Hp)(v:V):Bool:=match tupOf H v with|some xs=>decide (1<=xs.length)&&decide (xs.length<=12)&&xs.all (clV H)&&upL (xs.map (k2V H))|none=>false
theorem jN {H H':Hp}(s:Same H H'){v:V}(k:Kn H 1 v):clV H' v=clV H v:=by unfold clV;rw [s.tupOf k]
theorem nO {lo hi:Int}{v:V}(h:bG lo hi v=true):∃i,v= .int i:=by cases v<;>first|exact⟨_,rfl⟩|cases h
theorem A1s {H:Hp}{v:V}(h:clV H v=true):∃(b:Addr)(c:C3),v= .ref b/\H b=some (.tup [.int c.1,.int c.2.1,.int c.2.2])/\k2V H v=[c.1,c.2.1]:=by
 unfold clV at h
 cases e:tupOf H v with
 |none=>rw [e]at h;cases h
 |some xs=>
  rw [e]at h
  match xs,e,h with
  | [a,b,c],e,h=>
   have h':(bG 0 3 a&&(bG 0 5 b&&bG 1 20 c))=true:=h
   rw [Bool.and_eq_true,Bool.and_eq_true]at h'
   obtain⟨i,rfl⟩:=nO h'.1
   obtain⟨j,rfl⟩:=nO h'.2.1
   obtain⟨m,rfl⟩:=nO h'.2.2
   obtain⟨p,rfl,hp⟩:=eX e
   exact⟨p,(i,j,m),rfl,hp,by unfold k2V;rw [e]⟩
  | [],_,h=>cases h
  | [_],_,h=>cases h
  | [_,_],_,h=>cases h
  |_::_::_::_::_,_,h=>cases h
theorem mG {H:Hp}:∀{xs:List V},xs.all (clV H)=true->∃(bs:List Addr)(cl:List C3),xs=bs.map V.ref/\ClP H bs cl/\xs.map (k2V H)=(cl.map bK).map fun c=> [c.1,c.2]
 | [],_=> ⟨[],[],rfl,.nil,rfl⟩
 |x::xs,h=>by
  rw [List.all_cons,Bool.and_eq_true]at h
  obtain⟨b,c,rfl,hb,hk⟩:=A1s h.1
  obtain⟨bs,cl,rfl,hC,hk2⟩:=mG h.2
  exact⟨b::bs,c::cl,rfl,.cons hb hC,by rw [List.map_cons,hk,hk2];rfl⟩
def r2 (c:Int×Int):List Int:=[c.1,c.2]
def wE:Sp:=fun vs H Q _=> ∃l ps prs,vs=[.ref l]/\H l=some (.lst (ps.map V.ref))/\PlAt H ps prs/\1<=prs.length/\prs.length<=100/\∀H',Same H H'->Q (.bl (upL (prs.map r2))) H'
def lH:Sp:=fun vs H Q _=> ∃v,vs=[v]/\Kn H 2 v/\∀H',Same H H'->Q (.bl (cuV H v)) H'
def jD:Sp:=fun vs H Q _=> ∃v,vs=[v]/\Kn H 2 v/\Q (.bl (clV H v)) H
def lW:Sp:=fun vs H Q _=> ∃v,vs=[v]/\Kn H 3 v/\∀H',Same H H'->Q (.bl (bV H v)) H'
section
variable {P:Program}{w:World}{K:W.Frag}{mg:Str->Option Value}{base:Heap}
theorem B1s (ps:List Addr)(h:1<=ps.length):cO (ps.map V.ref) (some 1) none=(ps.drop 1).map V.ref:=by
 have e1:HT.sIx (ps.map V.ref).length 0 (some 1)=min 1 (ps.map V.ref).length:=HT.sIx_nat _ _ 1
 have e2:HT.sIx (ps.map V.ref).length (ps.map V.ref).length none=(ps.map V.ref).length:=rfl
 unfold cO
 rw [e1,e2,List.length_map,show min 1 ps.length=1 by omega,List.take_of_length_le (by rw [List.length_drop,List.length_map];omega),List.map_drop]
theorem PlAt.get2 {H:Hp}:∀{ps:List Addr}{cs:List (Int×Int)}{i:Nat}{p:Addr},PlAt H ps cs->ps[i]?=some p->∃c,cs[i]?=some c/\H p=some (.tup [.int c.1,.int c.2])
 |_,_,0,_,.cons r _,h=>by cases h;exact⟨_,rfl,r⟩
 |_,_,i+1,_,.cons _ t,h=>PlAt.get2 (i:=i) t (by simpa using h)
theorem A2r:bH ["things"] ["things"] (aQ nE):=by ac_rfl
theorem yN:(["one","other"]:List Str).Nodup:=by decide +kernel
theorem B15 {f:Addr}{fd:FuncData}(F:Fun K "is_rising" "is_rising" nE f fd)(T:Txt mg):aR P w K mg base CX0 1 f fd ["things"] wE:=by
 refine F.ok A2r (fun vs H Q E h=> ?_) (fun cdv A outer s H vs Q E hr h=> ?_)
 ·obtain⟨l,ps,prs,rfl,_⟩:=h;rfl
 ·obtain⟨l,ps,prs,rfl,hl,hP,h1,h100,q⟩:=h
  have hlen:ps.length=prs.length:=Paired.length hP
  refine⟨_,aV (aZ (bB (qK rfl) rfl T.all boot_all (fW (dL (aQ nE).names ["things"] ["one","other"] [] rfl (B0p A53 rfl T.zip (aG (pv 0) (eF (fF vQ (pv 0) (fA aL) fM) aF))) rfl rfl rfl (by decide +kernel)
   (fun Z=>gX rfl (cK (bL (i:=0) yN rfl (Or.inl rfl)) (cK (bL (i:=1) yN rfl (Or.inl rfl)) gJ))) (fun Z=>fJ) (fun Z=>jJ (A78 (Nat.lt_of_succ_lt (iL hr))) (pv 0) (pv 1) (nomark _))) aF))),?_⟩
  refine⟨_,rfl,_,rfl,_,rfl,l,_,rfl,SqL.of hl,fun t ht=> ?_⟩
  rw [B1s ps (by omega)]
  have s1:=aJ (o:=.lst ((ps.drop 1).map V.ref)) ht
  refine⟨l,t,ps.map V.ref,(ps.drop 1).map V.ref,rfl,SqL.of (s1 _ _ hl),SqL.of aI,fun Z r hr'=> ?_⟩
  have sH:Same H (upd H t (.lst ((ps.drop 1).map V.ref))):=s1
  generalize hbs:(((prs.map r2).zip ((prs.map r2).drop 1)).map fun p=>HT.lexLt p.1 p.2)=bs
  have hbl:bs.length=ps.length - 1:=by rw [←hbs,List.length_map,List.length_zip,List.length_drop,List.length_map];omega
  refine A5b (xs:=ps.map V.ref) (ys:=(ps.drop 1).map V.ref) (by rw [List.length_map,List.length_map,List.length_drop];omega) (fun i σ H'=>σ.length=2/\Same (upd H t (.lst ((ps.drop 1).map V.ref))) H'/\H' r=some (.lst ((bs.take i).map V.bl))) ⟨rfl,aJ hr',by rw [aI];rfl⟩
   (fun i σ H' h=> ⟨SqL.of (h.2.1 _ _ (s1 _ _ hl)),SqL.of (h.2.1 _ _ aI)⟩) ?_ ?_
  ·rintro i x y p3 σ H' hx hy ⟨hσ,hs,hl'⟩ hp3
   match σ,hσ with
   | [x0,x1],_=>
   rw [List.getElem?_map]at hx hy
   cases hb:ps[i]? with
   |none=>rw [hb]at hx;cases hx
   |some b=>
   cases hb2:(ps.drop 1)[i]? with
   |none=>rw [hb2]at hy;cases hy
   |some b2=>
   rw [hb]at hx;cases hx
   rw [hb2]at hy;cases hy
   have hb2':ps[i+1]?=some b2:=by rw [List.getElem?_drop]at hb2;rw [show i+1=1+i by omega];exact hb2
   obtain⟨c,hc,he⟩:=PlAt.get2 hP hb
   obtain⟨c2,hc2,he2⟩:=PlAt.get2 hP hb2'
   have s3:=aJ (o:=.tup [.ref b,.ref b2]) hp3
   have hbi:bs[i]?=some (HT.lexLt (r2 c) (r2 c2)):=by
    rw [←hbs,List.getElem?_map]
    have:((prs.map r2).zip ((prs.map r2).drop 1))[i]?=some (r2 c,r2 c2):=by
     rw [List.getElem?_zip_eq_some]
     refine⟨by rw [List.getElem?_map,hc];rfl,?_⟩
     rw [List.getElem?_drop,show 1+i=i+1 by omega,List.getElem?_map,hc2];rfl
    rw [this];rfl
   refine⟨p3,_,rfl,SqT.of aI,rfl,_,_,rfl,_,_,rfl,rfl,?_⟩
   refine nI ?_
   refine⟨_,rfl,_,rfl,b,b2,r2 c,r2 c2,rfl,rfl,SqT.of (s3 _ _ (hs _ _ (s1 _ _ he))),SqT.of (s3 _ _ (hs _ _ (s1 _ _ he2))),?_⟩
   have hi:i<(ps.drop 1).length:=(List.getElem?_eq_some_iff.mp hb2).1
   rw [List.length_drop]at hi
   refine⟨_,s3 _ _ hl',eW (by rw [List.length_map,List.length_take];omega),rfl,fun b' u e'=> ?_,?_⟩
   ·rw [aS (cB e' hr')];exact s3 _ _ (hs _ _ e')
   ·rw [aI,List.take_succ,hbi,List.map_append];rfl
  ·rintro σ H' ⟨_,hs,hl'⟩
   rw [List.length_map,List.length_drop,List.take_of_length_le (by omega)]at hl'
   refine⟨r,bs,rfl,SqL.of hl',?_⟩
   rw [←hbs,A07]
   exact q H' (s1.trans hs)
theorem A2o:bH ["thing"] ["thing"] (aQ nD):=by ac_rfl
theorem A5w {f g1 g2:Addr}{fd d1 d2:FuncData}(F:Fun K "is_custom" "is_custom" nD f fd)(T:Txt mg)(a1:At P w K mg base 1 "is_tuple_within" g1 d1 ["thing","least","most"] mW)(a2:At P w K mg base 2 "is_number_within" g2 d2 ["thing","least","most"] pD):aR P w K mg base CX0 3 f fd ["thing"] lH:=by
 obtain⟨t1,mS⟩:=T.sorts
 obtain⟨t2,mC⟩:=T.counted
 refine F.ok A2o (fun vs H Q E h=> ?_) (fun cdv A outer s H vs Q E hr h=> ?_)
 ·obtain⟨v,rfl,_⟩:=h;rfl
 ·obtain⟨v,rfl,kn,q⟩:=h
  refine⟨_,aW (bU (cY (cU (aX a1.ok (hr.mono (by decide)) rfl a1.nm a1.kp a1.bd .nil bA (bD (pv 0) (bD aL (bD (bZ (v:=.int 6) rfl mS ⟨_,rfl⟩) aF)))))) (aV (aZ eZ)) bT)
   (aV (aZ (bB (qK rfl) rfl T.all boot_all (bD (dL (aQ nD).names ["thing"] ["counted"] [] rfl (eV (pv 0)) rfl rfl rfl (by decide +kernel)
    (fun Z=>bL (i:=0) (show(["counted"]:List Str).Nodup by decide +kernel) rfl (Or.inl rfl)) (fun Z=>fJ)
    (fun Z=>aX a2.ok hr rfl a2.nm a2.kp a2.bd .nil bA (bD (pv 0) (bD aL (bD (bZ (v:=.int 100) rfl mC ⟨_,rfl⟩) aF))))) aF)))),?_⟩
  refine⟨_,rfl,_,1,6,rfl,kn.le (by decide),_,rfl,?_⟩
  cases ht:eP H 1 6 v with
  |false=>
   have e:cuV H v=false:=by
    unfold eP at ht;unfold cuV
    cases z:tupOf H v with
    |none=>rfl
    |some xs=>
     rw [z]at ht
     have ht':(decide ((1:Int)<=xs.length)&&decide ((xs.length:Int)<=6))=false:=ht
     show(decide (1<=xs.length)&&decide (xs.length<=6)&&_)=false
     rw [show(decide (1<=xs.length)&&decide (xs.length<=6))=false by rw [←ht'];congr 1<;>rw [decide_eq_decide]<;>omega];rfl
   rw [e]at q
   exact bE (q H (Same.refl H))
  |true=>
   unfold eP at ht
   cases z:tupOf H v with
   |none=>rw [z]at ht;cases ht
   |some xs=>
    rw [z]at ht
    have ht':(decide ((1:Int)<=xs.length)&&decide ((xs.length:Int)<=6))=true:=ht
    rw [Bool.and_eq_true,decide_eq_true_eq,decide_eq_true_eq]at ht'
    obtain⟨a,rfl,ha⟩:=eX z
    obtain⟨hz,hx⟩:=kn.items ha
    refine aY ?_
    refine⟨_,rfl,a,rfl,⟨_,SqT.of ha⟩,fun Z l hl=> ?_⟩
    refine xI (fun x=> .bl (bG 1 100 x)) ha hl hz (fun x H' Q' hm hs hq=> ?_) fun σ H' hs hl'=> ?_
    ·exact⟨_,rfl,_,1,100,rfl,(hx x hm).ext hs.ext,hq _ (Same.refl _)⟩
    ·refine⟨l,xs.map (bG 1 100),rfl,SqL.of (by rw [hl'];simp only [List.map_map];rfl),?_⟩
     have e:cuV H (.ref a)=(xs.map (bG 1 100)).all id:=by
      unfold cuV;rw [z]
      show(decide (1<=xs.length)&&decide (xs.length<=6)&&_)=_
      rw [decide_eq_true (show 1<=xs.length by omega),decide_eq_true (show xs.length<=6 by omega),List.all_map];rfl
     rw [e]at q
     exact q H' hs
theorem scClaim:bH ["thing","holder","sort","many"] ["thing"] (aQ qP):=by ac_rfl
theorem A72 {f g1 g2:Addr}{fd d1 d2:FuncData}(F:Fun K "is_claim" "is_claim" qP f fd)(T:Txt mg)(a1:At P w K mg base 1 "is_tuple_within" g1 d1 ["thing","least","most"] mW)(a2:At P w K mg base 2 "is_number_within" g2 d2 ["thing","least","most"] pD):aR P w K mg base CX0 3 f fd ["thing"] jD:=by
 obtain⟨t1,mS⟩:=T.sorts
 obtain⟨t2,mH⟩:=T.holders
 obtain⟨t3,mR⟩:=T.rights
 refine F.ok scClaim (fun vs H Q E h=> ?_) (fun cdv A outer s H vs Q E hr h=> ?_)
 ·obtain⟨v,rfl,_⟩:=h;rfl
 ·obtain⟨v,rfl,kn,q⟩:=h
  have nd:=scClaim.nd
  refine⟨_,aW (bU (cY (cU (aX a1.ok (hr.mono (by decide)) rfl a1.nm a1.kp a1.bd .nil bA (bD (pv 0) (bD aL (bD aL aF)))))) (aV (aZ eZ)) bT)<|
   aW (pM (pv 0) (gX rfl (cK (bL (i:=1) nd rfl (Or.inl rfl)) (cK (bL (i:=2) nd rfl (Or.inl rfl)) (cK (bL (i:=3) nd rfl (Or.inl rfl)) gJ)))))<|
   aW (bU (PW.pt (gL (cY (cU (aX a2.ok hr rfl a2.nm a2.kp a2.bd .nil bA (bD (pv 1) (bD aL (bD (bJ nY (bZ (v:=.int 4) rfl mH ⟨_,rfl⟩) aL) aF))))))
    (iM (cY (cU (aX a2.ok hr rfl a2.nm a2.kp a2.bd .nil bA (bD (pv 2) (bD aL (bD (bJ nY (bZ (v:=.int 6) rfl mS ⟨_,rfl⟩) aL) aF))))))))) (aV (aZ eZ)) bT)<|
   aV (aZ (aX a2.ok hr rfl a2.nm a2.kp a2.bd .nil bA (bD (pv 3) (bD aL (bD (bZ (v:=.int 20) rfl mR ⟨_,rfl⟩) aF))))),?_⟩
  refine⟨_,rfl,_,3,3,rfl,kn.le (by decide),_,rfl,?_⟩
  cases ht:eP H 3 3 v with
  |false=>
   have e:clV H v=false:=by
    unfold eP at ht;unfold clV
    cases z:tupOf H v with
    |none=>rfl
    |some xs=>
     rw [z]at ht
     match xs,ht with
     | [_,_,_],ht=>exact absurd ht (by simp)
     | [],_=>rfl
     | [_],_=>rfl
     | [_,_],_=>rfl
     |_::_::_::_::_,_=>rfl
   rw [e]at q
   exact bE q
  |true=>
   unfold eP at ht
   cases z:tupOf H v with
   |none=>rw [z]at ht;cases ht
   |some xs=>
    rw [z]at ht
    have ht':(decide ((3:Int)<=xs.length)&&decide ((xs.length:Int)<=3))=true:=ht
    rw [Bool.and_eq_true,decide_eq_true_eq,decide_eq_true_eq]at ht'
    match xs,z,ht' with
    | [x0,x1,x2],z,_=>
     obtain⟨b,rfl,hb⟩:=eX z
     obtain⟨_,hx⟩:=kn.items hb
     have k0:Kn H 1 x0:=hx x0 (by simp)
     have k1:Kn H 1 x1:=hx x1 (by simp)
     have k2:Kn H 1 x2:=hx x2 (by simp)
     have e:clV H (.ref b)=(bG 0 3 x0&&(bG 0 5 x1&&bG 1 20 x2)):=by unfold clV;rw [z]
     rw [e]at q
     refine aY ?_
     refine⟨_,rfl,b,_,rfl,SqT.of hb,rfl,_,_,rfl,_,_,rfl,_,_,rfl,rfl,?_⟩
     refine⟨_,rfl,_,_,rfl,rfl,_,0,3,rfl,k0,_,rfl,?_⟩
     cases e0:bG 0 3 x0 with
     |false=>
      rw [e0]at q
      exact bE (bE q)
     |true=>
      rw [e0]at q
      refine aY ?_
      refine⟨_,rfl,_,_,rfl,rfl,_,0,5,rfl,k1,_,rfl,?_⟩
      cases e1:bG 0 5 x1 with
      |false=>
       rw [e1]at q
       exact bE q
      |true=>
       rw [e1]at q
       refine aY ?_
       exact⟨_,rfl,_,1,20,rfl,k2,q⟩
    | [],_,h=>simp at h
    | [_],_,h=>simp at h
    | [_,_],_,h=>simp at h
    |_::_::_::_::_,_,h=>simp at h;omega
theorem A5q:bH ["thing"] ["thing"] (aQ kZ):=by ac_rfl
theorem tD:(["holder","sort","many"]:List Str).Nodup:=by decide +kernel
theorem B1o {f g1 g2 g3:Addr}{fd d1 d2 d3:FuncData}(F:Fun K "are_claims" "are_claims" kZ f fd)(T:Txt mg)(a1:At P w K mg base 1 "is_tuple_within" g1 d1 ["thing","least","most"] mW)(a2:At P w K mg base 3 "is_claim" g2 d2 ["thing"] jD)(a3:At P w K mg base 1 "is_rising" g3 d3 ["things"] wE):aR P w K mg base CX0 4 f fd ["thing"] lW:=by
 obtain⟨t1,mS⟩:=T.claims
 refine F.ok A5q (fun vs H Q E h=> ?_) (fun cdv A outer s H vs Q E hr h=> ?_)
 ·obtain⟨v,rfl,_⟩:=h;rfl
 ·obtain⟨v,rfl,kn,q⟩:=h
  refine⟨_,aW (bU (PW.pt (gL (cY (cU (aX a1.ok (hr.mono (by decide)) rfl a1.nm a1.kp a1.bd .nil bA (bD (pv 0) (bD aL (bD (bZ (v:=.int 12) rfl mS ⟨_,rfl⟩) aF))))))
    (iM (cY (cU (bB (qK rfl) rfl T.all boot_all (bD (dL (aQ kZ).names ["thing"] ["claim"] [] rfl (eV (pv 0)) rfl rfl rfl (by decide +kernel)
     (fun Z=>bL (i:=0) (show(["claim"]:List Str).Nodup by decide +kernel) rfl (Or.inl rfl)) (fun Z=>fJ)
     (fun Z=>aX a2.ok hr rfl a2.nm a2.kp a2.bd .nil bA (aG (pv 0) aF))) aF))))))) (aV (aZ eZ)) bT)
   (aV (aZ (aX a3.ok (hr.mono (by decide)) rfl a3.nm a3.kp a3.bd .nil bA (fW (dL (aQ kZ).names ["thing"] ["holder","sort","many"] [] rfl (eV (pv 0)) rfl rfl rfl (by decide +kernel)
    (fun Z=>gX rfl (cK (bL (i:=0) tD rfl (Or.inl rfl)) (cK (bL (i:=1) tD rfl (Or.inl rfl)) (cK (bL (i:=2) tD rfl (Or.inl rfl)) gJ)))) (fun Z=>fJ) (fun Z=>dF (aG (pv 0) (aG (pv 1) aF)))) aF)))),?_⟩
  refine⟨_,rfl,_,1,12,rfl,kn.le (by decide),_,rfl,?_⟩
  cases ht:eP H 1 12 v with
  |false=>
   have e:bV H v=false:=by
    unfold eP at ht;unfold bV
    cases z:tupOf H v with
    |none=>rfl
    |some xs=>
     rw [z]at ht
     have ht':(decide ((1:Int)<=xs.length)&&decide ((xs.length:Int)<=12))=false:=ht
     show(decide (1<=xs.length)&&decide (xs.length<=12)&&_&&_)=false
     rw [show(decide (1<=xs.length)&&decide (xs.length<=12))=false by rw [←ht'];congr 1<;>rw [decide_eq_decide]<;>omega];rfl
   rw [e]at q
   exact bE (bE (q H (Same.refl H)))
  |true=>
   unfold eP at ht
   cases z:tupOf H v with
   |none=>rw [z]at ht;cases ht
   |some xs=>
    rw [z]at ht
    have ht':(decide ((1:Int)<=xs.length)&&decide ((xs.length:Int)<=12))=true:=ht
    rw [Bool.and_eq_true,decide_eq_true_eq,decide_eq_true_eq]at ht'
    obtain⟨a,rfl,ha⟩:=eX z
    obtain⟨hz,hx⟩:=kn.items ha
    have e:bV H (.ref a)=(xs.all (clV H)&&upL (xs.map (k2V H))):=by
     unfold bV;rw [z]
     show(decide (1<=xs.length)&&decide (xs.length<=12)&&_&&_)=_
     rw [decide_eq_true (show 1<=xs.length by omega),decide_eq_true (show xs.length<=12 by omega)];rfl
    rw [e]at q
    refine aY ?_
    refine⟨_,rfl,a,rfl,⟨_,SqT.of ha⟩,fun Z l hl=> ?_⟩
    refine xI (fun x=> .bl (clV H x)) ha hl hz (fun x H' Q' hm hs hq=> ?_) fun σ H' hs hl'=> ?_
    ·refine⟨_,rfl,_,rfl,(hx x hm).ext hs.ext,?_⟩
     rw [jN hs ((hx x hm).le (by decide))]
     exact hq _ (Same.refl _)
    ·refine⟨l,xs.map (clV H),rfl,SqL.of (by rw [hl'];simp only [List.map_map];rfl),_,rfl,?_⟩
     rw [show(xs.map (clV H)).all id=xs.all (clV H) by rw [List.all_map];rfl]
     cases hall:xs.all (clV H)with
     |false=>
      rw [hall]at q
      exact bE (q H' hs)
     |true=>
      rw [hall]at q
      refine aY ?_
      obtain⟨bs,cl,rfl,hC,hk⟩:=mG hall
      have hlen:bs.length=cl.length:=Paired.length hC
      rw [List.length_map]at ht'
      refine⟨_,rfl,a,rfl,⟨_,SqT.of (hs _ _ ha)⟩,fun Z2 l2 hl2=> ?_⟩
      refine A8e gZ (fun H2 hs2=>SqT.of (hs2 _ _ (hs _ _ ha))) (hC.ext hs.ext) hl2 (by omega) fun σ2 H2 ps hs2 hp2 hP2=> ?_
      refine⟨l2,ps,cl.map bK,rfl,hp2,hP2,by rw [List.length_map];omega,by rw [List.length_map];omega,fun H3 hs3=> ?_⟩
      rw [hk]at q
      exact q H3 ((hs.trans hs2).trans hs3)
end
end M04
namespace L2
open PySem PySem.Spec PyProof.Rows
theorem A1f {K:W.Frag}{a l:Addr}{xs:List V}{tt:TT}{H0:Hp}{rest:St}{Q:St->Hp->Prop}(p:V->Bool)(ha:H0 a=some (.tup xs))(hl:H0 l=none)(hz:xs.length<=1000)
  (test:∀x H' Q',x∈xs->Same H0 H'->(∀H2,Same H' H2->Q' (p x) H2)->tt (some x::rest) H' Q')(hQ:∀σ H',Same H0 H'->H' l=some (.lst (xs.filter p))->Q σ H'):
  eN (Itt K a) (dJ 0) (eG tt (eL l (fD 0))) (eC Q) (none::rest) (upd H0 l (.lst [])):=by
 have s0:Same H0 (upd H0 l (.lst [])):=aJ hl
 refine pO (K:=K) (a:=a) (xs:=xs) (fun i σ H'=>(∃o,σ=o::rest)/\Same H0 H'/\H' l=some (.lst ((xs.take i).filter p))) ⟨⟨_,rfl⟩,s0,by rw [aI];rfl⟩ (fun i σ H' _ h=>SqT.of (h.2.1 _ _ ha)) ?_ ?_
 ·rintro i x σ H' hx ⟨⟨o,rfl⟩,hs,hl'⟩
  show eG tt (eL l (fD 0)) _ (some x::rest) H'
  have et:(xs.take (i+1)).filter p=(xs.take i).filter p++(if p x=true then [x]else []):=by
   rw [List.take_succ,hx,List.filter_append]
   congr 1
   cases h:p x<;>simp [h]
  refine test x H' _ (List.mem_of_getElem? hx) hs fun H2 h2=> ?_
  refine dQ (fun hp=> ?_) fun hp=> ?_
  ·refine⟨_,rfl,_,h2 _ _ hl',?_,⟨_,rfl⟩,fun b u e=> ?_,?_⟩
   ·have:=List.length_filter_le p (xs.take i)
    rw [List.length_take]at this
    exact eW (by omega)
   ·rw [aS (cB e hl)];exact h2 _ _ (hs _ _ e)
   ·rw [aI,et,if_pos hp]
  ·refine⟨⟨_,rfl⟩,hs.trans h2,?_⟩
   rw [et,if_neg (by rw [hp];decide),List.append_nil];exact h2 _ _ hl'
 ·rintro σ H' ⟨_,hs,hl'⟩
  rw [List.take_of_length_le (Nat.le_refl _)]at hl'
  exact hQ σ H' hs hl'
end L2
namespace M04
open PySem L2 PyProof.Rows
def kO:Sp:=fun vs H Q _=> ∃v lo hi,vs=[v,.int lo,.int hi]/\Kn H 1 v/\Q (.bl (bG lo hi v)) H
section
variable {P:Program}{w:World}{K:W.Frag}{mg:Str->Option Value}{base:Heap}
abbrev lR:List Str:=["_law_thing_here","_law_least","_law_greatest"]
theorem A6c:bH lR lR (aQ rD):=by ac_rfl
theorem A4b {f:Addr}{fd:FuncData}(F:Fun K "_law_number" "_law_number" rD f fd)(T:Txt mg):aR P w K mg base CX0 1 f fd lR kO:=by
 refine F.ok A6c (fun vs H Q E h=> ?_) (fun cdv A outer s H vs Q E hr h=> ?_)
 ·obtain⟨v,lo,hi,rfl,_⟩:=h;rfl
 ·obtain⟨v,lo,hi,rfl,k,q⟩:=h
  refine⟨_,aV (aZ (kA (bB jF rfl T.isinstance boot_isinstance (bD (pv 0) (bD (iP (v:=.ty "int") rfl T.int boot_int rfl) aF)))
   (kA (A2h (bB jF rfl T.isinstance boot_isinstance (bD (pv 0) (bD (iP (v:=.ty "bool") rfl T.bool boot_bool rfl) aF)))) (lF (sE iG iG (pv 1) (pv 0) (pv 2)))))),?_⟩
  obtain⟨t,ty,k1,k2,_⟩:=lB (K:=K) k
  refine⟨_,rfl,_,"int",t,_,rfl,ty,k1,_,rfl,dQ (fun e=> ?_) fun e=> ?_⟩
  ·refine⟨_,rfl,_,"bool",t,_,rfl,ty,k2,_,rfl,_,rfl,dQ (fun e2=> ?_) fun e2=> ?_⟩
   ·cases v with
    |int i=>
     refine⟨_,rfl,_,rfl,_,_,rfl,rfl,_,rfl,cW (fun h1=> ?_) fun h1=> ?_⟩
     ·refine⟨_,rfl,_,_,rfl,rfl,?_⟩
      have:bG lo hi (.int i)=decide (i<=hi):=by simp [bG,h1]
      rw [this]at q;exact q
     ·have:bG lo hi (.int i)=false:=by simp [bG,h1]
      rw [this]at q;exact q
    |bl b=>cases e2
    |_=>cases e
   ·have:bG lo hi v=false:=by cases v<;>first|rfl|cases e2
    rw [this]at q;exact q
  ·have:bG lo hi v=false:=by cases v<;>first|rfl|cases e
   rw [this]at q;exact q
theorem A7e:bH ["_law_thing_here"] ["_law_thing_here"] (aQ kP):=by ac_rfl
theorem sD:(["_law_one"]:List Str).Nodup:=by decide +kernel
theorem A35 {f g1:Addr}{fd d1:FuncData}(F:Fun K "_law_is_custom" "_law_is_custom" kP f fd)(T:Txt mg)(a1:At P w K mg base 1 "_law_number" g1 d1 lR kO):aR P w K mg base CX0 2 f fd ["_law_thing_here"] lH:=by
 refine F.ok A7e (fun vs H Q E h=> ?_) (fun cdv A outer s H vs Q E hr h=> ?_)
 ·obtain⟨v,rfl,_⟩:=h;rfl
 ·obtain⟨v,rfl,kn,q⟩:=h
  have hu:(A.deeper (envOfC "_law_is_custom" (aQ kP) s.heap.objs.size f cdv)).units+0+1<cLine:=iL hr
  refine⟨_,aW (bU (PW.pt (gL (cY (cU (bB jF rfl T.isinstance boot_isinstance (aG (pv 0) (aG (iP (v:=.ty "tuple") rfl T.tuple boot_tuple rfl) aF)))))
    (iM (cY (A0k iG iG aL (bB eR rfl T.len PySem.boot_len (aG (pv 0) aF)) aL))))) (aV (aZ eZ)) bT)
   (aV (aZ (jJ (A05 0 hu) (dL (aQ kP).names ["_law_thing_here"] ["_law_one"] [] rfl (eV (pv 0)) rfl rfl rfl (by decide +kernel)
    (fun Z=>bL (i:=0) sD rfl (Or.inl rfl)) (fun Z=>iI (cY (cU (aX a1.ok hr rfl a1.nm a1.kp a1.bd .nil bA (aG (pv 0) (bS aL (bS aL aF))))))) (fun Z=>pv 0)) (fC aF) (nomark _)))),?_⟩
  obtain⟨t,ty,_,_,k3⟩:=lB (K:=K) (kn.le (by decide))
  refine⟨_,rfl,_,"tuple",t,_,rfl,ty,k3,_,rfl,?_⟩
  cases z:tupOf H v with
  |none=>
   have e:cuV H v=false:=by unfold cuV;rw [z]
   rw [e]at q
   exact bE (bE (q H (Same.refl H)))
  |some xs=>
   obtain⟨a,rfl,ha⟩:=eX z
   obtain⟨hz,hx⟩:=kn.items ha
   refine aY ?_
   refine⟨_,rfl,a,xs,rfl,.inr (SqT.of ha),_,_,rfl,rfl,_,rfl,?_⟩
   have e0:cuV H (.ref a)=(decide (1<=xs.length)&&decide (xs.length<=6)&&xs.all (bG 1 100)):=by unfold cuV;rw [z]
   rw [e0]at q
   refine cW (fun h1=> ?_) fun h1=> ?_
   ·refine⟨_,_,rfl,rfl,_,rfl,?_⟩
    rw [decide_eq_true (show 1<=xs.length by omega)]at q
    by_cases h6:(xs.length:Int)<=6
    ·rw [decide_eq_true h6]
     refine aY ?_
     rw [decide_eq_true (show xs.length<=6 by omega)]at q
     refine⟨_,rfl,a,rfl,⟨_,SqT.of ha⟩,fun Z l hl=> ?_⟩
     refine A1f (fun x=> !(bG 1 100 x)) ha hl hz (fun x H' Q' hm hs hq=> ?_) fun σ H' hs hl'=> ?_
     ·exact⟨_,rfl,_,1,100,rfl,(hx x hm).ext hs.ext,_,rfl,hq _ (Same.refl _)⟩
     ·refine⟨by show 0<=sizeLine;decide,fun l2 hl2=> ?_⟩
      have s2:=aJ (o:=.lst []) hl2
      refine⟨l,l2,_,[],rfl,rfl,s2 _ _ hl',aI,?_⟩
      have hall:xs.all (bG 1 100)=decide (xs.filter (fun x=> !(bG 1 100 x))=[]):=by
       rw [Bool.eq_iff_iff,List.all_eq_true,decide_eq_true_eq,List.filter_eq_nil_iff]
       simp
      rw [hall]at q
      by_cases hf:xs.filter (fun x=> !(bG 1 100 x))=[]
      ·rw [decide_eq_true hf]at q
       rw [hf]
       exact .inr ⟨[],trivial,q _ (hs.trans s2)⟩
      ·rw [decide_eq_false hf]at q
       exact .inl ⟨fun e=>hf (List.length_eq_zero_iff.mp e),q _ (hs.trans s2)⟩
    ·rw [decide_eq_false h6]
     refine bE ?_
     rw [decide_eq_false (show¬xs.length<=6 by omega)]at q
     exact q H (Same.refl H)
   ·rw [decide_eq_false (show¬1<=xs.length by omega)]at q
    exact⟨_,rfl,bE (q H (Same.refl H))⟩
theorem A4u:bH ["_law_thing_here"] ["_law_thing_here"] (aQ pW):=by ac_rfl
theorem A2w {f g1:Addr}{fd d1:FuncData}(F:Fun K "_law_is_claim" "_law_is_claim" pW f fd)(T:Txt mg)(a1:At P w K mg base 1 "_law_number" g1 d1 lR kO):aR P w K mg base CX0 2 f fd ["_law_thing_here"] jD:=by
 refine F.ok A4u (fun vs H Q E h=> ?_) (fun cdv A outer s H vs Q E hr h=> ?_)
 ·obtain⟨v,rfl,_⟩:=h;rfl
 ·obtain⟨v,rfl,kn,q⟩:=h
  refine⟨_,aW (bU (PW.pt (gL (cY (cU (bB jF rfl T.isinstance boot_isinstance (aG (pv 0) (aG (iP (v:=.ty "tuple") rfl T.tuple boot_tuple rfl) aF)))))
    (gL (bP uE (bB eR rfl T.len PySem.boot_len (aG (pv 0) aF)) aL (nomark _))
     (iM (cY (cU (aX a1.ok hr rfl a1.nm a1.kp a1.bd .nil bA (eF (bR fU (pv 0) aL (fun _ _=>rfl)) (bS aL (bS aL aF)))))))))) (aV (aZ eZ)) bT)
   (aV (aZ (kA (aX a1.ok hr rfl a1.nm a1.kp a1.bd .nil bA (eF (bR fU (pv 0) aL (fun _ _=>rfl)) (bS aL (bS aL aF)))) (lF (aX a1.ok hr rfl a1.nm a1.kp a1.bd .nil bA (eF (bR fU (pv 0) aL (fun _ _=>rfl)) (bS aL (bS aL aF)))))))),?_⟩
  obtain⟨t,ty,_,_,k3⟩:=lB (K:=K) (kn.le (by decide))
  refine⟨_,rfl,_,"tuple",t,_,rfl,ty,k3,_,rfl,?_⟩
  cases z:tupOf H v with
  |none=>
   have e:clV H v=false:=by unfold clV;rw [z]
   rw [e]at q
   exact bE (bE q)
  |some xs=>
   obtain⟨a,rfl,ha⟩:=eX z
   obtain⟨hz,hx⟩:=kn.items ha
   refine aY ?_
   refine⟨_,rfl,a,xs,rfl,.inr (SqT.of ha),rfl,_,rfl,?_⟩
   by_cases h3:xs.length=3
   ·match xs,ha,z,hx,h3 with
    | [x0,x1,x2],ha,z,hx,_=>
     have k0:Kn H 1 x0:=hx x0 (by simp)
     have k1:Kn H 1 x1:=hx x1 (by simp)
     have k2:Kn H 1 x2:=hx x2 (by simp)
     have e:clV H (.ref a)=(bG 0 3 x0&&(bG 0 5 x1&&bG 1 20 x2)):=by unfold clV;rw [z]
     rw [e]at q
     refine nR rfl ?_
     refine⟨_,rfl,a,_,0,x0,rfl,rfl,SqT.of ha,bF (j:=0) rfl,_,0,3,rfl,k0,_,rfl,?_⟩
     cases e0:bG 0 3 x0 with
     |false=>rw [e0]at q;exact bE q
     |true=>
      rw [e0]at q
      refine aY ?_
      refine⟨_,rfl,a,_,1,x1,rfl,rfl,SqT.of ha,bF (j:=1) rfl,_,0,5,rfl,k1,_,rfl,?_⟩
      cases e1:bG 0 5 x1 with
      |false=>rw [e1]at q;exact aY q
      |true=>
       rw [e1]at q
       refine bE ?_
       exact⟨_,rfl,a,_,2,x2,rfl,rfl,SqT.of ha,bF (j:=2) rfl,_,1,20,rfl,k2,q⟩
   ·have e:clV H (.ref a)=false:=by
     unfold clV;rw [z]
     match xs,h3 with
     | [_,_,_],h=>exact absurd rfl h
     | [],_=>rfl
     | [_],_=>rfl
     | [_,_],_=>rfl
     |_::_::_::_::_,_=>rfl
    rw [e]at q
    have hne:decide (V.int (xs.length:Int)=V.int 3)=false:=decide_eq_false (fun z=>h3 (by have:=V.int.inj z;omega))
    show if (!decide (V.int (xs.length:Int)=V.int 3))=true then _ else _
    rw [hne]
    exact bE (bE q)
end
def tX (K:W.Frag):Sp:=fun vs H Q _=> ∃a ns k,vs=[.ref a,.int k]/\SqL K H a ((ns:List Int).map V.int)/\0<=k/\∀i,Q (.int i) H
def wD:Sp:=fun vs H Q _=> ∃i:Int,vs=[.int i]/\∀p H',H p=none->Same H H'->PenAt H' p->Q (.ref p) H'
def jS:Sp:=fun vs H Q _=> ∃p m,vs=[.ref p,.int m]/\PenAt H p/\0<m/\m<1000000/\∀d H',0<=d->d<m->Stp p H H'->Q (.int d) H'
section
variable {P:Program}{w:World}{K:W.Frag}{mg:Str->Option Value}{base:Heap}
theorem A7c:bH ["_law_script","_law_k"] ["_law_script","_law_k"] (aQ pC):=by ac_rfl
theorem B13 {f:Addr}{fd:FuncData}(F:Fun K "_law_cell" "_law_cell" pC f fd)(T:Txt mg):aR P w K mg base CX0 1 f fd ["_law_script","_law_k"] (tX K):=by
 refine F.ok A7c (fun vs H Q E h=> ?_) (fun cdv A outer s H vs Q E hr h=> ?_)
 ·obtain⟨a,ns,k,rfl,_⟩:=h;rfl
 ·obtain⟨a,ns,k,rfl,ha,hk,q⟩:=h
  refine⟨_,aW (bU (bP mV (pv 1) (bB eR rfl T.len PySem.boot_len (bD (pv 0) aF)) (nomark _)) (aV (aZ (bR cG (pv 0) (pv 1) (fun _ _=>rfl)))) bT) (aV (aZ aL)),?_⟩
  refine⟨_,rfl,_,rfl,a,_,rfl,.inl ha,_,_,rfl,rfl,_,rfl,cW (fun h1=> ?_) fun h1=>q 0⟩
  rw [List.length_map]at h1
  obtain⟨n,rfl⟩:=Int.eq_ofNat_of_zero_le hk
  have hlt:n<ns.length:=by omega
  exact⟨_,rfl,_,rfl,a,_,n,.int ns[n],rfl,rfl,ha,bF (by rw [List.getElem?_map];simp [hlt]),q _⟩
theorem A5u:bH ["_law_cell_here"] ["_law_cell_here"] (aQ qG):=by ac_rfl
theorem A4y {f:Addr}{fd:FuncData}(F:Fun K "_law_pen" "_law_pen" qG f fd)(T:Txt mg):aR P w K mg base CX0 1 f fd ["_law_cell_here"] wD:=by
 refine F.ok A5u (fun vs H Q E h=> ?_) (fun cdv A outer s H vs Q E hr h=> ?_)
 ·obtain⟨i,rfl,_⟩:=h;rfl
 ·obtain⟨i,rfl,q⟩:=h
  refine⟨_,aV (aZ (fC (bD (pv 0) (bD (fS wL rfl T.int boot_int (bD (jJ yV (pv 0) (bJ rS aL aL) (nomark _)) aF)) aF)))),?_⟩
  refine⟨_,rfl,_,rfl,_,_,rfl,rfl,⟨by decide,by decide,by decide⟩,_,_,rfl,rfl,.inr ⟨_,rfl,?_⟩⟩
  refine⟨by show 2<=sizeLine;decide,fun l hl=> ?_⟩
  exact q l _ hl (aJ hl) ⟨_,_,aI⟩
theorem scDraw:bH ["_law_pen_here","_law_bound","_law_drawn"] ["_law_pen_here","_law_bound"] (aQ pK):=by ac_rfl
theorem A45 {f:Addr}{fd:FuncData}(F:Fun K "_law_draw" "_law_draw" pK f fd)(T:Txt mg):aR P w K mg base CX0 1 f fd ["_law_pen_here","_law_bound"] jS:=by
 refine F.ok scDraw (fun vs H Q E h=> ?_) (fun cdv A outer s H vs Q E hr h=> ?_)
 ·obtain⟨p,m,rfl,_⟩:=h;rfl
 ·obtain⟨p,m,rfl,⟨x,f1,hp⟩,h0,h1,q⟩:=h
  refine⟨_,aW (bU (bP dG (bR cG (pv 0) aL (fun _ _=>rfl)) aL (nomark _))
    (aW (dR (i:=2) scDraw.nd rfl (Or.inl rfl) (bJ jR (bR cG (pv 0) aL (fun _ _=>rfl)) (pv 1)))
    (aW (pM (bJ pH (bR cG (pv 0) aL (fun _ _=>rfl)) (pv 1)) (rB (pv 0) aL rY))
    (aV (aZ (pv 2))))) bT)
   (aW (pM (bJ jR (bJ fX (bJ rK (bJ jR (bR cG (pv 0) aL (fun _ _=>rfl)) aL) aL) aL) aL) (rB (pv 0) aL rY))
   (aV (aZ (bJ jR (bJ pH (bJ jR (bJ fX (bJ rK (bR cG (pv 0) aL (fun _ _=>rfl)) (bR cG (pv 0) aL (fun _ _=>rfl))) (bJ rK aL (bR cG (pv 0) aL (fun _ _=>rfl)))) aL) aL) (pv 1))))),?_⟩
  refine⟨_,rfl,p,_,1,_,rfl,rfl,SqL.of hp,bF (j:=1) rfl,rfl,_,rfl,cW (fun _=> ?_) fun _=> ?_⟩
  ·refine⟨_,rfl,p,_,0,_,rfl,rfl,SqL.of hp,bF (j:=0) rfl,_,rfl,_,_,rfl,rfl,h0,?_⟩
   refine⟨_,rfl,p,_,0,_,rfl,rfl,SqL.of hp,bF (j:=0) rfl,_,rfl,_,_,rfl,rfl,⟨h0,by omega⟩,?_⟩
   refine⟨_,rfl,p,_,0,0,rfl,rfl,hp,rfl,?_⟩
   refine⟨_,rfl,?_⟩
   exact q _ _ (Int.emod_nonneg _ (by omega)) (Int.emod_lt_of_pos _ h0) ⟨⟨_,_,aI⟩,fun b o hb e=>by rw [aS hb];exact e⟩
  ·have hm:∀y:Int,0<=y%2147483629/\y%2147483629<2147483629:=fun y=> ⟨Int.emod_nonneg _ (by omega),Int.emod_lt_of_pos _ (by omega)⟩
   have b1:=hm x
   have b2:=hm (x%2147483629*48271+11)
   refine⟨_,rfl,p,_,0,_,rfl,rfl,SqL.of hp,bF (j:=0) rfl,_,_,rfl,rfl,(by show(0:Int)<2147483629;decide),_,_,rfl,rfl,.inl ⟨by omega,by omega⟩,_,_,rfl,rfl,_,_,rfl,rfl,(by show(0:Int)<2147483629;decide),?_⟩
   refine⟨_,rfl,p,_,0,0,rfl,rfl,hp,rfl,?_⟩
   refine⟨_,rfl,p,_,0,_,rfl,rfl,SqL.of aI,bF (j:=0) rfl,_,rfl,p,_,0,_,rfl,rfl,SqL.of aI,bF (j:=0) rfl,_,_,rfl,rfl,.inl ⟨by omega,by omega⟩,?_⟩
   refine⟨_,rfl,p,_,0,_,rfl,rfl,SqL.of aI,bF (j:=0) rfl,_,_,rfl,rfl,.inl ⟨by decide,by decide⟩,_,_,rfl,rfl,_,_,rfl,rfl,(by show(0:Int)<2147483647;decide),_,_,rfl,rfl,⟨by decide,by decide⟩,_,rfl,_,_,rfl,rfl,h0,?_⟩
   exact q _ _ (Int.emod_nonneg _ (by omega)) (Int.emod_lt_of_pos _ h0) ⟨⟨_,_,aI⟩,fun b o hb e=>by rw [aS hb];exact e⟩
end
def kE:Sp:=fun vs H Q _=> ∃p l xs,vs=[.ref p,.ref l]/\PenAt H p/\l≠p/\H l=some (.lst xs)/\1<=xs.length/\xs.length<=1000/\∀v H',v∈xs->Stp p H H'->Q v H'
section
variable {P:Program}{w:World}{K:W.Frag}{mg:Str->Option Value}{base:Heap}
theorem A0s:bH ["_law_pen_here","_law_things"] ["_law_pen_here","_law_things"] (aQ mJ):=by ac_rfl
theorem B0m {f g1:Addr}{fd d1:FuncData}(F:Fun K "_law_pick" "_law_pick" mJ f fd)(T:Txt mg)(a1:At P w K mg base 1 "_law_draw" g1 d1 ["_law_pen_here","_law_bound"] jS):aR P w K mg base CX0 2 f fd ["_law_pen_here","_law_things"] kE:=by
 refine F.ok A0s (fun vs H Q E h=> ?_) (fun cdv A outer s H vs Q E hr h=> ?_)
 ·obtain⟨p,l,xs,rfl,_⟩:=h;rfl
 ·obtain⟨p,l,xs,rfl,hp,hlp,hl,h1,hz,q⟩:=h
  refine⟨_,aV (aZ (bR cG (pv 1) (aX a1.ok hr rfl a1.nm a1.kp a1.bd .nil bA (aG (pv 0) (bQ (bB eR rfl T.len PySem.boot_len (aG (pv 1) aF)) aF))) (fun _ _=>rfl))),?_⟩
  refine⟨_,rfl,_,rfl,_,rfl,l,xs,rfl,.inl (SqL.of hl),p,(xs.length:Int),rfl,hp,by omega,by omega,fun d H' d0 d1' st=> ?_⟩
  obtain⟨n,rfl⟩:=Int.eq_ofNat_of_zero_le d0
  have hn:n<xs.length:=by omega
  exact⟨l,xs,_,xs[n],rfl,rfl,SqL.of (st.keep l _ hlp hl),bF (List.getElem?_eq_getElem hn),q _ _ (List.getElem_mem _) st⟩
end
end M04
namespace L2
open PySem PySem.Spec PyProof.Rows
mutual
def RdA (H:Hp):PyData->V->Prop
 | .none,v=>v= .non
 | .bool b,v=>v= .bl b
 | .int i,v=>v= .int i
 | .str x,v=>v= .str x
 | .list ds,v=> ∃a xs,v= .ref a/\H a=some (.lst xs)/\RdAs H ds xs
 | .tuple ds,v=> ∃a xs,v= .ref a/\H a=some (.tup xs)/\RdAs H ds xs
 | .dict kvs,v=> ∃a ks,v= .ref a/\H a=some (.dK ks)/\RdKv H kvs ks
def RdAs (H:Hp):List PyData->List V->Prop
 | [],xs=>xs=[]
 |d::ds,xs=> ∃y ys,xs=y::ys/\RdA H d y/\RdAs H ds ys
def RdKv (H:Hp):List (PyData×PyData)->List (Key×V)->Prop
 | [],xs=>xs=[]
 | (k,d)::r,xs=> ∃j y ys,xs=(j,y)::ys/\RdA H k (kV j)/\RdA H d y/\RdKv H r ys
end
mutual
theorem RdA.same {H H':Hp}(s:Same H H'):∀{d:PyData}{v:V},RdA H d v->RdA H' d v
 | .none,_,h=>h
 | .bool _,_,h=>h
 | .int _,_,h=>h
 | .str _,_,h=>h
 | .list ds,_,h=>by
  simp only [RdA]at h⊢
  obtain⟨a,xs,e,ha,hx⟩:=h
  exact⟨a,xs,e,s _ _ ha,RdAs.same s hx⟩
 | .tuple ds,_,h=>by
  simp only [RdA]at h⊢
  obtain⟨a,xs,e,ha,hx⟩:=h
  exact⟨a,xs,e,s _ _ ha,RdAs.same s hx⟩
 | .dict kvs,_,h=>by
  simp only [RdA]at h⊢
  obtain⟨a,xs,e,ha,hx⟩:=h
  exact⟨a,xs,e,s _ _ ha,RdKv.same s hx⟩
theorem RdAs.same {H H':Hp}(s:Same H H'):∀{ds:List PyData}{xs:List V},RdAs H ds xs->RdAs H' ds xs
 | [],_,h=>h
 |d::ds,_,h=>by
  simp only [RdAs]at h⊢
  obtain⟨y,ys,e,h1,h2⟩:=h
  exact⟨y,ys,e,RdA.same s h1,RdAs.same s h2⟩
theorem RdKv.same {H H':Hp}(s:Same H H'):∀{ds:List (PyData×PyData)}{xs:List (Key×V)},RdKv H ds xs->RdKv H' ds xs
 | [],_,h=>h
 | (k,d)::ds,_,h=>by
  simp only [RdKv]at h⊢
  obtain⟨j,y,ys,e,h0,h1,h2⟩:=h
  exact⟨j,y,ys,e,RdA.same s h0,RdA.same s h1,RdKv.same s h2⟩
end
mutual
def fK:PyData->Bool
 | .none| .bool _| .int _| .str _=>false
 | .list _=>true
 | .tuple xs=>gF xs
 | .dict kvs=>pS kvs
def gF:List PyData->Bool
 | []=>false
 |x::xs=>fK x||gF xs
def pS:List (PyData×PyData)->Bool
 | []=>false
 | (k,v)::r=>fK k||fK v||pS r
end
section
variable {P:Program}{w:World}{H:Hp}{h:Heap}
theorem A12:∀{ks:List (Key×V)}{vs:List (Key×Value)}{es:List DictEntry},KV ks vs->Pairs (eA P w) es vs->Paired (fun(p:Key×V) (e:DictEntry)=>RelV (kV p.1) e.key/\RelV p.2 e.val) ks es
 | [],_,_,.nil,.nil=> .nil
 |_::_,_,_,.cons r t,.cons p q s=>by
  refine .cons ⟨?_,?_⟩ (A12 t s)
  ·rw [r.1]
   rcases keyIs_shape p with⟨i,t',e1,e2⟩| ⟨x,t',e1,e2⟩
   ·rw [e1,e2];exact⟨t',rfl⟩
   ·rw [e1,e2];exact⟨t',rfl⟩
  ·rw [q];exact r.2
end
mutual
def hJ:PyData->Bool
 | .none| .bool _| .int _| .str _| .dict _=>true
 | .list xs=>fO xs
 | .tuple xs=>decide (xs.length<=1000)&&fO xs
def fO:List PyData->Bool
 | []=>true
 |x::xs=>hJ x&&fO xs
end
structure Gd (n D:Nat)(d:PyData):Prop where
 sh:d.showable=true
 lv:d.leavesShort 64=true
 wt:d.weight<=n
 dp:d.depth<=D
 ln:hJ d=true
theorem Gd.mono {n m D E:Nat}{d:PyData}(g:Gd n D d)(h:n<=m)(h2:D<=E):Gd m E d:=⟨g.sh,g.lv,Nat.le_trans g.wt h,Nat.le_trans g.dp h2,g.ln⟩
theorem Gd.all {n D:Nat}:∀{ds:List PyData},(∀d∈ds,Gd n D d)->PyData.showableAll ds=true/\PyData.leavesShortAll 64 ds=true/\PyData.weightAll ds<=ds.length*(n+1)/\PyData.depthAll ds<=D/\fO ds=true
 | [],_=> ⟨rfl,rfl,by simp [PyData.weightAll],by simp [PyData.depthAll],rfl⟩
 |d::ds,h=>by
  obtain⟨h1,h2,h3,h4,h5⟩:=Gd.all fun d' hd'=>h d' (List.mem_cons_of_mem _ hd')
  have g:=h d List.mem_cons_self
  refine⟨by simp only [PyData.showableAll,g.sh,h1,Bool.and_self],by simp only [PyData.leavesShortAll,g.lv,h2,Bool.and_self],?_,?_,by simp only [fO,g.ln,h5,Bool.and_self]⟩
  ·have:=g.wt
   simp only [PyData.weightAll,List.length_cons,Nat.succ_mul];omega
  ·have:=g.dp
   simp only [PyData.depthAll];omega
theorem Gd.fits {n D:Nat}{d:PyData}(g:Gd n D d)(hn:n<=100000):d.shown.length<=sizeLine:=by
 have h:=PyData.shown_le 64 (by decide) d g.lv
 have:=g.wt
 have h2:(64+2)*d.weight<=66*100000:=Nat.mul_le_mul (by decide) (by omega)
 rw [sizeLine_eq];omega
section
variable {X:Cx}
end
end L2
namespace M04
open PySem L2 PyProof.Rows
theorem lS:bootBuiltins "sorted" =some (.builtin "sorted"):=by decide +kernel
section
variable {P:Program}{w:World}{K:W.Frag}{mg:Str->Option Value}{base:Heap}
theorem A6x {a l:Addr}{bs:List Addr}{cl:List C3}{te:TE}{H0:Hp}{Q:L2.St->Hp->Prop}(ha:H0 a=some (.tup (bs.map V.ref)))(hC:ClP H0 bs cl)(hl:H0 l=none)(hz:bs.length<=1000)
  (turn:∀(b:Addr)(c:C3)(H':Hp)(Q':VK),H' b=some (.tup [.int c.1,.int c.2.1,.int c.2.2])->(∀p H2,Same H' H2->H2 p=some (.tup [.int c.1,.int c.2.1])->Q' (.ref p) H2)->te [some (.ref b)] H' Q')
  (hQ:∀(σ:L2.St)(H':Hp)(zs:List (Addr×List Int)),Same H0 H'->H' l=some (.lst (zs.map fun z=>V.ref z.1))->zs.map (·.2)=(cl.map bK).map r2->(∀z∈zs,H' z.1=some (.tup (z.2.map V.int)))->Q σ H'):
  eN (Itt K a) (dJ 0) (eG jI (eL l te)) (eC Q) [none] (upd H0 l (.lst [])):=by
 have hlen:bs.length=cl.length:=Paired.length hC
 refine pO (K:=K) (a:=a) (xs:=bs.map V.ref) (fun i σ H'=>σ.length=1/\Same H0 H'/\∃zs:List (Addr×List Int),H' l=some (.lst (zs.map fun z=>V.ref z.1))/\zs.map (·.2)=((cl.take i).map bK).map r2/\∀z∈zs,H' z.1=some (.tup (z.2.map V.int)))
  ⟨rfl,aJ hl,[],by rw [aI];rfl,rfl,fun z h=>by cases h⟩ (fun i σ H' _ h=>SqT.of (h.2.1 _ _ ha)) ?_ ?_
 ·rintro i x σ H' hx ⟨hσ,hs,zs,hl',hz1,hz2⟩
  match σ,hσ with
  | [x0],_=>
  rw [List.getElem?_map]at hx
  cases hb:bs[i]? with
  |none=>rw [hb]at hx;cases hx
  |some b=>
   rw [hb]at hx;cases hx
   obtain⟨c,hc,he⟩:=hC.get hb
   have hil:i<bs.length:=(List.getElem?_eq_some_iff.mp hb).1
   have hzl:zs.length<=i:=by
    have:=congrArg List.length hz1
    rw [List.length_map,List.length_map,List.length_map,List.length_take]at this;omega
   refine pU ?_
   refine turn b c H' _ (hs _ _ he) fun p H2 s2 hp=> ?_
   have hl2:=s2 _ _ hl'
   refine⟨_,hl2,eW (by rw [List.length_map];omega),rfl,fun b' u e'=> ?_,zs++[(p,r2 (bK c))],?_,?_,fun z hz'=> ?_⟩
   ·rw [aS (cB e' hl)];exact s2 _ _ (hs _ _ e')
   ·rw [aI,List.map_append];rfl
   ·rw [List.map_append,hz1,List.take_succ,hc,List.map_append,List.map_append];rfl
   ·have up:∀a xs,H2 a=some (.tup xs)->(upd H2 l (.lst (zs.map (fun z=>V.ref z.1)++[.ref p]))) a=some (.tup xs):=fun a xs e=>by rw [aS (fun z=>by rw [z,hl2]at e;cases e)];exact e
    rcases List.mem_append.mp hz' with z'|z'
    ·exact up _ _ (s2 _ _ (hz2 z z'))
    ·rw [List.mem_singleton.mp z'];exact up _ _ hp
 ·rintro σ H' ⟨_,hs,zs,hl',hz1,hz2⟩
  rw [List.length_map,hlen,List.take_of_length_le (Nat.le_refl _)]at hz1
  exact hQ σ H' zs hs hl' hz1 hz2
abbrev nAC:List Str:=["_law_thing_here","_law_pairs"]
theorem scAreClaims:bH nAC ["_law_thing_here"] (aQ iQ):=by ac_rfl
theorem B0d {f g1:Addr}{fd d1:FuncData}(F:Fun K "_law_are_claims" "_law_are_claims" iQ f fd)(T:Txt mg)(a1:At P w K mg base 2 "_law_is_claim" g1 d1 ["_law_thing_here"] jD):aR P w K mg base CX0 3 f fd ["_law_thing_here"] lW:=by
 refine F.ok scAreClaims (fun vs H Q E h=> ?_) (fun cdv A outer s H vs Q E hr h=> ?_)
 ·obtain⟨v,rfl,_⟩:=h;rfl
 ·obtain⟨v,rfl,kn,q⟩:=h
  have nd:=scAreClaims.nd
  have hu64:=hr.units
  have hu0:(A.deeper (envOfC "_law_are_claims" (aQ iQ) s.heap.objs.size f cdv)).units+0+1<cLine:=by omega
  have hu1:(A.deeper (envOfC "_law_are_claims" (aQ iQ) s.heap.objs.size f cdv)).units+1+1<cLine:=by omega
  have hu8:(A.deeper (envOfC "_law_are_claims" (aQ iQ) s.heap.objs.size f cdv)).units+8<cLine:=by omega
  refine⟨_,aW (bU (PW.pt (gL (cY (cU (bB jF rfl T.isinstance boot_isinstance (aG (pv 0) (aG (iP (v:=.ty "tuple") rfl T.tuple boot_tuple rfl) aF)))))
    (iM (cY (A0k iG iG aL (bB eR rfl T.len PySem.boot_len (aG (pv 0) aF)) aL))))) (aV (aZ eZ)) bT)<|
   aW (bU (bP (wJ 0 hu0) (dL (aQ iQ).names nAC ["_law_one"] [] rfl (eV (pv 0)) rfl rfl rfl (by decide +kernel)
    (fun Z=>bL (i:=0) sD rfl (Or.inl rfl)) (fun Z=>iI (cY (cU (aX a1.ok hr rfl a1.nm a1.kp a1.bd .nil bA (aG (pv 0) aF))))) (fun Z=>pv 0)) (fC aF) (nomark _)) (aV (aZ eZ)) bT)<|
   aW (rW (i:=1) (aQ iQ).names nAC ["_law_one"] [] rfl nd rfl rfl (eV (pv 0)) rfl rfl rfl (by decide +kernel) (fun Z=>bL (i:=0) sD rfl (Or.inl rfl)) (fun Z=>fJ) (fun Z=>fF gG (pv 0) fM (fA aL)))<|
   aV (aZ (jJ (A05 1 hu1) (pv 1) (bB (A5x rfl) rfl T.sorted lS (bQ (fS (A8r rfl hu8) rfl T.set boot_set (aG (pv 1) aF)) aF)) (nomark _))),?_⟩
  obtain⟨t,ty,_,_,k3⟩:=lB (K:=K) (kn.le (show 1<=3 by decide))
  refine⟨_,rfl,_,"tuple",t,_,rfl,ty,k3,_,rfl,?_⟩
  cases z:tupOf H v with
  |none=>
   have e:bV H v=false:=by unfold bV;rw [z]
   rw [e]at q
   exact bE (bE (q H (Same.refl H)))
  |some xs=>
   obtain⟨a,rfl,ha⟩:=eX z
   obtain⟨hz,hx⟩:=kn.items ha
   refine aY ?_
   refine⟨_,rfl,a,xs,rfl,.inr (SqT.of ha),_,_,rfl,rfl,_,rfl,?_⟩
   have e0:bV H (.ref a)=(decide (1<=xs.length)&&decide (xs.length<=12)&&xs.all (clV H)&&upL (xs.map (k2V H))):=by unfold bV;rw [z]
   rw [e0]at q
   refine cW (fun h1=> ?_) fun h1=> ?_
   ·refine⟨_,_,rfl,rfl,_,rfl,?_⟩
    rw [decide_eq_true (show 1<=xs.length by omega)]at q
    by_cases h12:(xs.length:Int)<=12
    ·rw [decide_eq_true h12]
     refine aY ?_
     rw [decide_eq_true (show xs.length<=12 by omega)]at q
     refine⟨_,rfl,a,rfl,⟨_,SqT.of ha⟩,fun Z l hl=> ?_⟩
     refine A1f (fun x=> !(clV H x)) ha hl hz (fun x H' Q' hm hs hq=> ?_) fun σ H' hs hl'=> ?_
     ·refine⟨_,rfl,_,rfl,(hx x hm).ext hs.ext,_,rfl,?_⟩
      rw [jN hs ((hx x hm).le (by decide))]
      exact hq _ (Same.refl _)
     ·refine⟨by show 0<=sizeLine;decide,fun l2 hl2=> ?_⟩
      have s2:=aJ (o:=.lst []) hl2
      have hsA:=hs.trans s2
      refine⟨l,l2,_,[],rfl,rfl,s2 _ _ hl',aI,?_⟩
      have hall:xs.all (clV H)=decide (xs.filter (fun x=> !(clV H x))=[]):=by
       rw [Bool.eq_iff_iff,List.all_eq_true,decide_eq_true_eq,List.filter_eq_nil_iff]
       simp
      by_cases hf:xs.filter (fun x=> !(clV H x))=[]
      ·rw [decide_eq_true hf]at hall
       rw [hall]at q
       rw [hf]
       refine .inr ⟨[],trivial,_,rfl,aY ?_⟩
       obtain⟨bs,cl,rfl,hC,hk⟩:=mG hall
       rw [List.length_map]at h1 h12 hz
       have hlen:bs.length=cl.length:=Paired.length hC
       refine⟨_,rfl,a,rfl,⟨_,SqT.of (hsA _ _ ha)⟩,fun Z2 l3 hl3=> ?_⟩
       refine A6x (hsA _ _ ha) (hC.ext hsA.ext) hl3 hz (fun b c H' Q' hb hq=> ?_) fun σ2 H2 zs hs2 hz2 hzk hza=> ?_
       ·exact⟨_,rfl,_,rfl,b,_,rfl,hb,fun p H3 s3 hp=>hq p H3 s3 hp⟩
       have hzl:zs.length=cl.length:=by
        have:=congrArg List.length hzk
        simpa using this
       refine⟨_,rfl,_,rfl,l3,zs,rfl,SqL.of hz2,hza,by omega,fun ls ys hls hD=> ?_⟩
       have s4:=aJ (o:=iT w ls ys) hls
       have hlen2:∀z∈zs,z.2.length=2:=fun z hz'=>by
        have:z.2∈(cl.map bK).map r2:=by rw [←hzk];exact List.mem_map_of_mem hz'
        obtain⟨c,_,e⟩:=List.mem_map.mp this
        rw [←e];rfl
       have hyl:ys.length<=zs.length:=by
        have:=Stb.len_le_of_sub (ys.map (·.1)) (zs.map (·.2)) hD.nd fun k hk'=>by
         obtain⟨x,hx',rfl⟩:=List.mem_map.mp hk'
         exact List.mem_map.mpr ⟨_,hD.of x hx',rfl⟩
        simpa using this
       refine⟨ls,ys,rfl,aI,fun x hx'=> ⟨s4 _ _ (hza _ (hD.of x hx')),fun e=> ?_⟩,by omega,fun lo zs' hlo hS=> ?_⟩
       ·have:=hlen2 _ (hD.of x hx')
        rw [show((x.2,x.1):Addr×List Int).2=x.1 from rfl,e]at this;cases this
       have s5:=aJ (o:=.lst (zs'.map fun z=>V.ref z.1)) hlo
       have hmem:∀z∈zs',z∈zs:=fun z hz'=>by
        obtain⟨x,hx',e⟩:=List.mem_map.mp (hS.1.mem_iff.mp hz')
        rw [←e];exact hD.of x hx'
       have heq:=A25 hD hS
       have s45:=s4.trans s5
       have hlo':(upd (upd H2 ls (iT w ls ys)) lo (.lst (zs'.map fun z=>V.ref z.1))) lo=some (.lst (zs'.map fun z=>V.ref z.1)):=aI
       show pT 1 id (.ref l3) (.ref lo) (upd (upd H2 ls (iT w ls ys)) lo (.lst (zs'.map fun z=>V.ref z.1))) Q
       have s45':Same H2 (upd (upd H2 ls (iT w ls ys)) lo (.lst (zs'.map fun z=>V.ref z.1))):=s45
       generalize upd (upd H2 ls (iT w ls ys)) lo (.lst (zs'.map fun z=>V.ref z.1))=HF at hlo' s45'⊢
       refine⟨l3,lo,_,_,rfl,rfl,s45' _ _ hz2,hlo',?_⟩
       have hq:Q (.bl (upL (zs.map (·.2)))) HF:=by
        have:=q HF ((hsA.trans hs2).trans s45')
        rw [hk]at this
        rw [hzk];exact this
       rw [←heq]at hq
       by_cases hne:zs.length=zs'.length
       ·obtain⟨ks,g1,g2⟩:=xH (H:=HF) (n:=0) (m:=2) hne (fun z hz'=> ⟨s45' _ _ (hza z hz'),hlen2 z hz'⟩) (fun z hz'=> ⟨s45' _ _ (hza z (hmem z hz')),hlen2 z (hmem z hz')⟩)
        rw [←g2]at hq
        exact .inr ⟨ks,g1,hq⟩
       ·rw [decide_eq_false (fun e=>hne (by have:=congrArg List.length e;simpa using this))]at hq
        exact .inl ⟨by rw [List.length_map,List.length_map];exact hne,hq⟩
      ·rw [decide_eq_false hf]at hall
       rw [hall]at q
       exact .inl ⟨fun e=>hf (List.length_eq_zero_iff.mp e),_,rfl,bE (q _ hsA)⟩
    ·rw [decide_eq_false h12]
     refine bE ?_
     rw [decide_eq_false (show¬xs.length<=12 by omega)]at q
     exact q H (Same.refl H)
   ·rw [decide_eq_false (show¬1<=xs.length by omega)]at q
    exact⟨_,rfl,bE (q H (Same.refl H))⟩
end
def s2V (H:Hp)(v:V):Int:=match tupOf H v with|some [_,.int s,_]=>s|_=>0
def unV (H:Hp)(c cl:V):Bool:=match tupOf H cl with|some xs=>xs.all fun x=>decide (s2V H x<(iZ H c:Int))|none=>true
theorem A3n {H:Hp}{v:V}(h:cuV H v=true):∃a xs,v= .ref a/\H a=some (.tup xs)/\xs.length<=6:=by
 unfold cuV at h
 cases e:tupOf H v with
 |none=>rw [e]at h;cases h
 |some xs=>
  rw [e]at h
  obtain⟨a,rfl,ha⟩:=eX e
  have h':(decide (1<=xs.length)&&decide (xs.length<=6)&&xs.all (bG 1 100))=true:=h
  simp only [Bool.and_eq_true,decide_eq_true_eq]at h'
  exact⟨a,xs,rfl,ha,h'.1.2⟩
theorem A3x {H:Hp}{b:Addr}{c:C3}(h:H b=some (.tup [.int c.1,.int c.2.1,.int c.2.2])):s2V H (.ref b)=c.2.1:=by
 unfold s2V;rw [jB h]
theorem wP {H:Hp}{n:Int}:∀{bs:List Addr}{cl:List C3},ClP H bs cl->((bs.map V.ref).all fun x=>decide (s2V H x<n))=cl.all fun c=>decide (c.2.1<n)
 |_,_,.nil=>rfl
 |_,_,.cons r t=>by rw [List.map_cons,List.all_cons,List.all_cons,A3x r,wP t]
theorem A3r {H:Hp}{v:V}(h:bV H v=true):∃a bs cl,v= .ref a/\H a=some (.tup (bs.map V.ref))/\ClP H bs cl/\bs.length<=12:=by
 unfold bV at h
 cases e:tupOf H v with
 |none=>rw [e]at h;cases h
 |some xs=>
  rw [e]at h
  obtain⟨a,rfl,ha⟩:=eX e
  have h':(decide (1<=xs.length)&&decide (xs.length<=12)&&xs.all (clV H)&&upL (xs.map (k2V H)))=true:=h
  simp only [Bool.and_eq_true,decide_eq_true_eq]at h'
  obtain⟨bs,cl,rfl,hC,_⟩:=mG h'.1.2
  exact⟨a,bs,cl,rfl,ha,hC,by have:=h'.1.1.2;rwa [List.length_map]at this⟩
theorem sM {H:Hp}{c:V}{a:Addr}{bs:List Addr}{cl:List C3}(ha:H a=some (.tup (bs.map V.ref)))(hC:ClP H bs cl):unV H c (.ref a)=cl.all fun x=>decide (x.2.1<(iZ H c:Int)):=by
 unfold unV;rw [jB ha];exact wP hC
theorem A8p {H H':Hp}(s:Same H H'){v:V}(k:Kn H 1 v):iZ H' v=iZ H v:=by unfold iZ;rw [s.tupOf k]
theorem A0l {H H':Hp}(s:Same H H'){v:V}(k:Kn H 1 v):cuV H' v=cuV H v:=by unfold cuV;rw [s.tupOf k]
theorem jT {H H':Hp}(s1:Same H H'){v:V}(kn:Kn H 3 v):bV H' v=bV H v:=by
 unfold bV
 rw [s1.tupOf (kn.le (by decide))]
 cases z:tupOf H v with
 |none=>rfl
 |some xs=>
  obtain⟨a,rfl,ha⟩:=eX z
  obtain⟨_,hx⟩:=kn.items ha
  have h1:xs.all (clV H')=xs.all (clV H):=by
   rw [Bool.eq_iff_iff,List.all_eq_true,List.all_eq_true]
   exact⟨fun h x hm=>by rw [←jN s1 ((hx x hm).le (by decide))];exact h x hm,fun h x hm=>by rw [jN s1 ((hx x hm).le (by decide))];exact h x hm⟩
  have h2:xs.map (k2V H')=xs.map (k2V H):=List.map_congr_left fun x hm=>by unfold k2V;rw [s1.tupOf ((hx x hm).le (by decide))]
  dsimp only
  rw [h1,h2]
def tF:Sp:=fun vs H Q _=> ∃c a xs bs cl,vs=[.ref c,.ref a]/\H c=some (.tup xs)/\H a=some (.tup (bs.map V.ref))/\ClP H bs cl/\bs.length<=12/\∀H',Same H H'->Q (.bl (cl.all fun x=>decide (x.2.1<(xs.length:Int)))) H'
section
variable {P:Program}{w:World}{K:W.Frag}{mg:Str->Option Value}{base:Heap}
theorem A9r:bH ["custom","claims"] ["custom","claims"] (aQ mF):=by ac_rfl
theorem uP:(["holder","sort","many","custom"]:List Str).Nodup:=by decide +kernel
theorem A5a {f:Addr}{fd:FuncData}(F:Fun K "stand_under" "stand_under" mF f fd)(T:Txt mg):aR P w K mg base CX0 1 f fd ["custom","claims"] tF:=by
 refine F.ok A9r (fun vs H Q E h=> ?_) (fun cdv A outer s H vs Q E hr h=> ?_)
 ·obtain⟨c,a,xs,bs,cl,rfl,_⟩:=h;rfl
 ·obtain⟨c,a,xs,bs,cl,rfl,hc,ha,hC,h12,q⟩:=h
  have hl:bs.length=cl.length:=Paired.length hC
  refine⟨_,aV (aZ (bB (qK rfl) rfl T.all boot_all (fW (dL (aQ mF).names ["custom","claims"] ["holder","sort","many"] [("custom",0)] rfl (eV (pv 1)) rfl rfl rfl (by decide +kernel)
   (fun Z=>gX rfl (cK (bL (i:=0) uP rfl (Or.inl rfl)) (cK (bL (i:=1) uP rfl (Or.inl rfl)) (cK (bL (i:=2) uP rfl (Or.inl rfl)) gJ)))) (fun Z=>fJ)
   (fun Z=>jJ mV (pv 1) (bB eR rfl T.len PySem.boot_len (bD (pv 3) aF)) (nomark _))) aF))),?_⟩
  refine⟨_,rfl,a,rfl,⟨_,SqT.of ha⟩,fun Z l hl'=> ?_⟩
  refine qC (rest:=[some (.ref c)]) gZ (fun H' hs=>SqT.of (hs _ _ ha)) hC hl' (by omega) (fun x=> .bl (decide (x.2.1<(xs.length:Int)))) (fun x H' Q' hm hs hq=> ?_) fun σ H1 hs1 hl1=> ?_
  ·exact⟨_,rfl,_,rfl,c,_,rfl,.inr (SqT.of (hs _ _ hc)),_,_,rfl,rfl,hq _ (Same.refl _)⟩
  ·refine⟨l,cl.map fun x=>decide (x.2.1<(xs.length:Int)),rfl,SqL.of (by rw [hl1];simp only [List.map_map];rfl),?_⟩
   rw [show(cl.map fun x=>decide (x.2.1<(xs.length:Int))).all id=cl.all fun x=>decide (x.2.1<(xs.length:Int)) by rw [List.all_map];rfl]
   exact q _ hs1
end
end M04
namespace L2
open PySem PySem.Spec PyProof.Rows
def iF (e:Addr)(d:Option Addr)(h:Heap):Prop:=∃o,h.get? e=some o/\o.dict=d
def KD (e:Addr){α:Type}(t:Sem α):Prop:=∀(M:Model)(Γ:PySem.Ctx)(Q:α->Pos->Shared->Prop)(E:Value->Pos->Shared->Prop)(p:Pos)(s:Shared)(d:Option Addr),iF e d s.heap->Sem.wp M Γ t Q E p s->
 Sem.wp M Γ t (fun a p' s'=>Q a p' s'/\iF e d s'.heap) E p s
section
variable {e:Addr}{α β:Type}
theorem KD.pure {a:α}:KD e (Pure.pure a:Sem α):=fun M Γ Q E p s d x h=>by
 rw [Sem.wp_pure']at h⊢;exact⟨h,x⟩
theorem KD.uns {w:String}:KD e (PySem.unsupported w:Sem α):=fun M Γ Q E p s d x h=>h.elim
theorem KD.bind {m:Sem α}{f:α->Sem β}(a:KD e m)(b:∀x,KD e (f x)):KD e (m>>=f):=fun M Γ Q E p s d x h=>by
 rw [Sem.wp_bind']at h⊢
 exact Sem.wp_mono M Γ m (fun v p' s' z=>b v M Γ Q E p' s' d z.2 z.1) (fun _ _ _ z=>z) p s (a M Γ _ E p s d x h)
theorem KD.ite {c:Prop} [Decidable c]{a b:Sem α}(x:KD e a)(y:KD e b):KD e (if c then a else b):=by
 split
 ·exact x
 ·exact y
theorem KD.load {a:Addr}:KD e (PySem.load a):=fun M Γ Q E p s d x h=>by
 obtain⟨o,ho,z⟩:=h
 exact⟨o,ho,z,x⟩
theorem KD.stack:KD e PySem.stack:=fun M Γ Q E p s d x h=> ⟨h,x⟩
theorem KD.alloc {o:Obj}:KD e (PySem.alloc o):=fun M Γ Q E p s d x h=>by
 obtain⟨u,hu,hd⟩:=x
 exact⟨h,u,Heap.get?_push_of_some _ hu,hd⟩
theorem KD.update {a:Addr}{f:Obj->Obj}(hd:∀o,(f o).dict=o.dict)(hf:∀o,o.isFreed=false->(f o).isFreed=false):KD e (PySem.update a f):=fun M Γ Q E p s d x h=>by
 obtain⟨q,z⟩:=h
 refine⟨q,z,?_⟩
 obtain⟨u,hu,hd'⟩:=x
 by_cases h2:a=e
 ·subst h2
  exact⟨_,Heap.get?_update_self f hu (hf _ (Heap.get?_some_iff.mp hu).2),(hd u).trans hd'⟩
 ·exact⟨u,(Heap.get?_update_other _ _ h2).trans hu,hd'⟩
theorem KD.fieldsOf {v:Value}:KD e (PySem.fieldsOf v):=by
 unfold PySem.fieldsOf
 split
 ·refine KD.bind KD.load fun o=> ?_
  split
  ·exact KD.pure
  ·exact KD.uns
 ·exact KD.uns
theorem KD.field {v:Value}{i:Nat}:KD e (PySem.field v i):=by
 unfold PySem.field
 refine KD.bind KD.fieldsOf fun o=> ?_
 split
 ·exact KD.pure
 ·exact KD.uns
theorem KD.setField {v x:Value}{i:Nat}:KD e (PySem.setField v i x):=by
 unfold PySem.setField
 split
 ·unfold updateField
  refine KD.bind KD.load fun o=> ?_
  split
  ·split
   ·refine KD.update (fun o=> ?_) fun o h=> ?_
    ·unfold Obj.mapFields;split<;>rfl
    ·unfold Obj.mapFields
     obtain⟨c,dd,dt,sl⟩:=o
     cases dt<;>first|rfl|exact h
   ·exact KD.uns
  ·exact KD.uns
 ·exact KD.uns
theorem KD.newObjAsIs {c:String}{dt:Data}{dd:Option Addr}:KD e (PySem.newObjAsIs (.type c) dt dd):=by
 unfold PySem.newObjAsIs
 exact KD.bind KD.alloc fun _=>KD.pure
theorem KD.newEntry {a b c d f:Value}{l:List Value}:KD e (EntryCells.newEntry a b c d f l):=by
 unfold EntryCells.newEntry newFields newObj
 dsimp only
 exact KD.ite (KD.bind KD.uns fun _=>KD.newObjAsIs) KD.newObjAsIs
theorem KD.readyFrames:∀l:List Env,KD e (PySem.readyFrames l)
 | []=>KD.pure
 |env::outer=>by
  unfold PySem.readyFrames
  split
  ·refine KD.bind KD.load fun o=> ?_
   refine KD.ite KD.pure ?_
   refine KD.bind ?_ fun b=>KD.bind ?_ fun c=>KD.bind ?_ fun _=>KD.readyFrames outer
   ·unfold behindIsImport
    refine KD.ite KD.pure (KD.ite KD.pure (KD.bind KD.field fun _=>KD.pure))
   ·unfold keptBack
    split
    ·refine KD.ite KD.pure ?_
     unfold underTheClaimsCaller
     exact KD.bind (KD.bind KD.stack fun _=>KD.pure) fun _=>KD.pure
    ·exact KD.pure
   ·exact KD.update (fun o=>rfl) fun o h=>by obtain⟨c,dd,dt,sl⟩:=o;cases dt<;>first|rfl|exact h
  ·exact KD.uns
theorem KD.frameOf {env:Env}:KD e (PySem.frameOf env):=by
 unfold PySem.frameOf frameEnvs
 refine KD.bind (KD.bind KD.stack fun _=>KD.pure) fun l=>KD.bind ?_ fun r=> ?_
 ·unfold frameObject
  split
  ·exact KD.pure
  ·exact KD.bind (KD.readyFrames _) fun _=>KD.pure
 ·split
  ·exact KD.pure
  ·exact KD.uns
theorem KD.entryPlaceOf {f:Addr}{b:Bool}:KD e (PySem.entryPlaceOf f b):=by
 unfold PySem.entryPlaceOf
 refine KD.bind KD.stack fun l=> ?_
 split<;>exact KD.pure
theorem KD.noteFrame {v:Value}{env:Env}:KD e (PySem.noteFrame v env):=by
 unfold PySem.noteFrame
 split
 ·refine KD.bind KD.field fun hd=> ?_
  have last:∀(f:Addr),KD e (do
    let a←PySem.frameOf env
    let pl←PySem.entryPlaceOf f (hd != .none)
    let b←EntryCells.newEntry hd a .none (rawInt f) .none pl
    PySem.setField v 1 b):=fun f=>KD.bind KD.frameOf fun _=>KD.bind KD.entryPlaceOf fun _=>KD.bind KD.newEntry fun _=>KD.setField
  refine KD.ite ?_ (last _)
  refine KD.bind KD.field fun _=>KD.ite KD.pure (KD.bind KD.setField fun _=>last _)
 ·exact KD.uns
theorem KD.setFlight {v:Value}{f:Option Addr}:KD e (PySem.setFlight v f):=by
 unfold PySem.setFlight
 refine KD.bind KD.field fun hd=> ?_
 exact KD.ite KD.setField KD.pure
theorem KD.leaving {v:Value}{env:Env}:KD e (PySem.leaving env v):=by
 unfold PySem.leaving
 exact KD.bind KD.noteFrame fun _=>KD.setFlight
theorem KD.any {M:Model}{A:Around}{t:Sem α}{Q:α->Shared->Prop}{E:Value->Shared->Prop}{s:Shared}{d:Option Addr}(k:KD e t)(x:iF e d s.heap)(h:wpAny M A t Q E s):
  wpAny M A t (fun a s'=>Q a s'/\iF e d s'.heap) E s:=fun Γ p hΓ=>k M Γ _ _ p s d x (h Γ p hΓ)
end
def oP (K:W.Frag)(C:Addr)(bmB:List Value)(newId:String):Bool:=match K.lookup C with
 |some ⟨.type "type",_,.cls kd,sl⟩=>(match kd.mro,sl.toList with
  | .ref C'::tl0,[_,_,_,_,some (.builtin n),_]=>C'==C&&n==newId&& !kd.hasDel&&W.tailIn K bmB tl0&&W.nsOkIn K kd.ns
  |_,_=>false)
 |_=>false
structure ExcI (K:W.Frag)(C f:Addr):Prop where
 ex:oP K C bmV "ValueError.__new__" =true
 init:W.findIn K (.ref C) "__init__" =some (some (.ref f))
 fn:W.isFn K (.ref f)=true
 kp:W.keepIn K (.ref C)=true
theorem ExcI.obj {K:W.Frag}{C f:Addr}{h:Heap}(c:ExcI K C f)(X:K.In h):∃tl0 N nm q bs hdct sn sub ab col dd k0 k1 k2 k3 k5,
  h.get? C=some (excClassObj nm q C N bs tl0 hdct sn sub ab col dd k0 k1 k2 k3 k5 "ValueError.__new__")/\OwnTail h bmV tl0:=by
 have z:=c.ex
 unfold oP at z
 split at z
 ·rename_i dct cdat slt look
  split at z
  ·rename_i C2 tl a0 a1 a2 a3 nid a5 m1 m2
   simp only [Bool.and_eq_true,beq_iff_eq,Bool.not_eq_true']at z
   obtain⟨⟨⟨⟨rfl,rfl⟩,noDel⟩,tail⟩,isN⟩:=z
   obtain⟨y1,y2,y3,y4,y5,y6,y7,y8,y9,y10,y11⟩:=cdat
   dsimp only at m1 noDel isN
   subst m1 noDel
   obtain⟨ls⟩:=slt
   replace m2:ls=_:=m2
   subst m2
   exact⟨tl,y4,y1,y5,y2,y6,y7,y8,y9,y10,dct,a0,a1,a2,a3,a5,X _ _ look,W.tail_of_in X tail⟩
  ·cases z
 ·cases z
abbrev xO (C t:Addr)(d:Option Addr):Obj:={cls:=.ref C,dict:=d,data:=.fields #[.ref t,.none,.none,.none,.bool false,.none]}
abbrev iO (h:Heap)(C:Addr)(us:List Value):Heap:=(h.push {cls:=.type "tuple",data:=.seq us.toArray}).push (xO C h.objs.size none)
section
open PySem.W PySem.Calls Builtin
variable {prog:Program}{w:World}{A:Around}{E:Value->Shared->Prop}{K:W.Frag}{C f:Addr}{h:Heap}{g:Array GenState}{d:Drawn}{t:Nat}{os:OsState}{us:List Value}
theorem B05 {Q:Fin->Shared->Prop}(c:ExcI K C f)(X:K.In h)(hu:us.length<=sizeLine)
  (hq:wpAny (model prog w) A (call (.ref f) (.ref (h.objs.size+1)::us)) (fun r s'=>r= .none/\Q (.done (.ret (.ref (h.objs.size+1)))) s') E ⟨iO h C us,g,d,t,os⟩):
  wpAny (model prog w) A (Builtin.«type.__call__» ⟨.ref C::us,[]⟩) Q E ⟨h,g,d,t,os⟩:=by
 obtain⟨tl0,N,nm,q,bs,hdct,sn,sub,ab,col,dd,k0,k1,k2,k3,k5,hK,T⟩:=c.obj X
 have F:=PySem.F.excBase_ValueError
 repeat (first|with_reducible refine wpAny_loadPart_at hK ?_|with_reducible refine wpAny_madeBy_exc hK ?_|wp_step)
 refine codeAny_call_builtin_code (Code.quiet_builtin _ F.quiet) (wpAny_check_new_subT F T hK ?_)
 refine codeAny_exc_new_subT F T hK ?_ hu
 show wpAny _ _ _ _ _ ⟨iO h C us,g,d,t,os⟩
 have k1':∀b o,h.get? b=some o->(iO h C us).get? b=some o:=fun b o e=>Heap.get?_push_of_some _ (Heap.get?_push_of_some _ e)
 have hK1:=k1' _ _ hK
 have X1:K.In (iO h C us):=X.keeps k1'
 have hG:(iO h C us).get? (h.objs.size+1)=some (xO C h.objs.size none):=by heap_get
 have hSelf:(Value.ref C::tl0).contains (.ref C)=true:=by simp
 unfold isInstance
 repeat (first|with_reducible refine wpAny_loadPart_at hG ?_| (with_reducible refine wpAny_isSubtype_exc hK1 ?_;rw [hSelf])|wp_step)
 show wpAny _ _ (typeLookup (.ref C) _) _ _ _
 refine(looks_findIn (M:=model prog w) X1 c.init).at ?_
 refine wpAny_holding (wpAny_bind ((bind_fn (M:=model prog w) X1 _ (beq_iff_eq.mp c.fn)).at (wpAny_bind (wpAny_mono hq (fun r s' hr=> ?_) fun _ _ z=>z))))
 obtain⟨rfl,hQ⟩:=hr
 wp_walk
 exact hQ
theorem B1q {Q:Value->Shared->Prop}(c:ExcI K C f)(X:K.In h)(hu:us.length<=sizeLine)
  (hq:wpAny (model prog w) (A.under (.builtin "type.__call__" ⟨.ref C::us,[]⟩)) (call (.ref f) (.ref (h.objs.size+1)::us)) (fun r s'=>r= .none/\Q (.ref (h.objs.size+1)) s') E ⟨iO h C us,g,d,t,os⟩):
  wpAny (model prog w) A (call (.ref C) us) Q E ⟨h,g,d,t,os⟩:=by
 obtain⟨tl0,N,nm,q,bs,hdct,sn,sub,ab,col,dd,k0,k1,k2,k3,k5,hK,T⟩:=c.obj X
 have lk1:=tc_lookup
 have lk2:=tc_bind (.ref C)
 have hTy:(⟨h,g,d,t,os⟩:Shared).TypeIs (.ref C) "type":=⟨_,hK,rfl⟩
 refine wpAny_call (codeAny_of_tree ?_)
 show wpAny _ _ (callAny (.ref C) _) _ _ _
 repeat (any_goals (first|assumption|with_reducible refine wpAny_loadPart_at hK ?_|wp_step))
 refine⟨rfl,?_⟩
 exact codeAny_call_builtin_at (Code.quiet_builtin _ (by decide +kernel)) entry_typeCall (wpAny_check_type_call_sub hK (B05 c X hu hq))
end
end L2
namespace L2
open PySem PySem.W PySem.Calls PyProof.Rows Builtin Builtin.ObjectAttr
def jL:List Value->Bool
 | .ref _::r=>jL r
 |l=>l==bmV
theorem B0z (self:Value):refuseLoop self "__setattr__" bmV=pure ():=by kernel_rfl
theorem yZ (self:Value):∀{l:List Value},jL l=true->refuseLoop self "__setattr__" l=pure ()
 | [],e=>by cases e
 |v::r,e=>by
  have z:jL (v::r)=true:=e
  unfold jL at z
  split at z
  ·rename_i q;cases q;rw [refuseLoop_ref];exact yZ self z
  ·rw [beq_iff_eq.mp z];exact B0z self
theorem yM:∀{l:List Value},jL l=true->l.contains (.type "object")=true
 | [],e=>by cases e
 |v::r,e=>by
  unfold jL at e
  split at e
  ·rename_i q;cases q;rw [List.contains_cons,yM e,Bool.or_true]
  ·rw [beq_iff_eq.mp e];decide
structure gS (K:W.Frag)(C:Addr):Prop where
 sa:findIn K (.ref C) "__setattr__" =some (some (.builtin "object.__setattr__"))
 ov:((clsIn K C).any fun cd=>jL cd.mro)=true
 hd:hasDictIn K C=true
 ga:findIn K (.ref C) "__getattribute__" =some (some (.builtin "BaseException.__getattribute__"))
 gt:findIn K (.ref C) "__getattr__" =some none
 mb:mroIn K C (.type "BaseException")=some true
section
variable {prog:Program}{w:World}{A:Around}{E:Value->Shared->Prop}{K:W.Frag}{x C:Addr}{s:Shared}{name:Str}{v:Value}
theorem xJ {R:Result->Shared->Prop}{tk:Tok}(X:K.In s.heap)(I:Looks (model prog w) s.heap (typeOf (.ref x)) (.ref C))(c:gS K C)(ht:takerIn K C name=some none)
  (h:∀b,wpAny (model prog w) A.in1 (storeInOwnDict (.ref x) (.ref C) (.str name tk) name v b)
   (fun fn0 s'=>match fn0 with| .done f=>R (.ok f) s'| .again c'=>c'.quiet=true/\codeAny (model prog w) A c' R s') (fun e s'=>R (.error e) s') s):
  codeAny (model prog w) A (.call (.builtin "object.__setattr__") ⟨[.ref x,.str name tk,v],[]⟩) R s:=by
 have so:=PySem.F.store_object
 obtain⟨cd,hc,ho⟩:=any_some c.ov
 have nonE:cd.mro.isEmpty=false:=by cases q:cd.mro with|nil=>rw [q]at ho;cases ho|cons _ _=>rfl
 have sub:Looks (model prog w) s.heap (isInstance (.ref x) (.type "object")) true:=I.andThen (looks_mroIn X (by unfold mroIn;rw [hc,Option.bind_some,if_neg (by rw [nonE];decide),yM ho]))
 refine codeAny_call_builtin so.slot.plain so.entry (@check_slot (model prog w) _ _ s "object.__setattr__" "object" "__setattr__" (.ref x) [.str name tk,v] [] _ so.kind so.split sub (so.args (.ref x) (.str name tk) v) ?_)
 obtain⟨at0,ha0,hr0⟩:=Option.bind_eq_some_iff.mp ht
 have lm:Looks (model prog w) s.heap (mroOf (.ref C)) cd.mro:=(looks_clsIn X hc).andThen .now
 have lT:Looks (model prog w) s.heap (storeTaker? at0) none:=by
  cases at0 with
  |none=>exact .now
  |some a=>
   obtain⟨b,hb,q⟩:=Option.map_eq_some_iff.mp hr0
   cases b with
   |true=>cases q
   |false=>exact(looks_takesIn X hb).andThen .now
 rw [osa_eq,refuse_eq]
 refine wpAny_bind (wpAny_bind (I.here (wpAny_bind (lm.here ?_))))
 rw [yZ _ ho]
 refine wpAny_pure (wpAny_bind (I.here (wpAny_bind ((looks_findIn X ha0).here (wpAny_bind (lT.here ?_))))))
 exact h _
theorem A5c {ox:Obj}{dx:Addr}{mA:Str->Option Value}{ns:List Str}{Q:Unit->Shared->Prop}(X:K.In s.heap)(c:gS K C)(hx:s.heap.get? x=some ox)(hc:ox.cls= .ref C)(hd:ox.dict=some dx)(ht:takerIn K C name=some none)
  (hn:s.heap.Ns1 dx mA)(hwi:PySem.Within mA ns)(hsz:ns.length<=sizeLine)
  (h:∀h',h'.Ns1 dx (fun y=>if y=name then some v else mA y)->Heap.SameBut dx s.heap h'->Q () {s with heap:=h',toks:=s.toks+2}):
  wpAny (model prog w) A (setAttr (.ref x) name v) Q E s:=by
 have L0:Looks (model prog w) s.heap (typeOf (.ref x)) (.ref C):=hc▸(Looks.ld hx).andThen .now
 refine wpAny_bind (wpAny_mkText (wpAny_bind (wpAny_bind (wpAny_bind (L0 _ _ _ _ (fun _ _ e=>e) (looks_findIn X c.sa _ _ _ _ (fun _ _ e=>e) (wpAny_holding ?_)))))))
 rw [PySem.F.store_object.slot.bind]
 refine wpAny_bind (wpAny_pure (wpAny_bind (wpAny_call (xJ (s:={s with toks:=s.toks+1}) X L0 c ht fun b=> ?_))))
 obtain⟨cd,hcl,hd'⟩:=any_some c.hd
 refine wpAny_bind (wpAny_pure (wpAny_bind (wpAny_bind (wpAny_loadPart hx ?_))))
 rw [hc]
 refine wpAny_bind (Looks.here (s:={s with toks:=s.toks+1}) (looks_clsIn X hcl) ?_)
 rw [hd',hd]
 refine wpAny_pure (a:=some dx) (wpAny_bind (wpAny_pure (wpAny_bind ?_)))
 refine wpAny_nsSet1 (s:={s with toks:=s.toks+1}) hn fun h' hn2 hs2=> ?_
 obtain⟨oQ,esQ,epQ,hoQ,hdQ,hcQ⟩:=hn2.count (PySem.Within.cons name v hwi)
 refine wpAny_bind (wpAny_lookBehind hoQ (by rw [hdQ];exact pastItsLine_dict (Nat.le_trans hcQ (by rw [List.length_cons];omega))) ?_)
 exact wpAny_pure (wpAny_pure (wpAny_pure (h _ hn2 hs2)))
theorem A42 {t:Addr}{Q:Unit->Shared->Prop}(X:K.In s.heap)(c:gS K C)(hx:s.heap.get? x=some (xO C t none))(ht:takerIn K C name=some none)
  (h:∀h',h'.Ns1 s.heap.objs.size (fun y=>if y=name then some v else none)->h'.get? x=some (xO C t (some s.heap.objs.size))->(∀b o,b≠x->s.heap.get? b=some o->h'.get? b=some o)->Q () {s with heap:=h',toks:=s.toks+2}):
  wpAny (model prog w) A (setAttr (.ref x) name v) Q E s:=by
 have L0:Looks (model prog w) s.heap (typeOf (.ref x)) (.ref C):=(Looks.ld hx).andThen .now
 refine wpAny_bind (wpAny_mkText (wpAny_bind (wpAny_bind (wpAny_bind (L0 _ _ _ _ (fun _ _ e=>e) (looks_findIn X c.sa _ _ _ _ (fun _ _ e=>e) (wpAny_holding ?_)))))))
 rw [PySem.F.store_object.slot.bind]
 refine wpAny_bind (wpAny_pure (wpAny_bind (wpAny_call (xJ (s:={s with toks:=s.toks+1}) X L0 c ht fun b=> ?_))))
 obtain⟨cd,hcl,hd'⟩:=any_some c.hd
 refine wpAny_bind (wpAny_pure (wpAny_bind (wpAny_bind (wpAny_loadPart hx (wpAny_bind (Looks.here (s:={s with toks:=s.toks+1}) (looks_clsIn X hcl) ?_))))))
 rw [hd']
 have hlt:x<s.heap.objs.size:=Heap.lt_size hx
 have e1:(s.heap.push {cls:=.type "dict",data:=.dict #[]}).get? s.heap.objs.size=some {cls:=.type "dict",data:=.dict #[]}:=Heap.get?_push_size s.heap rfl
 have e2:(s.heap.push {cls:=.type "dict",data:=.dict #[]}).get? x=some (xO C t none):=Heap.get?_push_of_some _ hx
 refine wpAny_bind (wpAny_alloc (wpAny_bind (wpAny_update e2 ?_)))
 refine wpAny_pure (a:=some s.heap.objs.size) (wpAny_bind (wpAny_pure (wpAny_bind ?_)))
 have e3:((s.heap.push {cls:=.type "dict",data:=.dict #[]}).update x fun o=> {o with dict:=some s.heap.objs.size}).get? s.heap.objs.size=some {cls:=.type "dict",data:=.dict #[]}:=(Heap.get?_update_other _ _ (Nat.ne_of_lt hlt)).trans e1
 have e4:((s.heap.push {cls:=.type "dict",data:=.dict #[]}).update x fun o=> {o with dict:=some s.heap.objs.size}).get? x=some (xO C t (some s.heap.objs.size)):=Heap.get?_update_self _ e2 rfl
 have e5:((s.heap.push {cls:=.type "dict",data:=.dict #[]}).update x fun o=> {o with dict:=some s.heap.objs.size}).Ns s.heap.objs.size (fun _=>none):=⟨_,#[],_,e3,rfl,(fun e he=>absurd he (by simp)),fun _=>rfl⟩
 refine wpAny_nsSet1 (s:={s with heap:=(s.heap.push {cls:=.type "dict",data:=.dict #[]}).update x fun o=> {o with dict:=some s.heap.objs.size},toks:=s.toks+1}) (Heap.Ns1.of_empty e5) fun h' hn2 hs2=> ?_
 obtain⟨oQ,esQ,epQ,hoQ,hdQ,hcQ⟩:=hn2.count (PySem.Within.cons (ns:=[]) name v fun y hy=>absurd rfl hy)
 refine wpAny_bind (wpAny_lookBehind hoQ (by rw [hdQ];exact pastItsLine_dict (Nat.le_trans hcQ (by show 1<=sizeLine+1;decide))) ?_)
 refine wpAny_pure (wpAny_pure (wpAny_pure (h _ hn2 ((hs2.2 _ (Nat.ne_of_lt hlt)).trans e4) fun b o hb q=> ?_)))
 refine(hs2.2 b (Nat.ne_of_lt (Heap.lt_size q))).trans ?_
 exact(Heap.get?_update_other _ _ (Ne.symm hb)).trans (Heap.get?_push_of_some _ q)
end
section
variable {prog:Program}{w:World}{A:Around}{E:Value->Shared->Prop}{K:W.Frag}{x C:Addr}{s:Shared}{name:Str}{v:Value}
theorem B1u {ox:Obj}{od:Option Obj}{expr:Bool}{Q:Value->Shared->Prop}(X:K.In s.heap)(c:gS K C)(I:W.InstAt s.heap x ox C od)(hf:findObj K C od name=some (.value v))(hh:handedIn v=true)
  (h:Q v {s with toks:=s.toks+1}):wpAny (model prog w) A (getAttr (.ref x) name expr) Q E s:=by
 obtain⟨hp,g,d,t,os⟩:=s
 have lt0:=I.type (M:=model prog w)
 have lt1:=looks_findIn (M:=model prog w) X c.ga
 have L2':=looks_findIn (M:=model prog w) X c.gt
 have LB:=looks_mroIn (M:=model prog w) X c.mb
 have LF:=looks_find (M:=model prog w) X I hf
 unfold getAttr getAttrBy
 refine wpAny_bind (wpAny_mkText (wpAny_holding (wpAny_bind (lt0.at (wpAny_bind (lt1.at ?_))))))
 have hne:(onTheHeap (Value.ref C)&&Value.builtin "BaseException.__getattribute__" ==Value.builtin "object.__getattribute__")=false:=by
  rw [show(Value.builtin "BaseException.__getattribute__" ==Value.builtin "object.__getattribute__")=false by decide +kernel];rfl
 dsimp only
 rw [if_neg (by rw [hne];decide)]
 unfold getAttrByItsOwn hookBefore
 rw [if_pos (show onTheHeap (Value.ref C)=true from rfl)]
 refine wpAny_bind (L2'.at (wpAny_bind (wpAny_attempt (wpAny_holding ?_))))
 unfold callGetattribute boundAndCalled
 rw [if_neg (by cases expr<;>decide)]
 refine wpAny_bind (wpAny_of_eq (PySem.F.attr_ValueError.ga.bind (.ref x)) ?_)
 refine wpAny_call (codeAny_call_builtin PySem.F.attr_ValueError.ga.plain PySem.F.entry_bexc_ga ?_)
 have hkd:builtinKind "BaseException.__getattribute__" =some .slot:=by decide +kernel
 have hsp:splitId "BaseException.__getattribute__" =some ("BaseException","__getattribute__"):=by decide +kernel
 have ha:=PySem.F.args_bexc_ga (.ref x) (.str name t)
 simp only [checkBuiltinCall,hkd,hsp]
 have LI:Looks (model prog w) hp (isInstance (.ref x) (.type "BaseException")) true:=lt0.andThen LB
 refine wpAny_bind (LI.at ?_)
 repeat (first|assumption|wp_step)
 refine wpAny_loadPart I.at_ (wpAny_pure ?_)
 rw [I.cls]
 refine wpAny_bind (LF.at ?_)
 exact wpAny_pure (handed_on hh h)
end
end L2
namespace L2
open PySem PySem.Spec PyProof.Rows
def exO (e C t:Addr)(d:Option Addr):HO:=.ext fun h=>h.get? e=some (xO C t d)
def xdO (d:Addr)(fs:List (Str×V)):HO:=.ext fun h=> ∃mA,h.Ns1 d mA/\(∀f,RelO (fs.lookup f) (mA f))/\PySem.Within mA (fs.map (·.1))
theorem rR {P:Program}{w:World}{H:Hp}{h:Heap}{e C t:Addr}{d:Option Addr}(x:ObjOk P w H h e (exO e C t d)):h.get? e=some (xO C t d):=x.1
theorem A1l {P:Program}{w:World}{H:Hp}{h:Heap}{e C t:Addr}{d:Option Addr}(x:h.get? e=some (xO C t d)):ObjOk P w H h e (exO e C t d):=⟨x,⟨_,x⟩,fun h1 h2 q k=>k _ q⟩
theorem xW {P:Program}{w:World}{H:Hp}{h:Heap}{d:Addr}{fs:List (Str×V)}(x:ObjOk P w H h d (xdO d fs)):∃mA,h.Ns1 d mA/\(∀f,RelO (fs.lookup f) (mA f))/\PySem.Within mA (fs.map (·.1)):=x.1
theorem wT {P:Program}{w:World}{H:Hp}{h:Heap}{d:Addr}{fs:List (Str×V)}{mA:Str->Option Value}(n:h.Ns1 d mA)(r:∀f,RelO (fs.lookup f) (mA f))(wi:PySem.Within mA (fs.map (·.1))):ObjOk P w H h d (xdO d fs):=by
 obtain⟨o,es,ep,e,z⟩:=id n
 exact⟨⟨mA,n,r,wi⟩,⟨o,e⟩,fun h1 h2 ⟨m,q1,q2,q3⟩ k=> ⟨m,q1.at k,q2,q3⟩⟩
def A20 (K:W.Frag)(ta tv:TE)(f:Str):TS:=fun D σ H=>tv σ H fun y H1=>ta σ H1 fun x H2=> ∃e C,x= .ref e/\gS K C/\NoAttr K C f/\
  ((∃t,H2 e=some (exO e C t none)/\∀d,H2 d=none->d≠e->D.nx σ (upd (upd H2 d (xdO d [(f,y)])) e (exO e C t (some d))))\/
   (∃t d fs,H2 e=some (exO e C t (some d))/\H2 d=some (xdO d fs)/\fs.length<1000/\D.nx σ (upd H2 d (xdO d (cT f y fs)))))
section
variable {X:Cx}{pins:List (Addr×Obj)}{σ:St}{H:Hp}{s:Shared}{e C t:Addr}{f:Str}{A:Around}{E:Value->Shared->Prop}
theorem A5j {y:V}{u:Value}{Q:Unit->Shared->Prop}(I:Inv X pins σ H s)(he:H e=some (exO e C t none))(c:gS X.K C)(n:NoAttr X.K C f)(ry:RelV y u)
  (h:∀d s',H d=none->d≠e->Inv X pins σ (upd (upd H d (xdO d [(f,y)])) e (exO e C t (some d))) s'->Q () s'):wpAny (model X.prog X.w) A (setAttr (.ref e) f u) Q E s:=by
 have hx:=rR (I.hok _ _ he)
 refine A42 I.kIn c hx n.taker fun h' hn hx' k=>h s.heap.objs.size _ (I.hok.fresh (Nat.le_refl _)) (Nat.ne_of_gt (Heap.lt_size hx)) ?_
 have ne:e≠s.heap.objs.size:=Nat.ne_of_lt (Heap.lt_size hx)
 have g1:(h'.update e fun o=> {o with dict:=none}).get? e=some (xO C t none):=Heap.get?_update_self _ hx' rfl
 have g2:∀b,b≠e->(h'.update e fun o=> {o with dict:=none}).get? b=h'.get? b:=fun b hb=>Heap.get?_update_other _ _ (Ne.symm hb)
 have I1:Inv X pins σ (upd H s.heap.objs.size (xdO s.heap.objs.size [(f,y)])) {s with heap:=h'.update e fun o=> {o with dict:=none},toks:=s.toks+2}:=I.laid (fun b o q=>by
   by_cases hb:b=e
   ·subst hb;rw [hx]at q;cases q;exact g1
   ·exact(g2 b hb).trans (k b o hb q)) (Nat.le_refl _) (wT (hn.at fun o q=>(g2 _ (Ne.symm ne)).trans q) (fun g=>by
    show RelO (List.lookup g [(f,y)]) (if g=f then some u else none)
    by_cases q:g=f
    ·have hb:(g==f)=true:=beq_iff_eq.mpr q
     simp only [List.lookup,hb,if_pos q];exact ry
    ·have hb:(g==f)=false:=beq_eq_false_iff_ne.mpr q
     simp only [List.lookup,hb,if_neg q];exact True.intro) fun g hg=>by
    by_cases q:g=f
    ·rw [q];simp
    ·rw [if_neg q]at hg;exact absurd rfl hg)
 have I2:=I1.write (x:=e) (e:=e) (o:=exO e C t (some s.heap.objs.size)) (h':=h') (t':=s.toks+2) (by rw [aS ne,he];exact True.intro) (.inl rfl) (fun b o hb q=>by rw [←g2 b hb];exact q) ⟨_,hx'⟩ (A1l hx')
 exact I2
theorem A9q {d:Addr}{fs:List (Str×V)}{y:V}{u:Value}{Q:Unit->Shared->Prop}(I:Inv X pins σ H s)(he:H e=some (exO e C t (some d)))(hd:H d=some (xdO d fs))(c:gS X.K C)(n:NoAttr X.K C f)(hl:fs.length<1000)(ry:RelV y u)
  (h:∀s',Inv X pins σ (upd H d (xdO d (cT f y fs))) s'->Q () s'):wpAny (model X.prog X.w) A (setAttr (.ref e) f u) Q E s:=by
 have hx:=rR (I.hok _ _ he)
 obtain⟨mA,hn,r,wi⟩:=xW (I.hok _ _ hd)
 have hz:(fs.map (·.1)).length<=sizeLine:=by rw [List.length_map,sizeLine_eq];omega
 refine A5c I.kIn c hx rfl rfl n.taker hn wi hz fun h' hn' sb=>h _ ?_
 obtain⟨o,es,ep,ho,_⟩:=id hn'
 refine I.write (x:=d) (e:=d) (by rw [hd];exact True.intro) (.inl rfl) (fun b q hb z=>(sb.2 b hb).trans z) ⟨o,ho⟩ (wT hn' (fun g=> ?_) fun g hg=> ?_)
 ·show RelO ((cT f y fs).lookup g) (if g=f then some u else mA g)
  rw [zV]
  by_cases q:g=f
  ·rw [if_pos q,if_pos q];exact ry
  ·rw [if_neg q,if_neg q];exact r g
 ·by_cases q:g=f
  ·rw [q];exact(uS f y fs).1
  ·refine(uS f y fs).2 g (wi g fun z=>hg ?_)
   show(if g=f then some u else mA g)=none
   rw [if_neg q];exact z
end
section
variable {X:Cx}{o value:Expr}{f:Str}{pos pos':Pos}{ta tv:TE}
theorem zG (ha:PE X o ta)(hv:PE X value tv)(hs:swapsWith value (some (.Attribute o f pos')) pos.line X.env=pure false):PS X (.Assign [.Attribute o f pos'] value pos) (A20 X.K ta tv f):=by
 intro pins s σ H D I h
 refine plainObj_wpAny_Assign_Attribute (thn (hv pins s σ H _ I h) fun u s1 ⟨y,H1,I1,ry,q⟩=>thn (ha pins s1 σ H1 _ I1 q) fun ov s2 ⟨x,H2,I2,rx,e,C,ex,c,n,q2⟩=> ?_) hs
 subst ex
 obtain rfl:ov=Value.ref e:=rx
 rcases q2 with⟨t,he,z⟩| ⟨t,d,fs,he,hd,l,z⟩
 ·exact A5j I2 he c n ry fun d s3 hd hne I3=> ⟨σ,_,I3,z d hd hne⟩
 ·exact A9q I2 he hd c n l ry fun s3 I3=> ⟨σ,_,I3,z⟩
end
def A92 (n0:Nat)(C:Addr)(sp:Sp)(E:XK)(t:TA):TE:=fun σ H Q=>t σ H fun vs H1=> ∀x tt,H1 x=none->n0<=x->sp (.ref x::vs) (upd H1 x (exO x C tt none)) (fun v H2=>v= .non/\Q (.ref x) H2) E
section
variable {X:Cx}{CX:CXT}{k:Nat}{f C:Addr}{fd:FuncData}{ps:List Str}{sp:Sp}{E:XK}{x:Str}{p pos:Pos}{e:Expr}{es:List Expr}{t:TA}
theorem A5t {pins:List (Addr×Obj)}{σ:St}{H:Hp}{s:Shared}{Q:VK}{us:List Value}{vs:List V}(M:ExcI X.K C f)(F:aR X.prog X.w X.K X.mg X.base CX k f fd ps sp)(hr:Room (k+1) X.A)(hb:Binds X.K fd ps [])
  (hx:iB CX X E)(I:Inv X pins σ H s)(r:Vals vs us)(hu:us.length<=sizeLine)
  (h:∀x tt,H x=none->X.s₀.heap.objs.size<=x->sp (.ref x::vs) (upd H x (exO x C tt none)) (fun v H2=>v= .non/\Q (.ref x) H2) E):
  wpAny (model X.prog X.w) X.A (call (.ref C) us) (EP X pins σ Q) X.xe s:=by
 have hq:=h (s.heap.objs.size+1) s.heap.objs.size (I.hok.fresh (Nat.le_succ _)) (Nat.le_trans I.sz (Nat.le_succ _))
 have e2:(iO s.heap C us).get? (s.heap.objs.size+1)=some (xO C s.heap.objs.size none):=by
  have:=Heap.get?_push_size (s.heap.push {cls:=.type "tuple",data:=.seq us.toArray}) (o:=xO C s.heap.objs.size none) rfl
  rwa [Heap.size_push]at this
 have I2:Inv X pins σ (upd H (s.heap.objs.size+1) (exO (s.heap.objs.size+1) C s.heap.objs.size none)) {s with heap:=iO s.heap C us}:=
  I.laid (h':=iO s.heap C us) (t':=s.toks) (fun b o q=>Heap.get?_push_of_some _ (Heap.get?_push_of_some _ q)) (Nat.le_succ _) (A1l e2)
 have r2:Vals (V.ref (s.heap.objs.size+1)::vs) (Value.ref (s.heap.objs.size+1)::us):=.cons rfl r
 have hl:((Value.ref (s.heap.objs.size+1)::us)++[]).length=ps.length:=by
  have e:=r2.length
  rw [F.len _ _ _ _ hq]at e
  rw [List.append_nil]
  exact e.symm
 obtain⟨hp,g,d,tk,os⟩:=s
 refine B1q M I.kIn hu (wpAny_call (codeAny_mono (F.run _ X.stack _ _ ⟨Value.ref (hp.objs.size+1)::us,[]⟩ (Value.ref (hp.objs.size+1)::us) _ _ E (hr.make C us [])
  (I2.env0.make C us []) (by have:=hb _ (Value.ref (hp.objs.size+1)::us) I2.kIn hl;rwa [List.append_nil]at this) r2 hq) fun r s' hq'=> ?_))
 cases r with
 |error e=>exact hx pins σ _ _ e s' I2 hq'
 |ok fl=>
  cases fl with
  |ret u=>
   obtain⟨v,H',I3,rv,ev,q3⟩:=I2.after hq'
   subst ev
   exact⟨rv,⟨V.ref (hp.objs.size+1),H',I3,rfl,q3⟩⟩
  |next=>exact False.elim hq'
  |brk=>exact False.elim hq'
  |cont=>exact False.elim hq'
theorem A1a (M:ExcI X.K C f)(F:aR X.prog X.w X.K X.mg X.base CX k f fd ps sp)(hr:Room (k+1) X.A)(hg:Gl X x)(hm:X.mg x=some (.ref C))(hb:Binds X.K fd ps [])(hx:iB CX X E)
  (ha:PA X (e::es) t)(hlen:ps.length<=1000)(hdb:(x==("__debug__":Str))=false:=by decide)(he:starEach (e::es) X.env=(false,eval e X.env)::starEach es X.env:=by rfl)(hpl:(backTo pos (starEach es X.env)).any (·.1)=false:=by rfl):
  PE X (.Call (.Name x p) (e::es) [] pos) (A92 X.s₀.heap.objs.size C sp E t):=by
 intro pins s σ H Q I h
 refine wpAny_Call_Name_kw (jV I hg hm ?_ hdb)
 refine W.callWith_K (h₀:=X.base) I.ok.mod.kin M.kp (thn (ha pos pins s σ H _ I h) fun us s1 ⟨vs,H1,I1,r,q⟩=> ⟨I1.kIn,?_⟩) he hpl
 refine A5t M F hr hb hx I1 r ?_ q
 have e1:=F.len _ _ _ _ (q (s1.heap.objs.size) 0 (I1.hok.fresh (Nat.le_refl _)) I1.sz)
 have e2:=r.length
 rw [List.length_cons]at e1
 rw [List.nil_append,sizeLine_eq];omega
end
def kJ (H:Hp)(e:Addr):Hp:=fun b=>if b=e then none else H b
theorem yY {H:Hp}{e:Addr}:kJ H e e=none:=if_pos rfl
theorem iD {H:Hp}{e b:Addr}(h:b≠e):kJ H e b=H b:=if_neg h
def CXD (P:Program)(w:World):CXT:=fun outer H s E e s'=> ∃a cls d H',e= .ref a/\Fly P w outer H s a cls H' s'/\iF a d s'.heap/\E cls d H'
section
variable {X:Cx}{pins:List (Addr×Obj)}{σ:St}{H H':Hp}{s s':Shared}{cls:Value}{e:Addr}{Q:Unit->Shared->Prop}{E':Value->Shared->Prop}
theorem HOk.drop {P:Program}{w:World}{h:Heap}{C t:Addr}{d:Option Addr}(ok:HOk P w H h)(heX:H e=some (exO e C t d)):HOk P w (kJ H e) h:=fun a o q=>by
 have hne:a≠e:=fun z=>by rw [z,yY]at q;cases q
 rw [iD hne]at q
 refine(ok a o q).stay (fun _ _ _ z=>z) (fun b z=> ?_) fun b xs z=> ?_
 ·have:b≠e:=fun y=>by rw [y,heX]at z;cases z
  rw [iD this];exact z
 ·have:b≠e:=fun y=>by rw [y,heX]at z;cases z
  rw [iD this];exact z
theorem A7l {C t:Addr}{d:Option Addr}(I:Inv X pins σ H s)(hs:X.stack=X.env::X.outer)(hf:X.env.frame=some X.env.locals)(hex:X.ex=[])(heX:H e=some (exO e C t d))(hn0:X.s₀.heap.objs.size<=e)
  (k:∀h',Fly X.prog X.w X.outer X.H₀ X.s₀ e (.ref C) (kJ H e) {s with heap:=h'}->iF e d h'->Q () {s with heap:=h'}):wpAny (model X.prog X.w) X.A (leaving X.env (.ref e)) Q E' s:=by
 have st:s.heap.FunFrames X.base X.stack:=I.stack
 have hx:=rR (I.hok _ _ heX)
 have hin:∀env∈X.stack,∀b,env.frame=some b->b∈e::frs X.stack:=fun env he' b hb=>List.mem_cons_of_mem _ (List.mem_filterMap.mpr ⟨env,he',hb⟩)
 have fB:=W.funFrames_hide (as:=e::frs X.stack) st hin
 have hfr:=I.ok.frames
 rw [hs]at hfr fB
 have hB:(W.hideAll s.heap (e::frs X.stack)).StaysIn s.heap:=fun b o q=>W.of_hideAll _ q
 have hBe:(W.hideAll s.heap (e::frs X.stack)).get? e=none:=W.hideAll_none _ List.mem_cons_self
 refine wpAny_mono (KD.any (e:=e) (d:=d) KD.leaving ⟨_,hx,rfl⟩ (wpAny_leaving_firstW (Q:=fun _ s'=> ∃h',s'={s with heap:=h'}/\Heap.LeftW (W.hideAll s.heap (e::frs X.stack)) (X.env::X.outer) e (.ref C) (.ref t) s.heap h') (E:=E')
  hfr (by rw [hs]at*;exact fB) hf hx (by rw [hs]at*;exact hB) (by rw [hs]at*;exact hBe) rfl rfl rfl fun h' z=> ⟨h',rfl,by rw [hs]at*;exact z⟩)) (fun _ s' z=> ?_) fun _ _ z=>z
 obtain⟨⟨h',rfl,L1,L2',L3,L4⟩,hD⟩:=z
 have x1:Heap.FlyingW (W.hideAll s.heap (e::frs X.stack)) X.outer e (.ref C) (.ref t) h':=⟨L1,hBe,L2'.2.2,L3⟩
 refine k h' ?_ hD
 have nex:∀b,b∉X.ex:=fun b hb=>by rw [hex]at hb;cases hb
 have notE:∀b o,X.s₀.heap.get? b=some o->b≠e:=fun b o q z=>absurd (Nat.lt_of_lt_of_le (Heap.lt_size q) hn0) (by rw [z];exact Nat.lt_irrefl _)
 have kB:∀b o,s.heap.get? b=some o->b≠e->b∉frs X.stack->(W.hideAll s.heap (e::frs X.stack)).get? b=some o:=fun b o q n1 n=>W.hideAll_get _ q fun z=>(List.mem_cons.mp z).elim n1 n
 have kS:∀b o,s.heap.get? b=some o->b∈frs X.stack->∃sl,h'.get? b=some {o with slots:=sl}:=fun b o q hb=>L4 b o q (by
  obtain⟨_,o',ho',hd⟩:=st.mem hb
  rw [q]at ho';cases ho';exact hd)
 have kT:∀b u,H b=some u->b∉frs X.stack:=fun b u q hb=>by
  have:=I.stkFree b hb
  rw [q]at this;cases this
 have up:∀{b:Addr},b∈X.fs->b∈frs X.stack:=fun hb=>by rw [hs];exact sP hb
 have tr:∀b u,kJ H e b=some u->b≠e/\H b=some u:=fun b u q=>by
  have n:b≠e:=fun z=>by rw [z,yY]at q;cases q
  rw [iD n]at q
  exact⟨n,q⟩
 have dr:∀b u,H b=some u->(∀φ,u≠ .ext φ)->kJ H e b=some u:=fun b u q n=>by
  have:b≠e:=fun y=>by rw [y,heX]at q;cases q;exact n _ rfl
  rw [iD this];exact q
 refine⟨I.os,I.bare,⟨fun b o q n hb _=> ?_,fun b o q n hb _=> ?_,fun b o q n _=> ?_,fun b o q _=> ?_,fun b xs q=>dr _ _ (I.base.tups b xs q) (fun _ z=>by cases z),fun b o u q=>dr _ _ (I.base.frzs b o u q) (fun _ z=>by cases z),fun b ps q=> ?_⟩,
  (HOk.drop I.hok heX).tracked fun b u o q z=>x1.1 b o (kB b o z (tr b u q).1 (kT b u (tr b u q).2)),_,_,x1,fun b o q n hb=> ?_,fun b o q hb=> ?_,fun b u q=> ?_⟩
 ·exact x1.1 b o (kB b o (I.base.keep b o q n hb (nex b)) (notE b o q) (I.notOwn q hb))
 ·obtain⟨sl,e1⟩:=I.base.slot b o q n hb (nex b)
  obtain⟨sl',e2⟩:=kS b _ e1 (up hb)
  exact⟨sl',e2⟩
 ·rw [iD (notE b o q)];exact I.base.free b o q n (nex b)
 ·obtain⟨o',e1⟩:=I.base.there b o q (nex b)
  by_cases hm:b∈frs X.stack
  ·obtain⟨sl,e2⟩:=kS b o' e1 hm;exact⟨_,e2⟩
  ·exact⟨o',x1.1 b o' (kB b o' e1 (notE b o q) hm)⟩
 ·obtain⟨m,e1⟩:=I.base.tbls b ps q
  exact⟨m,dr _ _ e1 (fun _ z=>by cases z)⟩
 ·exact kB b o (I.base.keep b o q n hb (nex b)) (notE b o q) (I.notOwn q hb)
 ·obtain⟨o',e1⟩:=I.base.there b o q (nex b)
  exact⟨o',kB b o' e1 (notE b o q) (I.notOwn q hb)⟩
 ·obtain⟨o,e1⟩:=(I.hok b u (tr b u q).2).isThere
  exact⟨o,kB b o e1 (tr b u q).1 (kT b u (tr b u q).2)⟩
theorem yL {d:Option Addr}(I:Inv X pins σ H s)(hs:X.stack=X.env::X.outer)(hf:X.env.frame=some X.env.locals)(hex:X.ex=[])(F:Fly X.prog X.w X.stack H s e cls H' s')(hd:iF e d s'.heap)
  (k:∀h',Fly X.prog X.w X.outer X.H₀ X.s₀ e cls H' {s' with heap:=h'}->iF e d h'->Q () {s' with heap:=h'}):wpAny (model X.prog X.w) X.A (leaving X.env (.ref e)) Q E' s':=by
 refine wpAny_mono (KD.any KD.leaving hd (A75 (Q:=fun _ s''=> ∃h',s''={s' with heap:=h'}/\Fly X.prog X.w X.outer X.H₀ X.s₀ e cls H' {s' with heap:=h'}) (E':=E') I hs hf hex F fun h' F'=> ⟨h',rfl,F'⟩)) (fun _ s'' z=> ?_) fun _ _ z=>z
 obtain⟨⟨h',rfl,F'⟩,hD⟩:=z
 exact k h' F' hD
end
theorem dY {P:Program}{w:World}{K:W.Frag}{mg:Str->Option Value}{base:Heap}{N:List Str}{qual:Str}{scope:Scope}{f:Addr}{cd:Value}{A:Around}{outer:List Env}{s:Shared}{H:Hp}{E:XK}:
  iB (CXD P w) (cN (CXD P w) P w K mg base N qual scope f cd A outer s H E) E:=by
 intro pins σ H1 s1 e s2 I h
 obtain⟨a,cls,d,H',rfl,F,hd,q⟩:=h
 exact yL (X:=cN (CXD P w) P w K mg base N qual scope f cd A outer s H E) I rfl rfl rfl F hd fun h' F' hd'=> ⟨a,cls,d,H',rfl,F',hd',q⟩
section
variable {M:Model}{A:Around}{E:Value->Shared->Prop}{env:Env}
variable {nm q:Str}{C N:Addr}{bs tl0:List Value}{hdct:Bool}{sn:List Str}{sub:List Value}{ab:Bool}{col:Option Bool}{dd:Option Addr}{k0 k1 k2 k3 k5:Option Value}{newId:String}
theorem A9m {s:Shared}{Q:Flow->Shared->Prop}{e t:Addr}{d:Option Addr}(hbase:tl0.contains (.type "BaseException")=true)(hh:A.handled=none)(hC:s.heap.get? C=some (excClassObj nm q C N bs tl0 hdct sn sub ab col dd k0 k1 k2 k3 k5 newId))
  (heX:s.heap.get? e=some (xO C t d))(hE:E (.ref e) s):wpAny M A (raiseStmt env (some (pure (.ref e))) none) Q E s:=by
 have hIn:(Value.ref C::tl0).contains (.type "BaseException")=true:=by rw [List.contains_cons,hbase,Bool.or_true]
 unfold raiseStmt
 refine wpAny_bind (wpAny_pure ?_)
 obtain⟨hp0,g,dr,tk0,os⟩:=s
 repeat (first|with_reducible refine wpAny_loadPart_at heX ?_|with_reducible refine wpAny_loadPart_at hC ?_| (with_reducible refine wpAny_isSubtype_exc hC ?_;rw [hIn])|wp_step)
 exact wpAny_raiseNew_none hh hE
theorem A91 {s:Shared}{Q:Flow->Shared->Prop}{x:Sem Value}(h:wpAny M A x (fun v s₁=>wpAny M A (raiseStmt env (some (pure v)) none) Q E s₁) E s):wpAny M A (raiseStmt env (some x) none) Q E s:=by
 unfold raiseStmt at h⊢
 refine wpAny_bind (wpAny_mono h (fun v s₁ z=> ?_) fun _ _ z=>z)
 exact z
end
section
variable {X:Cx}{ex:Expr}{pos:Pos}{E:XK}{ta:TE}
theorem A0i (hxe:X.xe=fun e s'=>wpAny (model X.prog X.w) X.A (leaving X.env e) (fun _ s''=>CXD X.prog X.w X.outer X.H₀ X.s₀ E e s'') (fun e' s''=>CXD X.prog X.w X.outer X.H₀ X.s₀ E e' s'') s')
  (hs:X.stack=X.env::X.outer)(hf:X.env.frame=some X.env.locals)(hex:X.ex=[])(hc:X.calm=true)(ha:PE X ex ta):
  PS X (.Raise (some ex) none pos) (fun _ σ H=>ta σ H fun x H2=> ∃e C f t d,x= .ref e/\X.s₀.heap.objs.size<=e/\ExcI X.K C f/\H2 e=some (exO e C t d)/\E (.ref C) d (kJ H2 e)):=by
 intro pins s σ H D I h
 rw [arm_exec_Raise]
 refine wpAny_bind (wpAny_standAt (A91 (wpAny_bind (thn (ha pins s σ H _ I h) fun u s1 ⟨x,H1,I1,rx,e,C,f,t,d,hx,hn,c,heX,q⟩=>wpAny_bind (wpAny_standAt (wpAny_pure ?_))))))
 subst hx
 obtain rfl:u=Value.ref e:=rx
 obtain⟨tl0,N,nm,q',bs,hdct,sn,sub,ab,col,dd,k0,k1,k2,k3,k5,hC,T⟩:=c.obj I1.kIn
 refine A9m (T.hasType PySem.F.excBase_ValueError.hasBase) (I1.ok.hd hc) hC (rR (I1.hok _ _ heX)) ?_
 rw [hxe]
 exact A7l I1 hs hf hex heX hn fun h' F hD=> ⟨e,_,d,_,rfl,F,hD,q⟩
end
def vC (X:Cx)(E:XK):Value->Shared->Prop:=fun v s'=> ∃pins σ H s e cls d H',v= .ref e/\Inv X pins σ H s/\Fly X.prog X.w X.stack H s e cls H' s'/\iF e d s'.heap/\E cls d H'
theorem A6i {X:Cx}{E:XK}:iB (CXD X.prog X.w) (X.wish (vC X E)) E:=by
 intro pins σ H s e s' I h
 obtain⟨a,cls,d,H',rfl,F,hd,q⟩:=h
 exact⟨pins,σ,H,s,a,cls,d,H',rfl,I.unwish,F,hd,q⟩
section
variable {X:Cx}{E:XK}{R:VK}{y n:Str}{i:Nat}{Cy:Addr}{b₀:Stmt}{suite:List Stmt}{np hp:Pos}{tS:Addr->Obj->TS}
theorem B2g (hs:X.stack=X.env::X.outer)(hf:X.env.frame=some X.env.locals)(hpn:X.pn=[])(hcalm:X.calm=true)(hy:Gl X y)(hm:X.mg y=some (.ref Cy))(hN:X.N.Nodup)(hi:X.N[i]?=some n)(hn:X.env.scope.names.lookup n=some .local)
  (hk:∀cls d H',E cls d H'->W.exmOne X.K cls (.ref Cy)=some true)(hS:∀e oe,PSs (X.within e oe) (b₀::suite) (tS e oe))
  (q:∀e oe cls d H',oe.cls=cls->oe.dict=d->W.notCls oe=true->E cls d H'->tS e oe {nx:=fun _ _=>False,rt:=R} ((List.replicate X.N.length none).set i (some (.ref e))) H')(hdb:(y==("__debug__":Str))=false){D:cQ}(hD:D.rt=R){v:Value}{s':Shared}(h:vC X E v s'):
  wpAny (model X.prog X.w) X.A (noteFrame v X.env) (fun _ s₂=>wpAny (model X.prog X.w) X.A (setFlight v none) (fun _ s₃=>wpAny (model X.prog X.w) X.A (handleBy v X.env [.ExceptHandler (some (.Name y np)) (some n) (b₀::suite) hp]) (SP X [] D) X.xe s₃) X.xe s₂) X.xe s':=by
 obtain⟨pins,σ,H,s,e,cls,d,H',rfl,I,F,hd0,qE⟩:=h
 obtain⟨B,a0,hfl,g1,g2,g3⟩:=F.fly
 have hfr:=I.ok.frames
 have hfl1:=hfl
 rw [hs]at hfr hfl1
 have heH:H' e=none:=by
  cases z:H' e with
  |none=>rfl
  |some u=>
   obtain⟨o,e1⟩:=g3 e u z
   rw [hfl.2.1]at e1;cases e1
 have obj:∀{h:Heap},Heap.FlyingW B (X.env::X.outer) e cls a0 h->iF e d h->Inv X pins σ H' {s' with heap:=h}->∃oe,oe.cls=cls/\oe.dict=d/\W.notCls oe=true/\h.get? e=some oe/\∀{pins' σ'},Inv X pins' σ' H' {s' with heap:=h}->Inv (X.within e oe) pins' σ' H' {s' with heap:=h}:=fun{h} fl dA J=>by
  obtain⟨oe,vs,ho,hc,hd,_⟩:=fl.first
  obtain⟨o2,ho2,hd2⟩:=dA
  rw [ho]at ho2;cases ho2
  refine⟨oe,hc,hd2,?_,ho,fun J'=>J'.within ho heH ?_ ?_ ?_⟩
  ·unfold W.notCls;rw [hd]
  ·intro z
   obtain⟨m,⟨o2,es,ep,ho2,hd2,_⟩,_⟩:=J'.loc
   rw [←z,ho]at ho2;cases ho2
   rw [hd]at hd2;cases hd2
  ·intro z
   obtain⟨_,o2,ho2,hd2⟩:=J'.funs.mem z
   rw [ho]at ho2;cases ho2
   exact hd2 _ hd
  ·intro v z
   rw [hd]at z;cases z
 refine wpAny_mono (KD.any KD.noteFrame hd0 (wpAny_looks_onW (Q:=fun _ s₂=> ∃h₄,s₂={s' with heap:=h₄}/\Heap.HeldW B (X.env::X.outer) e cls a0 X.env.locals h₄/\s'.heap.UpToSlots h₄) hfr hf hfl1 fun h₄ u1 u2=> ⟨h₄,rfl,u1,u2⟩)) (fun _ s₂ z2=> ?_) fun _ _ z=>z
 obtain⟨⟨h₄,rfl,held₄,sm₄⟩,hd4⟩:=z2
 refine wpAny_mono (KD.any KD.setFlight hd4 (wpAny_landsW (s:={s' with heap:=h₄}) (Q:=fun _ s₂=> ∃h₅,s₂={s' with heap:=h₅}/\Heap.FlyingW B (X.env::X.outer) e cls a0 h₅/\h₄.UpToSlots h₅) held₄ fun h₅ u1 u2=> ⟨h₅,rfl,u1,u2⟩)) (fun _ s₂ z2=> ?_) fun _ _ z=>z
 obtain⟨⟨h₅,rfl,fl₅,sm₅⟩,hd5⟩:=z2
 have I5:Inv X pins σ H' {s' with heap:=h₅}:=I.landed F hfl g1 g2 g3 fl₅.1 (sm₄.trans sm₅)
 obtain⟨o5,c5,d5,nc5,he5,w5⟩:=obj fl₅ hd5 I5
 have LT:W.Looks (model X.prog X.w) h₅ (typeOf (.ref e)) cls:=c5▸(W.Looks.ld he5).andThen .now
 refine wpAny_handleBy_cons (codeAny_handlers_test (jV (X:=X.within e o5) (w5 I5) hy hm ?_ hdb)) (by intro z;cases z)
 refine(W.exm_one (M:=model X.prog X.w) I5.kIn LT (hk cls d H' qE)).here ?_
 refine codeAny_handlers_suite_as (wpAny_mono (KD.any KD.setFlight hd5 (lands_againW (s:={s' with heap:=h₅}) (Q:=fun _ s₂=> ∃h₆,s₂={s' with heap:=h₆}/\Heap.FlyingW B (X.env::X.outer) e cls a0 h₆/\h₅.UpToSlots h₆) fl₅ fun h₆ u1 u2=> ⟨h₆,rfl,u1,u2⟩)) (fun _ s₂ z2=> ?_) fun _ _ z=>z)
 obtain⟨⟨h₆,rfl,fl₆,sm₆⟩,hd6⟩:=z2
 have I6:Inv X pins σ H' {s' with heap:=h₆}:=I.landed F hfl g1 g2 g3 fl₆.1 ((sm₄.trans sm₅).trans sm₆)
 obtain⟨o6,c6,d6,nc6,he6,w6⟩:=obj fl₆ hd6 I6
 have I6':Inv X [] (List.replicate X.N.length none) H' {s' with heap:=h₆}:=(I6.pins_of (pins':=[]) fun p z=>nomatch z).weak (by rw [List.length_replicate];exact I6.len.symm) fun j v z=>by
  rw [List.getElem?_replicate]at z
  split at z<;>cases z
 refine jC (X:=X.within e o6) (w6 I6') hN hi (.inl hn) (v:=.ref e) rfl (fun s₇ I7=> ?_) (.inr hn)
 refine wpAny_mono (hS e o6 [] s₇ _ H' _ I7 (q e o6 cls d H' c6 d6 nc6 qE)) (fun f s₈ h8=> ?_) fun _ _ z=>False.elim z
 have fin:∀{σ8:St}{H8:Hp},Inv (X.within e o6) [] σ8 H8 s₈->(∀s9,Inv X [] (List.replicate X.N.length none) H8 s9->SP X [] D f s9)->wpAny (model X.prog X.w) X.A (do bindName X.env n .none;unbindBehindTheSuite X.env n hp) (fun _ s₃=>SP X [] D f s₃) X.xe s₈:=fun{σ8 H8} I8 k=>by
  obtain⟨m,hm8,_⟩:=I8.loc
  exact wpAny_nameGoes hn hm8 (by rw [I.ok.kind];rfl) fun h' m' hN' hs'=>k _ (Inv.suiteOver (I.ok.hd hcalm) I8 hpn hN' hs')
 cases f with
 |next=>obtain⟨σ8,H8,I8,z⟩:=h8;exact False.elim z
 |brk=>obtain⟨σ8,H8,I8,z⟩:=h8;exact False.elim z
 |cont=>obtain⟨σ8,H8,I8,z⟩:=h8;exact False.elim z
 |ret u=>
  obtain⟨v8,σ8,H8,I8,r8,z⟩:=h8
  exact fin I8 fun s9 I9=> ⟨v8,_,H8,I9,r8,by rw [hD];exact z⟩
end
def A3g (K:W.Frag)(e:Addr)(oe:Obj)(ta:TE)(f:Str):TE:=fun σ H Q=>ta σ H fun x H1=> ∃C d fs v,x= .ref e/\oe.cls= .ref C/\oe.dict=some d/\W.notCls oe=true/\gS K C/\NoAttr K C f/\H1 d=some (xdO d fs)/\fs.lookup f=some v/\Q v H1
theorem yG {X:Cx}{e:Addr}{oe:Obj}{ex:Expr}{f:Str}{pos:Pos}{ta:TE}(he:PE (X.within e oe) ex ta)(hb:attributeBase ex f X.env (eval ex X.env)=eval ex X.env):PE (X.within e oe) (.Attribute ex f pos) (A3g X.K e oe ta f):=by
 intro pins s σ H Q I h
 refine A2s hb (thn (he pins s σ H _ I h) fun u s1 ⟨x,H1,I1,rx,C,d,fs,v,hx,hc,hd,nc,c,n,hd1,l,q⟩=> ?_)
 subst hx
 obtain rfl:u=Value.ref e:=rx
 have hp:s1.heap.get? e=some oe:=(I1.pin (e,oe) (List.mem_append_left _ List.mem_cons_self)).1
 obtain⟨mA,hn,r,wi⟩:=xW (I1.hok _ _ hd1)
 obtain⟨od,ho,hl⟩:=A0c hn
 obtain⟨u,hu,ru⟩:=RelO.some_of (v:=v) (o:=mA f) (by rw [←l];exact r f)
 have J:W.InstAt s1.heap e oe C (some od):=⟨hp,hc,nc,by rw [hd];exact ho⟩
 exact B1u I1.kIn c J (W.findObj_own c.hd n rfl (by rw [hl,hu])) (A3v ru) ⟨v,H1,I1.tok _,ru,q⟩
section
variable {P:Program}{w:World}{K:W.Frag}{mg:Str->Option Value}{base:Heap}
theorem Fun.okD {x qual:Str}{st:Stmt}{f:Addr}{fd:FuncData}{N ps:List Str}{k:Nat}{sp:Sp}(F:Fun K x qual st f fd)(S:bH N ps (aQ st))(len:∀vs H Q E,sp vs H Q E->vs.length=ps.length)
  (hbody:∀(cdv:Value)(A:Around)(outer:List Env)(s:Shared)(H:Hp)(vs:List V)(Q:VK)(E:XK),Room k (A.deeper (envOfC qual (aQ st) s.heap.objs.size f cdv))->sp vs H Q E->
   ∃t,PSs (cN (CXD P w) P w K mg base N qual (aQ st) f cdv A outer s H E) (bX st) t/\t {nx:=fun _ H'=>Q .non H',rt:=Q} (start N vs) H):aR P w K mg base (CXD P w) (k+1) f fd ps sp:=by
 obtain⟨oc,od,kV,doc,pm,an,cdv,ct,osl,rfl,lk,hcd⟩:=F.ex
 exact uW lk hcd S len fun A outer s H vs Q E hr hsp=>hbody cdv A outer s H vs Q E hr hsp
end
section
variable {X:Cx}{x:Str}{z:Str}{j:Nat}{np p1 cpos pos:Pos}{C:Addr}{E:XK}
theorem iY (hxe:X.xe=fun e s'=>wpAny (model X.prog X.w) X.A (leaving X.env e) (fun _ s''=>CXD X.prog X.w X.outer X.H₀ X.s₀ E e s'') (fun e' s''=>CXD X.prog X.w X.outer X.H₀ X.s₀ E e' s'') s')
  (hs:X.stack=X.env::X.outer)(hf:X.env.frame=some X.env.locals)(hex:X.ex=[])(hc:X.calm=true)(hg:Gl X x)(hm:X.mg x=some (.ref C))(c:ExcC X.K C)(hd:(x==("__debug__":Str))=false:=by decide):
  PS X (.Raise (some (.Call (.Name x np) [.Constant (.str z) j p1] [] cpos)) none pos) (fun _ _ H=>E (.ref C) none H):=by
 intro pins s σ H D I h
 obtain⟨bm,N,nm,q,bs,hdct,sn,sub,ab,col,dd,k0,k1,k2,k3,k5,mN,hC,hN,hni,T⟩:=c.obj I.ok.mod.kin
 refine wpAny_Raise_call_subT (C:=C) (nm:=nm) (q:=q) (N:=N) (bs:=bs) (bm:=bm) (hdct:=hdct) (sn:=sn) (sub:=sub) (ab:=ab) (col:=col) (dd:=dd) (k0:=k0) (k1:=k1) (k2:=k2) (k3:=k3) (k5:=k5) PySem.F.excBase_ValueError (mN:=mN)
  (T.hasType PySem.F.excBase_ValueError.hasBase) (I.ok.hd hc) rfl hni (jV I hg hm ⟨rfl,?_⟩ hd)
 have ha:PA X [.Constant (.str z) j p1] (cF (tC (.str z)) lP):=bS cX aF
 refine Calls.evalArgs_plain (thn (ha cpos pins s σ H (fun vs H'=>H'=H/\vs=[.str z]) I ⟨rfl,rfl⟩) fun us s2 hA=> ?_)
 obtain⟨vs,H2,I2,rv,e1,e2⟩:=hA
 subst e1 e2
 have hl:=rv.length
 refine⟨rfl,?_,I2.bk _ _ hC,hN.keeps I2.bk,T.keeps I2.bk,fun h' e hx=> ?_⟩
 ·show us.length<=sizeLine
  rw [←hl];show 1<=sizeLine;decide
 ·rw [hxe]
  obtain⟨t,he,_⟩:=hx.there
  refine wpAny_mono (KD.any (e:=e) (d:=none) KD.leaving ⟨_,he,rfl⟩ (A8u (Q:=fun _ s''=> ∃h2,s''={s2 with heap:=h2}/\Fly X.prog X.w X.outer X.H₀ X.s₀ e (.ref C) H2 {s2 with heap:=h2}) I2 hs hf hex hx fun h2 F=> ⟨h2,rfl,F⟩)) (fun _ s'' y=> ?_) fun _ _ y=>y
  obtain⟨⟨h2,rfl,F⟩,hD⟩:=y
  exact⟨e,.ref C,none,_,rfl,F,hD,h⟩
end
section
variable {X:Cx}
theorem wV (hc:X.calm=true):dX X (.builtin "sum") (fun xs H Q=> ∃(p:Addr)(ns:List Int),xs=[.ref p]/\SqL X.K H p (ns.map V.int)/\ns.length<=1000/\(∀n∈ns,-10000<=n/\n<=10000)/\Q (.int ns.sum) H):=by
 intro pins s σ H xs us Q I r h
 obtain⟨p,ns,rfl,hq,hl,hn,q⟩:=h
 obtain⟨u,rfl,rx⟩:=eT r
 cases rx
 obtain⟨its,rv,pl,hz⟩:=I.list hq
 have hlen:=rv.length
 rw [List.length_map]at hlen
 have hlt:p<s.heap.objs.size:=by obtain⟨_,e,_⟩:=pl.isList;exact Heap.lt_size e
 have long:∀z:Int,-10000000<=z->z<=10000000->InLong z:=fun z h1 h2=>by unfold InLong;omega
 refine call_sum_walk (wpAny_pyIter_list pl.isList ?_)
 refine⟨s.heap.objs.size,[s.heap.objs.size,p],[s.heap.objs.size],its.toArray.size,_,_,fun i=>(ns[i]?).getD 0,rfl,Walks.list (A:=X.A.in1) (by simp [I.ok.hd hc]) _ p (Nat.ne_of_lt hlt) its.toArray,⟨⟨_,Heap.get?_push_size _ rfl,rfl,rfl⟩,pl.isList.push _⟩,fun b hb=> ?_,fun i v hP=> ?_,fun j hj=> ?_,fun h' tk t' hk=> ?_⟩
 ·show b<(s.heap.push _).objs.size
  rw [Heap.size_push]
  rcases List.mem_cons.mp hb with z|z
  ·rw [z];exact Nat.lt_succ_self _
  ·rw [List.mem_singleton.mp z];exact Nat.lt_succ_of_lt hlt
 ·have hP':its[i]?=some v:=by simpa using hP
  have hi:i<ns.length:=by rw [hlen];exact(List.getElem?_eq_some_iff.mp hP').1
  obtain⟨u,hu,ru⟩:=rv.get (i:=i) (x:=.int ns[i]) (by rw [List.getElem?_map];simp [hi])
  rw [hP']at hu;cases hu
  obtain⟨t,rfl⟩:=ru
  exact⟨t,by simp [hi]⟩
 ·have hj':j<ns.length:=by rw [List.size_toArray]at hj;omega
  refine⟨?_,?_⟩
  ·have:=hn ns[j] (List.getElem_mem hj')
   have e:(ns[j]?).getD 0=ns[j]:=by simp [hj']
   show InLong ((ns[j]?).getD 0)
   rw [e];exact long _ (by omega) (by omega)
  ·rw [vN]
   have:=A1i (B:=10000) (by decide) (ns:=ns.take (j+1)) fun n h=>hn n (List.mem_of_mem_take h)
   have h2:(ns.take (j+1)).length<=1000:=by rw [List.length_take];omega
   exact long _ (by omega) (by omega)
 ·have e:preSum (fun i=>(ns[i]?).getD 0) its.toArray.size=ns.sum:=by
   rw [vN,List.size_toArray,←hlen,List.take_of_length_le (Nat.le_refl _)]
  rw [e]
  exact⟨.int _,H,I.kept (h':=h') (t':=tk) (LSm.kept_iter hk),⟨_,rfl⟩,q⟩
end
theorem nF {J:It}{S:Hp->Prop}{l:Addr}{bs:List Addr}{cl:List C3}{tt:TT}{H0:Hp}{rest:St}{Q:St->Hp->Prop}(p:C3->Bool)(W:Wk J (bs.map V.ref) S)(hS:∀H',Same H0 H'->S H')(hC:ClP H0 bs cl)(hl:H0 l=none)(hz:bs.length<=1000)
  (tst:∀b c H' Q',H' b=some (.tup [.int c.1,.int c.2.1,.int c.2.2])->Same H0 H'->(∀H2,Same H' H2->Q' (p c) H2)->tt (some (.ref b)::rest) H' Q')
  (hQ:∀σ H' bs',Same H0 H'->H' l=some (.lst ((bs':List Addr).map V.ref))->ClP H' bs' (cl.filter p)->Q σ H'):
  eN J (dJ 0) (eG tt (eL l (fD 0))) (eC Q) (none::rest) (upd H0 l (.lst [])):=by
 have hlen:bs.length=cl.length:=Paired.length hC
 refine W (fun i σ H'=>(∃x,σ=x::rest)/\Same H0 H'/\∃bs':List Addr,H' l=some (.lst (bs'.map V.ref))/\ClP H' bs' ((cl.take i).filter p)) ⟨⟨_,rfl⟩,aJ hl,[],by rw [aI];rfl,.nil⟩ (fun i σ H' _ h=>hS _ h.2.1) ?_ ?_
 ·rintro i x σ H' hx ⟨⟨x0,rfl⟩,hs,bs',hl',hP⟩
  rw [List.getElem?_map]at hx
  cases hb:bs[i]? with
  |none=>rw [hb]at hx;cases hx
  |some b=>
   rw [hb]at hx;cases hx
   obtain⟨c,hc,he⟩:=hC.get hb
   have hi:i<bs.length:=(List.getElem?_eq_some_iff.mp hb).1
   have et:(cl.take (i+1)).filter p=(cl.take i).filter p++(if p c=true then [c]else []):=by
    rw [List.take_succ,hc,List.filter_append]
    congr 1
    by_cases z:p c=true
    ·simp [z]
    ·simp [z]
   have hfl:=List.length_filter_le p (cl.take i)
   rw [List.length_take]at hfl
   have hbl:=Paired.length hP
   refine tst b c H' _ (hs _ _ he) hs fun H2 h2=> ?_
   have hl2:=h2 _ _ hl'
   refine dQ (fun hz'=> ?_) fun hz'=> ?_
   ·refine⟨_,rfl,_,hl2,eW (by rw [List.length_map];omega),⟨_,rfl⟩,fun b2 u e=> ?_,bs'++[b],?_,?_⟩
    ·rw [aS (cB e hl)];exact h2 _ _ (hs _ _ e)
    ·rw [aI,List.map_append];rfl
    ·rw [et,if_pos hz']
     have up:∀b2 xs,H2 b2=some (.tup xs)->(upd H2 l (.lst (bs'.map V.ref++[.ref b]))) b2=some (.tup xs):=fun b2 xs e=>by rw [aS (fun z=>by rw [z,hl2]at e;cases e)];exact e
     exact Paired.snoc (Paired.mapP hP fun _ _ e=>up _ _ (h2 _ _ e)) (up _ _ (h2 _ _ (hs _ _ he)))
   ·refine⟨⟨_,rfl⟩,hs.trans h2,bs',hl2,?_⟩
    rw [et,if_neg (by rw [hz'];decide),List.append_nil]
    exact Paired.mapP hP fun _ _ e=>h2 _ _ e
 ·rintro σ H' ⟨_,hs,bs',hl',hP⟩
  rw [List.length_map,hlen,List.take_of_length_le (Nat.le_refl _)]at hP
  exact hQ σ H' bs' hs hl' hP
end L2
namespace M04
open PySem L2 PyProof.Rows
def ent (c:C3):List Key×V:=([Sum.inl c.1,Sum.inl c.2.1],.int c.2.2)
def iC (es:List C3)(h s m:Int):List C3:=if (es.any fun c=>decide (bK c=(h,s)))=true then es.map (fun c=>if bK c=(h,s)then(h,s,m)else c)else es++[(h,s,m)]
theorem key_eq {c:C3}{h s:Int}:(ent c).1=[Sum.inl h,Sum.inl s]↔bK c=(h,s):=by
 unfold ent bK
 constructor
 ·intro e
  have e1:=(List.cons.inj e).1
  have e2:=(List.cons.inj (List.cons.inj e).2).1
  rw [Sum.inl.inj e1,Sum.inl.inj e2]
 ·intro e
  rw [(Prod.mk.inj e).1,(Prod.mk.inj e).2]
theorem A9y (es:List C3)(h s m:Int):eK (es.map ent) [Sum.inl h,Sum.inl s] (.int m)=(iC es h s m).map ent:=by
 unfold eK iC
 have e1:((es.map ent).any fun kv=>decide (kv.1=[Sum.inl h,Sum.inl s]))=es.any fun c=>decide (bK c=(h,s)):=by
  rw [List.any_map]
  congr 1
  funext c
  exact decide_eq_decide.mpr key_eq
 rw [e1]
 split
 ·rw [List.map_map,List.map_map]
  refine List.map_congr_left fun c _=> ?_
  show(if (ent c).1=[Sum.inl h,Sum.inl s]then((ent c).1,V.int m)else ent c)=ent (if bK c=(h,s)then(h,s,m)else c)
  by_cases e:bK c=(h,s)
  ·rw [if_pos (key_eq.mpr e),if_pos e,key_eq.mpr e];rfl
  ·rw [if_neg (fun z=>e (key_eq.mp z)),if_neg e]
 ·rw [List.map_append];rfl
theorem B12 (es:List C3)(h s m:Int)(hn:(es.map bK).Nodup):((iC es h s m).map bK).Nodup:=by
 unfold iC
 by_cases hany:(es.any fun c=>decide (bK c=(h,s)))=true
 ·rw [if_pos hany,List.map_map]
  have:es.map (bK∘fun c=>if bK c=(h,s)then(h,s,m)else c)=es.map bK:=List.map_congr_left fun c _=>by
   show bK (if bK c=(h,s)then(h,s,m)else c)=bK c
   by_cases e:bK c=(h,s)
   ·rw [if_pos e,e];rfl
   ·rw [if_neg e]
  rw [this];exact hn
 ·rw [if_neg hany,List.map_append]
  refine List.nodup_append.mpr ⟨hn,by simp,fun a ha b hb e=>hany ?_⟩
  have hb':b=(h,s):=by simpa [bK]using hb
  obtain⟨c,hc,rfl⟩:=List.mem_map.mp ha
  exact List.any_eq_true.mpr ⟨c,hc,decide_eq_true (e.trans hb')⟩
theorem B1j {es:List C3}{h s m:Int}{B:C3->Prop}(ha:∀c∈es,B c)(hb:B (h,s,m)):∀c∈iC es h s m,B c:=by
 unfold iC
 intro c hc
 by_cases hany:(es.any fun c=>decide (bK c=(h,s)))=true
 ·rw [if_pos hany]at hc
  obtain⟨d,hd,rfl⟩:=List.mem_map.mp hc
  by_cases e:bK d=(h,s)
  ·rw [if_pos e];exact hb
  ·rw [if_neg e];exact ha d hd
 ·rw [if_neg hany]at hc
  rcases List.mem_append.mp hc with z|z
  ·exact ha c z
  ·rw [List.mem_singleton.mp z];exact hb
theorem B0e (es:List C3)(h s m:Int):(iC es h s m).length<=es.length+1/\1<=(iC es h s m).length:=by
 unfold iC
 by_cases hany:(es.any fun c=>decide (bK c=(h,s)))=true
 ·rw [if_pos hany,List.length_map]
  refine⟨by omega,?_⟩
  obtain⟨c,hc,_⟩:=List.any_eq_true.mp hany
  exact List.length_pos_of_mem hc
 ·rw [if_neg hany,List.length_append]
  simp
def row (c:C3):List Int:=[c.1,c.2.1,c.2.2]
def unrow:List Int->C3| [a,b,c]=>(a,b,c)|_=>(0,0,0)
theorem A9o {a b:C3}(h:HT.lexLt (row b) (row a)=false)(hn:bK a≠bK b):lt2 (bK a) (bK b)=true:=by
 obtain⟨a1,a2,a3⟩:=a
 obtain⟨b1,b2,b3⟩:=b
 unfold row at h
 unfold lt2 bK
 unfold bK at hn
 dsimp only at h hn⊢
 rw [HT.lexLt_cons,HT.lexLt_cons]at h⊢
 by_cases e1:a1=b1
 ·subst e1
  rw [if_pos rfl]at h⊢
  by_cases e2:a2=b2
  ·subst e2;exact absurd rfl hn
  ·rw [if_neg (fun z=>e2 z.symm),decide_eq_false_iff_not]at h
   rw [if_neg e2,decide_eq_true_eq];omega
 ·rw [if_neg (fun z=>e1 z.symm),decide_eq_false_iff_not]at h
  rw [if_neg e1,decide_eq_true_eq];omega
theorem B0g {es:List C3}{zs zs':List (Addr×List Int)}(hz:zs.map (·.2)=es.map row)(hs:kF zs zs')(h1:1<=es.length)(h12:es.length<=12)(hb:∀c∈es,(0<=c.1/\c.1<=3)/\(0<=c.2.1/\c.2.1<=5)/\1<=c.2.2/\c.2.2<=20)(hn:(es.map bK).Nodup):
  gQ (zs'.map fun z=>unrow z.2)/\(zs'.map fun z=>unrow z.2).Perm es/\∀z∈zs',z.2=row (unrow z.2):=by
 have hlen:zs.length=es.length:=by have:=congrArg List.length hz;simpa using this
 have e0:zs.map (fun z=>unrow z.2)=es:=by
  have:zs.map (fun z=>unrow z.2)=(zs.map (·.2)).map unrow:=by rw [List.map_map];rfl
  rw [this,hz,List.map_map]
  exact List.map_id' es
 have hp:(zs'.map fun z=>unrow z.2).Perm es:=by rw [←e0];exact hs.1.map _
 have hrow:∀z∈zs',z.2=row (unrow z.2):=fun z hz'=>by
  have hm:z.2∈zs.map (·.2):=List.mem_map_of_mem (hs.1.mem_iff.mp hz')
  rw [hz]at hm
  obtain⟨c,_,e⟩:=List.mem_map.mp hm
  rw [←e];rfl
 have hl':(zs'.map fun z=>unrow z.2).length=es.length:=hp.length_eq
 refine⟨⟨by omega,by omega,fun c hc=>hb c (hp.mem_iff.mp hc),?_⟩,hp,hrow⟩
 have nd:((zs'.map fun z=>unrow z.2).map bK).Nodup:=((hp.map bK).nodup_iff).mpr hn
 rw [List.map_map]at nd⊢
 rw [List.nodup_iff_pairwise_ne,List.pairwise_map]at nd
 rw [List.pairwise_map]
 have both:=hs.2.and nd
 rw [List.pairwise_iff_getElem]at both⊢
 intro i j hi hj hij
 have b:=both i j hi hj hij
 have r1:=hrow _ (List.getElem_mem hi)
 have r2:=hrow _ (List.getElem_mem hj)
 have b1:=b.1
 rw [r1,r2]at b1
 exact A9o b1 b.2
end M04
namespace L2
open PySem PySem.Spec PyProof.Rows
theorem Stp.updO {p d:Addr}{H H1:Hp}{o:HO}(s:Stp p H H1)(hd:H d=none)(hp:PenAt H p):Stp p H (upd H1 d o):=by
 obtain⟨x,f,e⟩:=hp
 have hne:p≠d:=cB e hd
 obtain⟨x',f',e'⟩:=s.pen
 exact⟨⟨x',f',by rw [aS hne];exact e'⟩,fun b o hb h=>by rw [aS (cB h hd)];exact s.keep b o hb h⟩
theorem Stp.none {p b:Addr}{H H1:Hp}(s:Stp p H H1)(h:H1 b=Option.none):H b=Option.none/\b≠p:=by
 have hb:b≠p:=fun z=>by
  obtain⟨x,f,e⟩:=s.pen
  rw [z,e]at h;cases h
 refine⟨?_,hb⟩
 cases e:H b with
 |none=>rfl
 |some o=>rw [s.keep b o hb e]at h;cases h
theorem A96 {d:Addr}{o:Obj}{kvs:List (List Key×V)}{g:TG}{tb:TS}{D:cQ}{σ:St}{H:Hp}(Pv:Nat->St->Hp->Prop)(h0:Pv 0 σ H)(hl:∀i σ H,Pv i σ H->H d=some (.frz o (.dT kvs)))
  (hs:∀i k x p b σ H,kvs[i]?=some (k,x)->Pv i σ H->H p=none->H b=some (.tup (k.map kV))->g (.ref p) σ (upd H p (.tup [.ref b,x])) fun σ2 H2=>tb {D with nx:=Pv (i+1),ct:=Pv (i+1),bk:=D.nx} σ2 H2)(hd:∀σ H,Pv kvs.length σ H->D.nx σ H):
  eN (Itm d o kvs) g tb D σ H:=by
 refine⟨fun i m σ H=>m=kvs.length - i/\i<=kvs.length/\Pv i σ H,⟨kvs.length,by simp,Nat.zero_le _,h0⟩,?_⟩
 rintro i m σ H ⟨rfl,hi,p⟩
 by_cases hlt:i<kvs.length
 ·refine .inr ⟨⟨hl i σ H p,hlt⟩,Pv (i+1),fun σ' H' p'=> ⟨kvs.length -(i+1),by omega,rfl,hlt,p'⟩,fun x H' y=> ?_⟩
  obtain⟨pp,b,k,x',e1,e2,e3,e4,e5⟩:=y
  subst e1 e3
  exact hs i k x' pp b σ H e4 p e2 e5
 ·have e:i=kvs.length:=by omega
  subst e
  exact .inl ⟨⟨hl _ σ H p,rfl⟩,hd σ H p⟩
end L2
namespace M04
open PySem L2 PyProof.Rows
def A7u (hs:List Int):Prop:=1<=hs.length/\hs.length<=1000/\∀x∈hs,0<=x/\x<=3
def sL:Sp:=fun vs H Q _=> ∃p c hl cs hs,vs=[.ref p,.ref c,.ref hl]/\PenAt H p/\hZ H c cs/\fY cs/\hl≠p/\H hl=some (.lst ((hs:List Int).map V.int))/\A7u hs/\∀a cl H',Stp p H H'->ClT H' a cl->gQ cl->mL cs cl->Q (.ref a) H'
abbrev nCL:List Str:=["_law_pen_here","_law_custom_here","_law_holders_here","_law_rights","_law_turn","_law_holder","_law_sort"]
section
variable {P:Program}{w:World}{K:W.Frag}{mg:Str->Option Value}{base:Heap}
theorem scClaimsL:bH nCL ["_law_pen_here","_law_custom_here","_law_holders_here"] (aQ kM):=by ac_rfl
theorem A0t:(["_law_pair","_law_many"]:List Str).Nodup:=by decide +kernel
theorem B1b {f g1 g2:Addr}{fd d1 d2:FuncData}(F:Fun K "_law_claims" "_law_claims" kM f fd)(T:Txt mg)(a1:At P w K mg base 1 "_law_draw" g1 d1 ["_law_pen_here","_law_bound"] jS)(a2:At P w K mg base 2 "_law_pick" g2 d2 ["_law_pen_here","_law_things"] kE):aR P w K mg base CX0 3 f fd ["_law_pen_here","_law_custom_here","_law_holders_here"] sL:=by
  refine F.ok scClaimsL (fun vs H Q E h=> ?_) (fun cdv A outer s H vs Q E hr h=> ?_)
  · obtain⟨p,c,hl,cs,hs,rfl,_⟩:=h;rfl
  · obtain⟨p,c,hl,cs,hs,rfl,hp,hc,Gc,hlp,hhl,Gh,q⟩:=h
    have nd:=scClaimsL.nd
    have r1:Room 1 _:=hr.mono (by decide)
    have hu:(A.deeper (envOfC "_law_claims" (aQ kM) s.heap.objs.size f cdv)).units+1<cLine:=iL hr
    refine⟨_,aW (dR (i:=3) nd rfl (Or.inl rfl) A6o)<|
      aW (qQ PassesOwn.never rfl (qH rfl T.range (fV (bJ fX aL (aX a1.ok r1 rfl a1.nm a1.kp a1.bd .nil bA (aG (pv 0) (bS aL aF)))) aF)) (bL (i:=4) nd rfl (Or.inl rfl))
        (aW (oF (i:=5) (j:=6) rfl nd rfl rfl (by decide) rfl rfl (bQ (aX a2.ok hr rfl a2.nm a2.kp a2.bd .nil bA (aG (pv 0) (aG (pv 2) aF))) (bQ (aX a1.ok r1 rfl a1.nm a1.kp a1.bd .nil bA (aG (pv 0) (bQ (bB eR rfl T.len PySem.boot_len (aG (pv 1) aF)) aF))) aF)) rfl)<|
         aV (A49 hu (pv 3) (dF (aG (pv 5) (aG (pv 6) aF))) (aX a2.ok hr rfl a2.nm a2.kp a2.bd .nil bA (aG (pv 0) (lU (eY (lstq (cJ (cJ (cJ (cJ (kH (bJ fX aL (aX a1.ok r1 rfl a1.nm a1.kp a1.bd .nil bA (aG (pv 0) (bS aL aF)))) bY)))))) bY)))) rfl)))<|
      aV (aZ (fS kK rfl T.tuple boot_tuple (bQ (bB A1v rfl T.sorted lS (fW (dL (aQ kM).names nCL ["_law_pair","_law_many"] [] rfl (B2j (pv 3)) rfl rfl rfl (by decide +kernel)
        (fun Z=>gX rfl (cK (bL (i:=0) A0t rfl (Or.inl rfl)) (cK (bL (i:=1) A0t rfl (Or.inl rfl)) gJ))) (fun Z=>fJ) (fun Z=>bJ iK (pv 0) (dF (aG (pv 1) aF)))) aF)) aF))),?_⟩
    intro d hd
    have st0:Stp p H (upd H d (.dT [])):=(Stp.refl hp).updO hd hp
    refine⟨_,rfl,p,8,rfl,st0.pen,by decide,by decide,fun dn H1 d0 d1' st1=> ?_⟩
    refine⟨_,_,rfl,rfl,1+dn,rfl,by omega,by omega,?_⟩
    have hdp:d≠p:=fun z=>by
      obtain⟨x,y,e⟩:=hp
      rw [z,e]at hd;cases hd
    refine pJ (lo:=0) (n:=(1+dn).toNat) (fun i σ H'=>(∃o4 o5 o6,σ=[some (.ref p),some (.ref c),some (.ref hl),some (.ref d),o4,o5,o6])/\Stp p H H'/\∃es:List C3,H' d=some (.dT (es.map ent))/\(es.map bK).Nodup/\(∀x∈es,((0<=x.1/\x.1<=3)/\(0<=x.2.1/\x.2.1<=5)/\1<=x.2.2/\x.2.2<=20)/\x.2.1<cs.length)/\es.length<=i/\(1<=i->1<=es.length))
      ⟨⟨_,_,_,rfl⟩,st0.trans st1,[],st1.keep d _ hdp aI,List.nodup_nil,(fun x hx=>by cases hx),Nat.le_refl _,fun z=>by omega⟩ ?_ ?_
    · rintro i σ H' hi ⟨⟨o4,o5,o6,rfl⟩,st,es,hd',hn,hb,hlen,_⟩
      have hcH:∀H2,Stp p H H2->hZ H2 c cs:=fun H2 s=>s.keep c _ (hp.ne hc (by intro z;simp)) hc
      refine⟨_,rfl,_,rfl,p,hl,_,rfl,st.pen,hlp,st.keep hl _ hlp hhl,by rw [List.length_map];exact Gh.1,by rw [List.length_map];exact Gh.2.1,fun v H2 hv st2=> ?_⟩
      obtain⟨hh,hhm,rfl⟩:=List.mem_map.mp hv
      have hhb:=Gh.2.2 hh hhm
      have st12:=st.trans st2
      refine⟨_,rfl,_,rfl,c,_,rfl,.inr (SqT.of (hcH _ st12)),p,_,rfl,st12.pen,?_,?_,fun sn H3 s0 s1 st3=> ?_⟩
      · rw [List.length_map];have:=Gc.l1;omega
      · rw [List.length_map];have:=Gc.l6;omega
      rw [List.length_map]at s1
      refine⟨_,_,rfl,?_⟩
      have st13:=st12.trans st3
      refine⟨_,rfl,_,rfl,p,20,rfl,st13.pen,by decide,by decide,fun m H4 m0 m1 st4=> ?_⟩
      refine⟨_,_,rfl,rfl,by show 5<=sizeLine;decide,fun t ht=> ?_⟩
      have st14:=st13.trans st4
      have htn:=st14.none ht
      have st5:=st14.same (aJ (o:=.lst [.int 1,.int 1,.int 2,.int 3,.int (1+m)]) ht)
      refine⟨p,t,_,rfl,st5.pen,htn.2,aI,by show 1<=5;decide,by show 5<=1000;decide,fun v H6 hv6 st6=> ?_⟩
      obtain⟨x,rfl,hx1,hx2⟩:∃x,v=V.int x/\1<=x/\x<=20:=by
        simp only [List.mem_cons,List.not_mem_nil,or_false]at hv6
        rcases hv6 with rfl|rfl|rfl|rfl|rfl
        · exact⟨1,rfl,by decide,by decide⟩
        · exact⟨1,rfl,by decide,by decide⟩
        · exact⟨2,rfl,by decide,by decide⟩
        · exact⟨3,rfl,by decide,by decide⟩
        · exact⟨1+m,rfl,by omega,by omega⟩
      have st7:=st5.trans st6
      have hd4:H4 d=some (.dT (es.map ent)):=st4.keep d _ hdp (st3.keep d _ hdp (st2.keep d _ hdp hd'))
      have hd6:H6 d=some (.dT (es.map ent)):=st6.keep d _ hdp (aJ (o:=.lst [.int 1,.int 1,.int 2,.int 3,.int (1+m)]) ht _ _ hd4)
      refine⟨_,rfl,_,rfl,_,rfl,by show 2<=sizeLine;decide,fun k hk=> ?_⟩
      have hkd:d≠k:=fun z=>by rw [←z,hd6]at hk;cases hk
      have hd8:(upd H6 k (.tup [.int hh,.int sn])) d=some (.dT (es.map ent)):=by rw [aS hkd];exact hd6
      have hkt:(upd H6 k (.tup [.int hh,.int sn])) k=some (.tup (([Sum.inl hh,Sum.inl sn]:List Key).map kV)):=by rw [aI];rfl
      refine⟨d,_,rfl,DPut.t hd8 hkt (by rw [List.length_map];exact eW (by omega)),?_⟩
      rw [A9y]
      have hl2:=B0e es hh sn x
      refine⟨⟨_,_,_,rfl⟩,(st7.same (aJ hk)).updO hd hp,iC es hh sn x,aI,B12 es hh sn x hn,B1j hb ⟨⟨hhb,⟨s0,by have:=Gc.l6;show sn<=5;omega⟩,hx1,hx2⟩,s1⟩,by omega,fun _=>hl2.2⟩
    · rintro σ H' ⟨⟨o4,o5,o6,rfl⟩,st,es,hd',hn,hb,hlen,h1⟩
      have hel:es.length<=8:=by omega
      have he1:1<=es.length:=h1 (by omega)
      refine⟨_,rfl,d,_,rfl,hd',fun o Z l hl0=> ?_⟩
      have stf:Stp p H (upd H' d (.frz o (.dT (es.map ent)))):=st.updO hd hp
      have hln:=stf.none hl0
      have hld:l≠d:=fun z=>by rw [z,aI]at hl0;cases hl0
      refine A96 (fun i σ H2=>σ.length=2/\H2 d=some (.frz o (.dT (es.map ent)))/\Stp p H H2/\∃zs:List (Addr×List Int),H2 l=some (.lst (zs.map fun z=>V.ref z.1))/\zs.map (·.2)=(es.take i).map row/\∀z∈zs,H2 z.1=some (.tup (z.2.map V.int)))
        ⟨rfl,by rw [aS hld.symm,aI],stf.updO hln.1 hp,[],by rw [aI];rfl,rfl,fun z hz=>by cases hz⟩ (fun i σ H2 h=>h.2.1) ?_ ?_
      · rintro i k x pp b σ H2 hki ⟨hσ,hfz,st2,zs,hl2,hzr,hza⟩ hpp hb2
        match σ,hσ with
        | [x0,x1],_=>
        rw [List.getElem?_map]at hki
        cases hei:es[i]? with
        |none=>rw [hei]at hki;cases hki
        |some cc=>
        rw [hei]at hki
        have hke:ent cc=(k,x):=Option.some.inj hki
        have ek:k=[Sum.inl cc.1,Sum.inl cc.2.1]:=(Prod.mk.inj hke).1.symm
        have ex:x=V.int cc.2.2:=(Prod.mk.inj hke).2.symm
        subst ek ex
        have hi:i<es.length:=(List.getElem?_eq_some_iff.mp hei).1
        have hzl:zs.length<=i:=by
          have:=congrArg List.length hzr
          rw [List.length_map,List.length_map,List.length_take]at this;omega
        have s3:=aJ (o:=.tup [.ref b,.int cc.2.2]) hpp
        refine⟨pp,_,rfl,SqT.of aI,rfl,_,_,rfl,_,_,rfl,rfl,?_⟩
        refine nI ?_
        refine⟨_,rfl,_,rfl,by show 1<=sizeLine;decide,fun t ht=> ?_⟩
        have s4:=aJ (o:=.tup [.int cc.2.2]) ht
        refine⟨b,t,_,[.int cc.2.2],rfl,rfl,s4 _ _ (s3 _ _ hb2),aI,by show 2+1<=sizeLine;decide,fun u H5 s5 hu5=> ?_⟩
        have s35:=(s3.trans s4).trans s5
        have hl5:=s35 _ _ hl2
        refine⟨_,hl5,eW (by rw [List.length_map];omega),rfl,?_,(st2.same s35).updO hln.1 hp,zs++[(u,row cc)],?_,?_,fun z hz=> ?_⟩
        · rw [aS hld.symm];exact s35 _ _ hfz
        · rw [aI,List.map_append];rfl
        · rw [List.map_append,hzr,List.take_succ,hei,List.map_append];rfl
        · have up:∀a xs,H5 a=some (.tup xs)->(upd H5 l (.lst (zs.map (fun z=>V.ref z.1)++[.ref u]))) a=some (.tup xs):=fun a xs e=>by rw [aS (fun z=>by rw [z,hl5]at e;cases e)];exact e
          rcases List.mem_append.mp hz with z'|z'
          · exact up _ _ (s35 _ _ (hza z z'))
          · rw [List.mem_singleton.mp z'];exact up _ _ hu5
      · rintro σ H2 ⟨_,_,st2,zs,hl2,hzr,hza⟩
        rw [List.length_map,List.take_of_length_le (Nat.le_refl _)]at hzr
        have hzl:zs.length=es.length:=by
          have:=congrArg List.length hzr
          simpa using this
        refine⟨l,zs,rfl,SqL.of hl2,fun z hz=> ⟨hza z hz,fun e=> ?_⟩,by omega,fun l2 zs' hl3 hs2=> ?_⟩
        · have hm:z.2∈es.map row:=by rw [←hzr];exact List.mem_map_of_mem hz
          obtain⟨c',_,e'⟩:=List.mem_map.mp hm
          rw [←e']at e;cases e
        have s3:=aJ (o:=.lst (zs'.map fun z=>V.ref z.1)) hl3
        obtain⟨gO,gP,gR⟩:=B0g hzr hs2 he1 (by omega) (fun x hx=>(hb x hx).1) hn
        refine⟨l2,_,rfl,.inl ⟨SqL.of aI,fun a ha=> ?_⟩⟩
        have s4:=aJ (o:=.tup (zs'.map fun z=>V.ref z.1)) ha
        refine q a (zs'.map fun z=>unrow z.2) _ ((st2.same s3).same s4) ⟨zs'.map (·.1),by rw [aI,List.map_map];rfl,?_⟩ gO fun x hx=>(hb x (gP.mem_iff.mp hx)).2
        have go:∀ys:List (Addr×List Int),(∀z∈ys,z∈zs')->ClP (upd (upd H2 l2 (.lst (zs'.map fun z=>V.ref z.1))) a (.tup (zs'.map fun z=>V.ref z.1))) (ys.map (·.1)) (ys.map fun z=>unrow z.2):=fun ys=>by
          induction ys with
          |nil=>intro _;exact .nil
          |cons y ys ih=>
            intro hy
            refine .cons ?_ (ih fun z hz=>hy z (List.mem_cons_of_mem _ hz))
            have hy':=hy y List.mem_cons_self
            have e:=hza y (hs2.1.mem_iff.mp hy')
            rw [gR y hy']at e
            exact s4 _ _ (s3 _ _ e)
        exact go zs' fun z hz=>hz
end
def rZ:Sp:=fun vs H Q _=> ∃p,vs=[.ref p]/\PenAt H p/\∀a cs H',Stp p H H'->hZ H' a cs->fY cs->cs.length<=4->Q (.ref a) H'
section
variable {P:Program}{w:World}{K:W.Frag}{mg:Str->Option Value}{base:Heap}
theorem B10:bH ["_law_pen_here"] ["_law_pen_here"] (aQ mO):=by ac_rfl
theorem B0c:(["_law_turn","_law_pen_here"]:List Str).Nodup:=by decide +kernel
theorem A4x {f g1 g2:Addr}{fd d1 d2:FuncData}(F:Fun K "_law_custom" "_law_custom" mO f fd)(T:Txt mg)(a1:At P w K mg base 1 "_law_draw" g1 d1 ["_law_pen_here","_law_bound"] jS)(a2:At P w K mg base 2 "_law_pick" g2 d2 ["_law_pen_here","_law_things"] kE):aR P w K mg base CX0 3 f fd ["_law_pen_here"] rZ:=by
 refine F.ok B10 (fun vs H Q E h=> ?_) (fun cdv A outer s H vs Q E hr h=> ?_)
 ·obtain⟨p,rfl,_⟩:=h;rfl
 ·obtain⟨p,rfl,hp,q⟩:=h
  have r1:Room 1 _:=hr.mono (by decide)
  refine⟨_,aV (aZ (fS kK rfl T.tuple boot_tuple (fW (dL (aQ mO).names ["_law_pen_here"] ["_law_turn"] [("_law_pen_here",0)] rfl (qH rfl T.range (fV (bJ fX aL (aX a1.ok r1 rfl a1.nm a1.kp a1.bd .nil bA (aG (pv 0) (bS aL aF)))) aF)) rfl rfl rfl (by decide +kernel)
   (fun Z=>bL (i:=0) B0c rfl (Or.inl rfl)) (fun Z=>fJ)
   (fun Z=>aX a2.ok hr rfl a2.nm a2.kp a2.bd .nil bA (aG (pv 1) (lU (eY (lstq (cJ (cJ (cJ (cJ (kH (bJ fX aL (aX a1.ok r1 rfl a1.nm a1.kp a1.bd .nil bA (aG (pv 1) (bS aL aF)))) bY)))))) bY))))) aF))),?_⟩
  refine⟨_,rfl,p,4,rfl,hp,by decide,by decide,fun d H1 d0 d1' st1=> ?_⟩
  refine⟨_,_,rfl,rfl,1+d,rfl,by omega,by omega,fun Z l hl=> ?_⟩
  have hHl:H l=none:=by
   cases e:H l with
   |none=>rfl
   |some o=>
    by_cases z:l=p
    ·obtain⟨x,f',e'⟩:=st1.pen
     rw [z,e']at hl;cases hl
    ·rw [st1.keep l o z e]at hl;cases hl
  have hlp:l≠p:=fun z=>by
   obtain⟨x,f',e'⟩:=hp
   rw [z,e']at hHl;cases hHl
  refine pJ (lo:=0) (n:=(1+d).toNat) (fun i σ H'=>(∃o,σ=[o,some (.ref p)])/\Stp p H H'/\∃cs:List Int,H' l=some (.lst (cs.map V.int))/\cs.length=i/\∀x∈cs,1<=x/\x<=100) ⟨⟨_,rfl⟩,st1.updL hHl hp,[],by rw [aI];rfl,rfl,fun x hx=>by cases hx⟩ ?_ ?_
  ·rintro i σ H' hi ⟨⟨o,rfl⟩,st,cs,hl',hn,hx⟩
   refine pU ?_
   refine⟨_,rfl,_,rfl,p,100,rfl,st.pen,by decide,by decide,fun m H2 m0 m1 st2=> ?_⟩
   refine⟨_,_,rfl,rfl,by show 5<=sizeLine;decide,fun t ht=> ?_⟩
   have htp:t≠p:=fun z=>by
    obtain⟨x,f',e'⟩:=st2.pen
    rw [z,e']at ht;cases ht
   have st3:=(st.trans st2).same (aJ (o:=.lst [.int 1,.int 1,.int 2,.int 3,.int (1+m)]) ht)
   refine⟨p,t,_,rfl,st3.pen,htp,aI,by show 1<=5;decide,by show 5<=1000;decide,fun v H4 hv st4=> ?_⟩
   obtain⟨x,rfl,hx1,hx2⟩:∃x,v=V.int x/\1<=x/\x<=100:=by
    simp only [List.mem_cons,List.not_mem_nil,or_false]at hv
    rcases hv with rfl|rfl|rfl|rfl|rfl
    ·exact⟨1,rfl,by decide,by decide⟩
    ·exact⟨1,rfl,by decide,by decide⟩
    ·exact⟨2,rfl,by decide,by decide⟩
    ·exact⟨3,rfl,by decide,by decide⟩
    ·exact⟨1+m,rfl,by omega,by omega⟩
   have hlt:H2 l=some (.lst (cs.map V.int)):=st2.keep l _ hlp hl'
   have hlt3:=aJ (o:=.lst [.int 1,.int 1,.int 2,.int 3,.int (1+m)]) ht _ _ hlt
   refine⟨_,st4.keep l _ hlp hlt3,eW (by rw [List.length_map];omega),⟨_,rfl⟩,(st3.trans st4).updL hHl hp,cs++[x],?_,by rw [List.length_append,hn];rfl,fun y hy=> ?_⟩
   ·rw [aI,List.map_append];rfl
   ·rcases List.mem_append.mp hy with z|z
    ·exact hx y z
    ·rw [List.mem_singleton.mp z];exact⟨hx1,hx2⟩
  ·rintro σ H' ⟨_,st,cs,hl',hn,hx⟩
   refine⟨l,_,rfl,.inl ⟨SqL.of hl',fun a ha=> ?_⟩⟩
   exact q a cs _ (st.same (aJ ha)) aI ⟨by omega,by omega,hx⟩ (by omega)
end
structure AtD (P:Program)(w:World)(K:W.Frag)(mg:Str->Option Value)(base:Heap)(k:Nat)(x:Str)(f:Addr)(fd:FuncData)(ps:List Str)(sp:Sp):Prop where
 nm:mg x=some (.ref f)
 kp:W.keepIn K (.ref f)=true
 bd:L2.Binds K fd ps []
 ok:aR P w K mg base (CXD P w) k f fd ps sp
def hX (cl:List C3)(i:Int):Bool:=cl.any fun c=>decide (c.1=i)
def dS (cl:List C3)(u:V):Bool:=match u with| .int i=>hX cl i|_=>false
def h1V (H:Hp)(v:V):V:=match tupOf H v with|some [a,_,_]=>a|_=> .non
def jM (H:Hp)(v u:V):Bool:=match u with| .int i=>(match tupOf H v with|some xs=>xs.any fun b=>decide (h1V H b= .int i)|none=>false)|_=>false
def dif (u v:V):Bool:=match u,v with| .int i,.int j=>decide (i≠j)|_,_=>true
theorem B0j {H:Hp}{b:Addr}{c:C3}(h:H b=some (.tup [.int c.1,.int c.2.1,.int c.2.2])):h1V H (.ref b)= .int c.1:=by
 unfold h1V;rw [jB h]
theorem A2d {H:Hp}{i:Int}:∀{bs:List Addr}{cl:List C3},ClP H bs cl->((bs.map V.ref).any fun b=>decide (h1V H b= .int i))=hX cl i
 |_,_,.nil=>rfl
 |_,_,.cons r t=>by
  have ih:=A2d (i:=i) t
  unfold hX at ih⊢
  rw [List.map_cons,List.any_cons,List.any_cons,B0j r,ih]
  congr 1
  exact decide_eq_decide.mpr ⟨fun z=>V.int.inj z,fun z=>by rw [z]⟩
theorem lL {H:Hp}{a:Addr}{cl:List C3}(hA:ClT H a cl)(u:V):jM H (.ref a) u=dS cl u:=by
 obtain⟨bs,ha,hC⟩:=hA
 unfold jM dS
 cases u<;>try rfl
 dsimp only
 rw [jB ha]
 exact A2d hC
theorem A0h {H:Hp}{b:Addr}{c:C3}(h:clV H (.ref b)=true)(hb:H b=some (.tup [.int c.1,.int c.2.1,.int c.2.2])):(0<=c.1/\c.1<=3)/\(0<=c.2.1/\c.2.1<=5)/\1<=c.2.2/\c.2.2<=20:=by
 unfold clV at h
 rw [jB hb]at h
 have h':(bG 0 3 (.int c.1)&&(bG 0 5 (.int c.2.1)&&bG 1 20 (.int c.2.2)))=true:=h
 simp only [bG,Bool.and_eq_true,decide_eq_true_eq]at h'
 exact⟨⟨h'.1.1,h'.1.2⟩,⟨h'.2.1.1,h'.2.1.2⟩,h'.2.2.1,h'.2.2.2⟩
theorem jH {H:Hp}{v:V}(h:bV H v=true):∃a cl,v= .ref a/\ClT H a cl/\gQ cl:=by
 unfold bV at h
 cases e:tupOf H v with
 |none=>rw [e]at h;cases h
 |some xs=>
  rw [e]at h
  obtain⟨a,rfl,ha⟩:=eX e
  have h':(decide (1<=xs.length)&&decide (xs.length<=12)&&xs.all (clV H)&&upL (xs.map (k2V H)))=true:=h
  simp only [Bool.and_eq_true,decide_eq_true_eq]at h'
  obtain⟨bs,cl,rfl,hC,hk⟩:=mG h'.1.2
  have hl:bs.length=cl.length:=Paired.length hC
  have hz:=h'.1.1
  rw [List.length_map,hl]at hz
  refine⟨a,cl,rfl,⟨bs,ha,hC⟩,hz.1,hz.2,fun c hc=> ?_,?_⟩
  ·obtain⟨i,hi⟩:=List.getElem?_of_mem hc
   have hib:i<bs.length:=by rw [hl];exact(List.getElem?_eq_some_iff.mp hi).1
   obtain⟨c',hc',he⟩:=hC.get (List.getElem?_eq_getElem hib)
   rw [hi]at hc';obtain rfl:=Option.some.inj hc'
   exact A0h (List.all_eq_true.mp h'.1.2 _ (List.mem_map_of_mem (List.getElem_mem hib))) he
  ·have hu:=h'.2
   rw [hk]at hu
   unfold upL at hu
   rw [decide_eq_true_eq,List.pairwise_map]at hu
   exact hu
theorem A17 {H:Hp}{v:V}(h:clV H v=true):∃(b:Addr)(c:C3),v= .ref b/\H b=some (.tup [.int c.1,.int c.2.1,.int c.2.2])/\((0<=c.1/\c.1<=3)/\(0<=c.2.1/\c.2.1<=5)/\1<=c.2.2/\c.2.2<=20):=by
 obtain⟨b,c,rfl,hb,_⟩:=A1s h
 exact⟨b,c,rfl,hb,A0h h hb⟩
theorem yO {H:Hp}{v:V}(h:cuV H v=true):∃a cs,v= .ref a/\hZ H a cs/\fY cs:=by
 unfold cuV at h
 cases e:tupOf H v with
 |none=>rw [e]at h;cases h
 |some xs=>
  rw [e]at h
  obtain⟨a,rfl,ha⟩:=eX e
  have h':(decide (1<=xs.length)&&decide (xs.length<=6)&&xs.all (bG 1 100))=true:=h
  simp only [Bool.and_eq_true,decide_eq_true_eq]at h'
  have go:∀ys:List V,ys.all (bG 1 100)=true->∃cs:List Int,ys=cs.map V.int/\∀x∈cs,1<=x/\x<=100:=fun ys=>by
   induction ys with
   |nil=>intro _;exact⟨[],rfl,fun x hx=>by cases hx⟩
   |cons y ys ih=>
    intro hy
    rw [List.all_cons,Bool.and_eq_true]at hy
    obtain⟨cs,rfl,hc⟩:=ih hy.2
    obtain⟨i,rfl⟩:=nO hy.1
    have hi:=hy.1
    simp only [bG,Bool.and_eq_true,decide_eq_true_eq]at hi
    refine⟨i::cs,rfl,fun x hx=> ?_⟩
    rcases List.mem_cons.mp hx with rfl|hx
    ·exact hi
    ·exact hc x hx
  obtain⟨cs,rfl,hc⟩:=go xs h'.2
  have hz:=h'.1
  rw [List.length_map]at hz
  exact⟨a,cs,rfl,ha,hz.1,hz.2,hc⟩
def fG (g:Hp->V->Bool)(n:Nat)(C:Addr):Sp:=fun vs H Q E=> ∃v,vs=[v]/\Kn H n v/\(g H v=false->∀H',Same H H'->E (.ref C) none H')/\(g H v=true->∀H',Same H H'->Q .non H')
def eO (H:Hp)(u v:V):Option Nat:=if cuV H u=true then(if bV H v=true then(if unV H u v=true then none else some 5)else some 5)else some 3
def cS (H:Hp)(u v x:V):Option Nat:=match eO H u v with|some j=>some j|none=>if jM H v x=true then none else some 6
def cV (H:Hp)(v u:V):Option Nat:=if bV H v=true then(if clV H u=true then none else some 4)else some 5
def dI (H:Hp)(v x y:V):Option Nat:=if bV H v=true then(if (jM H v x&&jM H v y&&dif x y)=true then none else some 6)else some 5
def vZ (c:Nat->Addr):Sp:=fun vs H Q E=> ∃u v,vs=[u,v]/\Kn H 2 u/\Kn H 3 v/\(∀j,eO H u v=some j->∀H',Same H H'->E (.ref (c j)) none H')/\(eO H u v=none->∀H',Same H H'->Q .non H')
def pN:Sp:=fun vs H Q _=> ∃a cl u,vs=[.ref a,u]/\ClT H a cl/\cl.length<=12/\Kn H 1 u/\∀H',Same H H'->Q (.bl (dS cl u)) H'
def qS (cH:Addr):Sp:=fun vs H Q E=> ∃a cl u,vs=[.ref a,u]/\ClT H a cl/\cl.length<=12/\Kn H 1 u/\(dS cl u=false->∀H',Same H H'->E (.ref cH) none H')/\(dS cl u=true->∀H',Same H H'->Q .non H')
def uK (cH:Addr):Sp:=fun vs H Q E=> ∃a cl u v,vs=[.ref a,u,v]/\ClT H a cl/\cl.length<=12/\Kn H 1 u/\Kn H 1 v/\((dS cl u&&dS cl v&&dif u v)=false->∀H',Same H H'->E (.ref cH) none H')/\((dS cl u&&dS cl v&&dif u v)=true->∀H',Same H H'->Q .non H')
section
variable {P:Program}{w:World}{K:W.Frag}{mg:Str->Option Value}{base:Heap}
theorem A7o:bH ["custom"] ["custom"] (aQ qN):=by ac_rfl
theorem B0x:bH ["claim"] ["claim"] (aQ qT):=by ac_rfl
theorem A4g:bH ["claims"] ["claims"] (aQ rQ):=by ac_rfl
theorem A2x {f g1 C:Addr}{fd d1:FuncData}(F:Fun K "check_custom" "check_custom" qN f fd)(a1:At P w K mg base 3 "is_custom" g1 d1 ["thing"] lH)(mC:mg "NoCustom" =some (.ref C))(eC:ExcC K C):aR P w K mg base (CXD P w) 4 f fd ["custom"] (fG cuV 2 C):=by
 refine F.okD A7o (fun vs H Q E h=> ?_) (fun cdv A outer s H vs Q E hr h=> ?_)
 ·obtain⟨v,rfl,_⟩:=h;rfl
 ·obtain⟨v,rfl,kn,q1,q2⟩:=h
  refine⟨_,aV (bU (cY (cU (aX a1.ok hr rfl a1.nm a1.kp a1.bd .nil bA (aG (pv 0) aF)))) (aV (iY (E:=E) rfl rfl rfl rfl rfl rfl mC eC)) bT),?_⟩
  refine⟨_,rfl,v,rfl,kn,fun H' hs=> ⟨_,rfl,?_⟩⟩
  exact dQ (fun z=>q1 (by simpa using z) H' hs) fun z=>q2 (by simpa using z) H' hs
theorem A4i {f g1 C:Addr}{fd d1:FuncData}(F:Fun K "check_claims" "check_claims" rQ f fd)(a1:At P w K mg base 4 "are_claims" g1 d1 ["thing"] lW)(mC:mg "NoClaims" =some (.ref C))(eC:ExcC K C):aR P w K mg base (CXD P w) 5 f fd ["claims"] (fG bV 3 C):=by
 refine F.okD A4g (fun vs H Q E h=> ?_) (fun cdv A outer s H vs Q E hr h=> ?_)
 ·obtain⟨v,rfl,_⟩:=h;rfl
 ·obtain⟨v,rfl,kn,q1,q2⟩:=h
  refine⟨_,aV (bU (cY (cU (aX a1.ok hr rfl a1.nm a1.kp a1.bd .nil bA (aG (pv 0) aF)))) (aV (iY (E:=E) rfl rfl rfl rfl rfl rfl mC eC)) bT),?_⟩
  refine⟨_,rfl,v,rfl,kn,fun H' hs=> ⟨_,rfl,?_⟩⟩
  exact dQ (fun z=>q1 (by simpa using z) H' hs) fun z=>q2 (by simpa using z) H' hs
theorem A5s {f g1 C:Addr}{fd d1:FuncData}(F:Fun K "check_claim" "check_claim" qT f fd)(a1:At P w K mg base 3 "is_claim" g1 d1 ["thing"] jD)(mC:mg "NoClaim" =some (.ref C))(eC:ExcC K C):aR P w K mg base (CXD P w) 4 f fd ["claim"] (fG clV 2 C):=by
 refine F.okD B0x (fun vs H Q E h=> ?_) (fun cdv A outer s H vs Q E hr h=> ?_)
 ·obtain⟨v,rfl,_⟩:=h;rfl
 ·obtain⟨v,rfl,kn,q1,q2⟩:=h
  refine⟨_,aV (bU (cY (cU (aX a1.ok hr rfl a1.nm a1.kp a1.bd .nil bA (aG (pv 0) aF)))) (aV (iY (E:=E) rfl rfl rfl rfl rfl rfl mC eC)) bT),?_⟩
  refine⟨_,rfl,v,rfl,kn,_,rfl,?_⟩
  exact dQ (fun z=>q1 (by simpa using z) H (Same.refl _)) fun z=>q2 (by simpa using z) H (Same.refl _)
theorem A29:bH ["custom","claims"] ["custom","claims"] (aQ qF):=by ac_rfl
theorem A65 {f g1 g2 g3:Addr}{c:Nat->Addr}{fd d1 d2 d3:FuncData}(F:Fun K "check_claims_under" "check_claims_under" qF f fd)(a1:AtD P w K mg base 4 "check_custom" g1 d1 ["custom"] (fG cuV 2 (c 3)))(a2:AtD P w K mg base 5 "check_claims" g2 d2 ["claims"] (fG bV 3 (c 5)))(a3:At P w K mg base 1 "stand_under" g3 d3 ["custom","claims"] tF)
  (mC:mg "NoClaims" =some (.ref (c 5)))(eC:ExcC K (c 5)):aR P w K mg base (CXD P w) 6 f fd ["custom","claims"] (vZ c):=by
 refine F.okD A29 (fun vs H Q E h=> ?_) (fun cdv A outer s H vs Q E hr h=> ?_)
 ·obtain⟨u,v,rfl,_⟩:=h;rfl
 ·obtain⟨u,v,rfl,ku,kv,q1,q2⟩:=h
  refine⟨_,aW (fN (aX a1.ok (hr.mono (by decide)) rfl a1.nm a1.kp a1.bd .nil dY (aG (pv 0) aF)))<|aW (fN (aX a2.ok hr rfl a2.nm a2.kp a2.bd .nil dY (aG (pv 1) aF)))<|
   aV (bU (cY (cU (aX a3.ok (hr.mono (by decide)) rfl a3.nm a3.kp a3.bd .nil bA (aG (pv 0) (aG (pv 1) aF))))) (aV (iY (E:=E) rfl rfl rfl rfl rfl rfl mC eC)) bT),?_⟩
  refine⟨_,rfl,u,rfl,ku,fun z H1 s1=>q1 3 (by unfold eO;rw [if_neg (by rw [z];decide)]) H1 s1,fun zu H1 s1=> ?_⟩
  have e2:=jT s1 kv
  refine⟨_,rfl,v,rfl,kv.ext s1.ext,fun z H2 s2=>q1 5 (by unfold eO;rw [if_pos zu,if_neg (by rw [←e2,z];decide)]) H2 (s1.trans s2),fun zv H2 s2=> ?_⟩
  rw [e2]at zv
  obtain⟨a0,xs,rfl,hc,_⟩:=A3n zu
  obtain⟨a,bs,cl,rfl,ha,hC,h12⟩:=A3r zv
  have sA:=s1.trans s2
  have eu:unV H (.ref a0) (.ref a)=cl.all fun x=>decide (x.2.1<(xs.length:Int)):=by
   rw [sM ha hC];unfold iZ;rw [jB hc];rfl
  refine⟨_,rfl,_,rfl,a0,a,xs,bs,cl,rfl,sA _ _ hc,sA _ _ ha,hC.ext sA.ext,h12,fun H3 s3=> ⟨_,rfl,?_⟩⟩
  rw [←eu]
  refine dQ (fun z=>q1 5 ?_ H3 (sA.trans s3)) fun z=>q2 ?_ H3 (sA.trans s3)
  ·unfold eO;rw [if_pos zu,if_pos zv,if_neg (by simpa using z)]
  ·unfold eO;rw [if_pos zu,if_pos zv,if_pos (by simpa using z)]
theorem A4f:bH ["claims","thing"] ["claims","thing"] (aQ mU):=by ac_rfl
theorem uM:(["holder","sort","many","thing"]:List Str).Nodup:=by decide +kernel
theorem A4p {f g1:Addr}{fd d1:FuncData}(F:Fun K "is_holder" "is_holder" mU f fd)(T:Txt mg)(a1:At P w K mg base 1 "is_number" g1 d1 ["thing"] oU):aR P w K mg base CX0 2 f fd ["claims","thing"] pN:=by
 refine F.ok A4f (fun vs H Q E h=> ?_) (fun cdv A outer s H vs Q E hr h=> ?_)
 ·obtain⟨a,cl,i,rfl,_⟩:=h;rfl
 ·obtain⟨a,cl,u,rfl,⟨bs,ha,hC⟩,h12,ku,q⟩:=h
  have hl:bs.length=cl.length:=Paired.length hC
  refine⟨_,aV (aZ (kA (aX a1.ok hr rfl a1.nm a1.kp a1.bd .nil bA (bD (pv 1) aF)) (lF (bB (A1u rfl) rfl T.any boot_any (fW (dL (aQ mU).names ["claims","thing"] ["holder","sort","many"] [("thing",1)] rfl (eV (pv 0)) rfl rfl rfl (by decide +kernel)
   (fun Z=>gX rfl (cK (bL (i:=0) uM rfl (Or.inl rfl)) (cK (bL (i:=1) uM rfl (Or.inl rfl)) (cK (bL (i:=2) uM rfl (Or.inl rfl)) gJ)))) (fun Z=>fJ)
   (fun Z=>jJ dG (pv 0) (pv 3) (nomark _))) aF))))),?_⟩
  refine⟨_,rfl,_,rfl,ku,_,rfl,dQ (fun e=> ?_) fun e=> ?_⟩
  ·obtain⟨i,rfl⟩:∃i,u= .int i:=by cases u<;>first|exact⟨_,rfl⟩|cases e
   refine⟨_,rfl,a,rfl,⟨_,SqT.of ha⟩,fun Z l hl'=> ?_⟩
   refine qC (rest:=[some (.int i)]) gZ (fun H' hs=>SqT.of (hs _ _ ha)) hC hl' (by omega) (fun c=> .bl (decide (c.1=i))) (fun x H' Q' hm hs hq=> ?_) fun σ H1 hs1 hl1=> ?_
   ·refine⟨_,rfl,_,rfl,rfl,?_⟩
    have:decide (V.int x.1=V.int i)=decide (x.1=i):=decide_eq_decide.mpr ⟨fun z=>V.int.inj z,fun z=>by rw [z]⟩
    rw [this]
    exact hq _ (Same.refl _)
   ·refine⟨l,cl.map fun c=>decide (c.1=i),rfl,SqL.of (by rw [hl1];simp only [List.map_map];rfl),?_⟩
    have:(cl.map fun c=>decide (c.1=i)).any id=dS cl (.int i):=by unfold dS hX;rw [List.any_map];rfl
    rw [this]
    exact q _ hs1
  ·have:dS cl u=false:=by cases u<;>first|rfl|cases e
   rw [←this];exact q _ (Same.refl _)
theorem A7m:bH ["claims","holder"] ["claims","holder"] (aQ qX):=by ac_rfl
theorem A3d {f g1 cH:Addr}{fd d1:FuncData}(F:Fun K "check_holder" "check_holder" qX f fd)(a1:At P w K mg base 2 "is_holder" g1 d1 ["claims","thing"] pN)(mH:mg "NoHolder" =some (.ref cH))(eH:ExcC K cH):aR P w K mg base (CXD P w) 3 f fd ["claims","holder"] (qS cH):=by
 refine F.okD A7m (fun vs H Q E h=> ?_) (fun cdv A outer s H vs Q E hr h=> ?_)
 ·obtain⟨a,cl,i,rfl,_⟩:=h;rfl
 ·obtain⟨a,cl,u,rfl,hA,h12,ku,q1,q2⟩:=h
  refine⟨_,aV (bU (cY (cU (aX a1.ok hr rfl a1.nm a1.kp a1.bd .nil bA (aG (pv 0) (aG (pv 1) aF))))) (aV (iY (E:=E) rfl rfl rfl rfl rfl rfl mH eH)) bT),?_⟩
  refine⟨_,rfl,_,rfl,a,cl,u,rfl,hA,h12,ku,fun H' hs=> ⟨_,rfl,?_⟩⟩
  exact dQ (fun z=>q1 (by simpa using z) H' hs) fun z=>q2 (by simpa using z) H' hs
theorem A68:bH ["claims","one","other"] ["claims","one","other"] (aQ pB):=by ac_rfl
theorem jU {cl:List C3}{u:V}(h:dS cl u=true):∃i,u= .int i/\hX cl i=true:=by cases u<;>first|exact⟨_,rfl,h⟩|cases h
theorem A6f {f g2 cH:Addr}{fd d2:FuncData}(F:Fun K "check_two_holders" "check_two_holders" pB f fd)(a2:AtD P w K mg base 3 "check_holder" g2 d2 ["claims","holder"] (qS cH))(mH:mg "NoHolder" =some (.ref cH))(eH:ExcC K cH):aR P w K mg base (CXD P w) 4 f fd ["claims","one","other"] (uK cH):=by
 refine F.okD A68 (fun vs H Q E h=> ?_) (fun cdv A outer s H vs Q E hr h=> ?_)
 ·obtain⟨a,cl,i,j,rfl,_⟩:=h;rfl
 ·obtain⟨a,cl,u,v,rfl,hA,h12,ku,kv,q1,q2⟩:=h
  refine⟨_,aW (fN (aX a2.ok hr rfl a2.nm a2.kp a2.bd .nil dY (aG (pv 0) (aG (pv 1) aF))))<|
   aW (fN (aX a2.ok hr rfl a2.nm a2.kp a2.bd .nil dY (aG (pv 0) (aG (pv 2) aF))))<|
   aV (bU (bP dG (pv 1) (pv 2) (nomark _)) (aV (iY (E:=E) rfl rfl rfl rfl rfl rfl mH eH)) bT),?_⟩
  refine⟨_,rfl,_,rfl,a,cl,u,rfl,hA,h12,ku,fun hi H2 s2=>q1 (by rw [hi];rfl) _ s2,fun hi H2 s2=> ?_⟩
  refine⟨_,rfl,_,rfl,a,cl,v,rfl,hA.ext s2.ext,h12,kv.ext s2.ext,fun hj H3 s3=>q1 (by rw [hi,hj];rfl) _ (s2.trans s3),fun hj H3 s3=> ?_⟩
  obtain⟨i,rfl,_⟩:=jU hi
  obtain⟨j,rfl,_⟩:=jU hj
  exact⟨_,rfl,_,rfl,rfl,_,rfl,cW (fun z=>q1 (by rw [hi,hj];simp [dif,V.int.inj z]) _ (s2.trans s3)) fun z=>q2 (by rw [hi,hj];simp only [Bool.true_and,dif,decide_eq_true_eq];exact fun e=>z (by rw [e])) H3 (s2.trans s3)⟩
end
end M04
namespace L2
open PySem PySem.Spec PyProof.Rows Srt
theorem A9u {prog:Program}{w:World}{A:Around}{E:Value->Shared->Prop}{s:Shared}{l:Addr}{vs:List Value}{Q:List Value->Shared->Prop}(hl:IsTup s.heap l vs.toArray)(hz:vs.length<=sizeLine)
  (h:Q vs {s with heap:=(s.heap.push (seqObj "list" #[] 0)).update s.heap.objs.size (Obj.mapSeq (· ++vs.toArray))}):wpAny (model prog w) A (collect (.ref l)) Q E s:=by
 obtain⟨o,ho,hc,n,hd⟩:=id hl
 unfold collect
 refine wpAny_bind (wpAny_runValue (codeAny_builtin entry_proto_collect' ?_))
 show wpAny _ _ (newList []>>=fun v=>again (.builtin "list.__iadd__" ⟨[v,.ref l],[]⟩)) _ _ s
 refine wpAny_bind (wpAny_newList (wpAny_pure ⟨Code.quiet_builtin _ (by decide +kernel),codeAny_builtin entry_list_iadd' ?_⟩))
 rw [Around.under_plainId (by decide +kernel)]
 show wpAny _ _ (Builtin.List.listExtendWith (.ref s.heap.objs.size) (.ref l) (.ref s.heap.objs.size)) _ _ _
 refine wpAny_extend_seq (R:=fun r s'=>match r with
  | .ok (.ret v)=>wpAny (model prog w) A (match v with
   | .ref a=>(do
    let o←load a
    match o.data with
    | .seq xs _=>pure xs.toList
    |_=>unsupported "internal:collect")
   |_=>unsupported "internal:collect") Q E s'
  | .ok _=>False
  | .error e=>E e s') (s:={s with heap:=s.heap.push (seqObj "list" #[] 0)}) s.heap.objs.size l _ 0 (.inr rfl) (Heap.get?_push_size _ rfl) (Heap.get?_push_of_some _ ho) hc hd ?_ (by rw [List.size_toArray];exact hz)
 refine wpAny_bind (wpAny_load (get?_update_seq (Heap.get?_push_size _ rfl) _) ?_)
 have e:((#[]:Array Value)++vs.toArray).toList=vs:=by simp
 refine wpAny_pure (a:=((#[]:Array Value)++vs.toArray).toList) ?_
 rw [e];exact h
section
variable {X:Cx}
theorem wZ:dX X (.builtin "sorted") (fun xs H Q=> ∃(p:Addr)(zs:List (Addr×List Int)),xs=[.ref p]/\SqT X.K H p (zs.map fun z=>V.ref z.1)/\(∀z∈zs,H z.1=some (.tup (z.2.map V.int))/\z.2≠[])/\zs.length<64/\
  ∀l zs',H l=none->kF zs zs'->Q (.ref l) (upd H l (.lst (zs'.map fun z=>V.ref z.1)))):=by
 intro pins s σ H xs us Q I r h
 obtain⟨p,zs,rfl,hq,hz,h64,q⟩:=h
 obtain⟨u,rfl,rx⟩:=eT r
 cases rx
 obtain⟨its,rv,pl,_⟩:=I.tuple hq
 have hits:its=zs.map fun z=>Value.ref z.1:=by
  have:=pG (as:=zs.map (·.1)) (us:=its) (by rw [List.map_map];exact rv)
  rw [this,List.map_map];rfl
 subst hits
 refine tM I hz h64 (fun Q' k=> ?_) q
 refine A9u pl (by rw [List.length_map,sizeLine_eq];omega) ?_
 refine k _ s.toks (fun b o e=> ?_) (by rw [Heap.size_update,size_push'];exact Nat.le_succ _)
 rw [Heap.get?_update_ne _ _ _ _ (Nat.ne_of_lt (Heap.lt_size e))]
 exact Heap.get?_push_of_some _ e
end
end L2
namespace L2
open PySem PySem.Spec PyProof.Rows
theorem B2d {K:PySem.W.Frag}{J:It}{S:Hp->Prop}{l:Addr}{bs:List Addr}{cl:List C3}{tt:TT}{te:TE}{H0:Hp}{rest:St}{Q:St->Hp->Prop}(W:Wk J (bs.map V.ref) S)(hS:∀H',Same H0 H'->S H')(hC:ClP H0 bs cl)(hl:H0 l=none)(hz:bs.length<=1000)(p:C3->Bool)(f:C3->V)
  (tst:∀c H' Q',c∈cl->Same H0 H'->(∀H2,Same H' H2->Q' (p c) H2)->tt (some (.int c.1)::some (.int c.2.1)::some (.int c.2.2)::rest) H' Q')
  (turn:∀c H' Q',c∈cl->p c=true->Same H0 H'->(∀H2,Same H' H2->Q' (f c) H2)->te (some (.int c.1)::some (.int c.2.1)::some (.int c.2.2)::rest) H' Q')(hQ:∀σ H',Same H0 H'->H' l=some (.lst ((cl.filter p).map f))->Q σ H'):
  eN J (rV K 3 (iJ (dJ 0) (iJ (dJ 1) (iJ (dJ 2) pA)))) (eG tt (eL l te)) (eC Q) (none::none::none::rest) (upd H0 l (.lst [])):=by
 have hlen:bs.length=cl.length:=Paired.length hC
 refine W (fun i σ H'=>(∃x y z,σ=x::y::z::rest)/\Same H0 H'/\H' l=some (.lst (((cl.take i).filter p).map f))) ⟨⟨_,_,_,rfl⟩,aJ hl,by rw [aI];rfl⟩ (fun i σ H' _ h=>hS _ h.2.1) ?_ ?_
 ·rintro i x σ H' hx ⟨⟨x0,y0,z0,rfl⟩,hs,hl'⟩
  rw [List.getElem?_map]at hx
  cases hb:bs[i]? with
  |none=>rw [hb]at hx;cases hx
  |some b=>
   rw [hb]at hx;cases hx
   obtain⟨c,hc,he⟩:=hC.get hb
   have hi:i<bs.length:=(List.getElem?_eq_some_iff.mp hb).1
   have et:(cl.take (i+1)).filter p=(cl.take i).filter p++(if p c=true then [c]else []):=by
    rw [List.take_succ,hc,List.filter_append]
    congr 1
    by_cases z:p c=true
    ·simp [z]
    ·simp [z]
   refine⟨b,_,rfl,SqT.of (hs _ _ he),rfl,_,_,rfl,_,_,rfl,_,_,rfl,rfl,?_⟩
   refine tst c H' _ (List.mem_of_getElem? hc) hs fun H2 h2=> ?_
   refine dQ (fun hz'=> ?_) fun hz'=> ?_
   ·refine turn c H2 _ (List.mem_of_getElem? hc) hz' (hs.trans h2) fun H3 h3=> ?_
    have hfl:=List.length_filter_le p (cl.take i)
    rw [List.length_take]at hfl
    refine⟨_,h3 _ _ (h2 _ _ hl'),eW (by rw [List.length_map];omega),⟨_,_,_,rfl⟩,fun b u e=> ?_,?_⟩
    ·rw [aS (cB e hl)];exact h3 _ _ (h2 _ _ (hs _ _ e))
    ·rw [aI,et,if_pos hz',List.map_append];rfl
   ·refine⟨⟨_,_,_,rfl⟩,hs.trans h2,?_⟩
    rw [et,if_neg (by rw [hz'];decide),List.append_nil];exact h2 _ _ hl'
 ·rintro σ H' ⟨_,hs,hl'⟩
  rw [List.length_map,hlen,List.take_of_length_le (Nat.le_refl _)]at hl'
  exact hQ σ H' hs hl'
theorem A10 {J:It}{S:Hp->Prop}{l:Addr}{bs:List Addr}{cl:List C3}{te:TE}{H0:Hp}{rest:St}{Q:St->Hp->Prop}(W:Wk J (bs.map V.ref) S)(hS:∀H',Same H0 H'->S H')(hC:ClP H0 bs cl)(hl:H0 l=none)(hz:bs.length<=1000)(f:C3->V)
  (turn:∀b c H' Q',c∈cl->H' b=some (.tup [.int c.1,.int c.2.1,.int c.2.2])->Same H0 H'->(∀H2,Same H' H2->Q' (f c) H2)->te (some (.ref b)::rest) H' Q')(hQ:∀σ H',Same H0 H'->H' l=some (.lst (cl.map f))->Q σ H'):
  eN J (dJ 0) (eG jI (eL l te)) (eC Q) (none::rest) (upd H0 l (.lst [])):=by
 have hlen:bs.length=cl.length:=Paired.length hC
 refine W (fun i σ H'=>(∃x,σ=x::rest)/\Same H0 H'/\H' l=some (.lst ((cl.take i).map f))) ⟨⟨_,rfl⟩,aJ hl,by rw [aI];rfl⟩ (fun i σ H' _ h=>hS _ h.2.1) ?_ ?_
 ·rintro i x σ H' hx ⟨⟨x0,rfl⟩,hs,hl'⟩
  rw [List.getElem?_map]at hx
  cases hb:bs[i]? with
  |none=>rw [hb]at hx;cases hx
  |some b=>
   rw [hb]at hx;cases hx
   obtain⟨c,hc,he⟩:=hC.get hb
   show eL l te (some (.ref b)::rest) H' _
   refine turn b c H' _ (List.mem_of_getElem? hc) (hs _ _ he) hs fun H2 h2=> ?_
   refine⟨_,h2 _ _ hl',eW (by rw [List.length_map,List.length_take];omega),⟨_,rfl⟩,fun b u e=> ?_,?_⟩
   ·rw [aS (cB e hl)];exact h2 _ _ (hs _ _ e)
   ·rw [aI,List.take_succ,hc,List.map_append];rfl
 ·rintro σ H' ⟨_,hs,hl'⟩
  rw [List.length_map,hlen,List.take_of_length_le (Nat.le_refl _)]at hl'
  exact hQ σ H' hs hl'
end L2
namespace M04
open PySem L2 PyProof.Rows
def A9k (s:Stmt):List Stmt:=match s with| .ClassDef _ _ _ b _ _ _ _ _ _ _=>b|_=> []
abbrev lO:Stmt:=(A9k (top 17)).getD 0 (.Pass ⟨0,0,0,0⟩)
def qB (c:C3):Prop:=(0<=c.1/\c.1<=3)/\(0<=c.2.1/\c.2.1<=5)/\1<=c.2.2/\c.2.2<=20
abbrev sR (c:C3):HO:=.tup [.int c.1,.int c.2.1,.int c.2.2]
theorem oK {H:Hp}:∀{bs:List Addr}{cl:List C3},ClP H bs cl->∃zs:List (Addr×List Int),zs.map (·.1)=bs/\zs.map (·.2)=cl.map row/\∀z∈zs,H z.1=some (.tup (z.2.map V.int))/\z.2≠[]
 | [],[],.nil=> ⟨[],rfl,rfl,fun z hz=>by cases hz⟩
 |b::bs,c::cl,.cons r t=>by
  obtain⟨zs,h1,h2,h3⟩:=oK t
  refine⟨(b,row c)::zs,by rw [List.map_cons,h1],by rw [List.map_cons,List.map_cons,h2],fun z hz=> ?_⟩
  rcases List.mem_cons.mp hz with rfl|hz
  ·exact⟨r,by unfold row;simp⟩
  ·exact h3 z hz
theorem xL {A:Around}{k:Nat}(hr:Room k A):A.units+1+1<cLine:=Nat.lt_of_le_of_lt (Nat.add_le_add_left (by decide:2<=64) _) hr.units
theorem A30:bootBuiltins "any" =some (.builtin "any"):=by decide +kernel
def eq3 (y c:C3):Bool:=[decide (y.1=c.1),decide (y.2.1=c.2.1),decide (y.2.2=c.2.2)].all id
theorem xN {H:Hp}{n:Nat}(y c:C3):E3 (EqD H n) [.int y.1,.int y.2.1,.int y.2.2] [.int c.1,.int c.2.1,.int c.2.2] [decide (y.1=c.1),decide (y.2.1=c.2.1),decide (y.2.2=c.2.2)]:=⟨EqD.int _ _ _,EqD.int _ _ _,EqD.int _ _ _,trivial⟩
theorem A6h {H:Hp}{b' b:Addr}{y c:C3}(h1:H b'=some (sR y))(h2:H b=some (sR c)):EqD H 1 (.ref b') (.ref b) (eq3 y c):=.inr ⟨b',b,_,_,_,rfl,rfl,.inl ⟨h1,h2⟩,xN y c,rfl⟩
theorem zW {H:Hp}{b:Addr}{c:C3}(hb:H b=some (sR c)):∀{bs:List Addr}{cl:List C3},ClP H bs cl->E3 (EqD H 1) (bs.map V.ref) ((bs.map V.ref).map fun _=>V.ref b) (cl.map fun y=>eq3 y c)
 | [],[],.nil=>trivial
 |_::_,_::_,.cons r t=> ⟨A6h r hb,zW hb t⟩
def isR (i j s:Int)(c:C3):Bool:=(decide (i=c.1)||decide (j=c.1))&&decide (c.2.1=s)
def rt (cl:List C3)(i j s:Int):Int:=((cl.filter (isR i j s)).map (·.2.2)).sum
def uA:Sp:=fun vs H Q _=> ∃a h s cl i j,vs=[.ref a,.ref h,.int s]/\ClT H a cl/\cl.length<=12/\(∀c∈cl,1<=c.2.2/\c.2.2<=20)/\H h=some (.tup [.int i,.int j])/\∀H',Same H H'->Q (.int (rt cl i j s)) H'
def rX (C:Addr):Sp:=fun vs H Q _=> ∃e t i j,vs=[.ref e,.int i,.int j]/\H e=some (exO e C t none)/\∀d,H d=none->d≠e->Q .non (upd (upd (upd H d (xdO d [("many",.int i)])) e (exO e C t (some d))) d (xdO d (cT "most" (.int j) [("many",.int i)])))
abbrev xF (m most:Int):List (Str×V):=cT "most" (.int most) [("many",.int m)]
def kin (cl:List C3)(c:C3):Bool:=cl.any fun x=>decide (bK x=bK c)
def cw (cs:List Int)(c:C3):Int:=cs.getD c.2.1.toNat 0*c.2.2
def iA (cs:List Int)(cl:List C3):Int:=(cl.map (cw cs)).sum
def ofH (cl:List C3)(i:Int):List C3:=cl.filter fun c=>decide (c.1=i)
def qY (cs:List Int)(cl:List C3)(i:Int):Int:=iA cs (ofH cl i)
def Fine (cs:List Int)(cl:List C3):Prop:=cl.length<=12/\∀c∈cl,0<=c.2.1/\c.2.1<cs.length/\1<=c.2.2/\c.2.2<=20
theorem vP {cs:List Int}{cl:List C3}(G:gQ cl)(U:mL cs cl):Fine cs cl:=⟨G.l12,fun c hc=> ⟨(G.num c hc).2.1.1,U c hc,(G.num c hc).2.2.1,(G.num c hc).2.2.2⟩⟩
theorem Fine.sub {cs:List Int}{cl:List C3}(h:Fine cs cl)(i:Int):Fine cs (ofH cl i):=⟨Nat.le_trans (List.length_filter_le _ _) h.1,fun c hc=>h.2 c (List.mem_filter.mp hc).1⟩
theorem tQ {cs:List Int}(Gc:fY cs){c:C3}(h:0<=c.2.1/\c.2.1<cs.length/\1<=c.2.2/\c.2.2<=20):1<=cs.getD c.2.1.toNat 0/\cs.getD c.2.1.toNat 0<=100/\1<=cw cs c/\cw cs c<=2000:=by
 have hlt:c.2.1.toNat<cs.length:=by omega
 have e:cs.getD c.2.1.toNat 0=cs[c.2.1.toNat]:=by simp [hlt]
 have hn:=Gc.num _ (List.getElem_mem hlt)
 unfold cw
 rw [e]
 refine⟨hn.1,hn.2,?_,?_⟩
 ·have:=Int.mul_le_mul hn.1 h.2.2.1 (by omega) (by omega)
  omega
 ·have:=Int.mul_le_mul hn.2 h.2.2.2 (by omega) (by omega)
  omega
theorem uR {cs:List Int}(Gc:fY cs):∀{cl:List C3},(∀c∈cl,0<=c.2.1/\c.2.1<cs.length/\1<=c.2.2/\c.2.2<=20)->(cl.length:Int)<=iA cs cl/\iA cs cl<=2000*cl.length
 | [],_=>by simp [iA]
 |c::cl,h=>by
  have ih:=uR Gc (cl:=cl) fun d hd=>h d (List.mem_cons_of_mem _ hd)
  have h0:=tQ Gc (h c List.mem_cons_self)
  have e:iA cs (c::cl)=cw cs c+iA cs cl:=by unfold iA;rw [List.map_cons,List.sum_cons]
  rw [e,List.length_cons]
  constructor<;>omega
theorem pR {cs:List Int}{s:Int}(h0:0<=s)(h1:s<cs.length):atI (cs.map V.int) s=some (.int (cs.getD s.toNat 0)):=by
 obtain⟨n,rfl⟩:=Int.eq_ofNat_of_zero_le h0
 have hn:n<cs.length:=by omega
 refine bF ?_
 rw [List.getElem?_map,List.getElem?_eq_getElem hn]
 simp [hn]
def rE:Sp:=fun vs H Q _=> ∃c a cs bs cl,vs=[.ref c,.ref a]/\hZ H c cs/\fY cs/\(H a=some (.tup (bs.map V.ref))\/H a=some (.lst (bs.map V.ref)))/\ClP H bs cl/\Fine cs cl/\∀H',Same H H'->Q (.int (iA cs cl)) H'
def B11 (t b:Int):Int:=t/((Nat.gcd t.toNat b.toNat:Nat):Int)
def B2f (t b:Int):Int:=b/((Nat.gcd t.toNat b.toNat:Nat):Int)
def vI:Sp:=fun vs H Q _=> ∃t b,vs=[.int t,.int b]/\(0<=t/\t<1000000)/\(1<=b/\b<1000000)/\∀p,H p=none->Q (.ref p) (upd H p (.tup [.int (B11 t b),.int (B2f t b)]))
theorem A3z (a b:Nat):Nat.gcd b (a%b)=Nat.gcd a b:=by
 rw [Nat.gcd_comm b,←Nat.gcd_rec,Nat.gcd_comm]
theorem B0b {cs:List Int}{cl:List C3}(Gc:fY cs)(G:gQ cl)(U:mL cs cl)(i:Int):(0<=qY cs cl i/\qY cs cl i<1000000)/\1<=iA cs cl/\iA cs cl<1000000:=by
 have hf:=vP G U
 have h1:=uR Gc hf.2
 have h2:=uR Gc (hf.sub i).2
 have:=G.l1
 have:=hf.1
 have:=(hf.sub i).1
 unfold qY
 omega
section
variable {P:Program}{w:World}{K:W.Frag}{mg:Str->Option Value}{base:Heap}
theorem nd4:(["holder","sort","many","custom"]:List Str).Nodup:=by decide +kernel
theorem A5i:bH ["claims","holders","sort"] ["claims","holders","sort"] (aQ oT):=by ac_rfl
theorem tK:(["holder","other_sort","many","holders","sort"]:List Str).Nodup:=by decide +kernel
theorem A3q {f:Addr}{fd:FuncData}(F:Fun K "rights_of" "rights_of" oT f fd)(T:Txt mg):aR P w K mg base CX0 1 f fd ["claims","holders","sort"] uA:=by
 refine F.ok A5i (fun vs H Q E h=> ?_) (fun cdv A outer s H vs Q E hr h=> ?_)
 ·obtain⟨a,h,s,cl,i,j,rfl,_⟩:=h;rfl
 ·obtain⟨a,h,sr,cl,i,j,rfl,⟨bs,ha,hC⟩,h12,hb,hh,q⟩:=h
  have hl:bs.length=cl.length:=Paired.length hC
  refine⟨_,aV (aZ (bB (wV rfl) rfl T.sum boot_sum (fW (dL (aQ oT).names ["claims","holders","sort"] ["holder","other_sort","many"] [("holders",1),("sort",2)] rfl (eV (pv 0)) rfl rfl rfl (by decide +kernel)
   (fun Z=>gX rfl (cK (bL (i:=0) tK rfl (Or.inl rfl)) (cK (bL (i:=1) tK rfl (Or.inl rfl)) (cK (bL (i:=2) tK rfl (Or.inl rfl)) gJ))))
   (fun Z=>iI (PW.pt (jA (bP (tL 0 (iL hr)) (pv 0) (pv 3) rfl) (kG (bP dG (pv 1) (pv 4) (nomark _))))))
   (fun Z=>pv 2)) aF))),?_⟩
  refine⟨_,rfl,a,rfl,⟨_,SqT.of ha⟩,fun Z l hl'=> ?_⟩
  refine B2d (rest:=[some (.ref h),some (.int sr)]) gZ (fun H' hs=>SqT.of (hs _ _ ha)) hC hl' (by omega) (isR i j sr) (fun c=> .int c.2.2) (fun c H' Q' hm hs hq=> ?_) (fun c H' Q' hm _ hs hq=> ⟨_,rfl,hq _ (Same.refl _)⟩) fun σ H1 hs1 hl1=> ?_
  ·refine⟨_,rfl,_,rfl,h,[.int i,.int j],[decide (i=c.1),decide (j=c.1)],rfl,.inl (hs _ _ hh),⟨EqD.int _ _ _,EqD.int _ _ _,trivial⟩,_,rfl,?_⟩
   have e1:[decide (i=c.1),decide (j=c.1)].any id=(decide (i=c.1)||decide (j=c.1)):=by simp
   have e2:decide (V.int c.2.1=V.int sr)=decide (c.2.1=sr):=decide_eq_decide.mpr ⟨fun z=>V.int.inj z,fun z=>by rw [z]⟩
   show if ([decide (i=c.1),decide (j=c.1)].any id)=true then _ else _
   rw [e1]
   refine dQ (fun hz=> ?_) fun hz=> ?_
   ·refine⟨_,rfl,_,rfl,rfl,_,rfl,?_⟩
    rw [e2]
    have:=hq H' (Same.refl _)
    unfold isR at this
    rw [hz,Bool.true_and]at this
    exact this
   ·have:=hq H' (Same.refl _)
    unfold isR at this
    rw [hz,Bool.false_and]at this
    exact this
  ·have hfl:=List.length_filter_le (isR i j sr) cl
   refine⟨l,(cl.filter (isR i j sr)).map (fun c:C3=>c.2.2),rfl,SqL.of (by rw [hl1,List.map_map];rfl),by rw [List.length_map];omega,fun n hn=> ?_,q H1 hs1⟩
   obtain⟨c,hc,rfl⟩:=List.mem_map.mp hn
   have:=hb c (List.mem_filter.mp hc).1
   omega
theorem A7p:bH ["self","many","most"] ["self","many","most"] (aQ lO):=by ac_rfl
theorem A6l {f C:Addr}{fd:FuncData}(F:Fun K "__init__" "TooMany.__init__" lO f fd)(c:gS K C)(n1:NoAttr K C "many")(n2:NoAttr K C "most"):aR P w K mg base CX0 1 f fd ["self","many","most"] (rX C):=by
 refine F.ok A7p (fun vs H Q E h=> ?_) (fun cdv A outer s H vs Q E hr h=> ?_)
 ·obtain⟨e,t,i,j,rfl,_⟩:=h;rfl
 ·obtain⟨e,t,i,j,rfl,he,q⟩:=h
  refine⟨_,aW (zG (pv 0) (pv 1) rfl) (aV (zG (pv 0) (pv 2) rfl)),?_⟩
  refine⟨_,rfl,_,rfl,e,C,rfl,c,n1,.inl ⟨t,he,fun d hd hne=> ?_⟩⟩
  refine⟨_,rfl,_,rfl,e,C,rfl,c,n2,.inr ⟨t,d,[("many",.int i)],aI,by rw [aS hne,aI],by show 1<1000;decide,?_⟩⟩
  exact q d hd hne
theorem A9p:bH ["custom","claims"] ["custom","claims"] (aQ nM):=by ac_rfl
theorem A7j {f:Addr}{fd:FuncData}(F:Fun K "count_together" "count_together" nM f fd)(T:Txt mg):aR P w K mg base CX0 1 f fd ["custom","claims"] rE:=by
 refine F.ok A9p (fun vs H Q E h=> ?_) (fun cdv A outer s H vs Q E hr h=> ?_)
 ·obtain⟨c,a,cs,bs,cl,rfl,_⟩:=h;rfl
 ·obtain⟨c,a,cs,bs,cl,rfl,hc,Gc,ha,hC,hf,q⟩:=h
  have hl:bs.length=cl.length:=Paired.length hC
  have h12:=hf.1
  refine⟨_,aV (aZ (bB (wV rfl) rfl T.sum boot_sum (fW (dL (aQ nM).names ["custom","claims"] ["holder","sort","many"] [("custom",0)] rfl (PI.or (eV (pv 1)) (lA (pv 1))) rfl rfl rfl (by decide +kernel)
   (fun Z=>gX rfl (cK (bL (i:=0) nd4 rfl (Or.inl rfl)) (cK (bL (i:=1) nd4 rfl (Or.inl rfl)) (cK (bL (i:=2) nd4 rfl (Or.inl rfl)) gJ)))) (fun Z=>fJ)
   (fun Z=>bJ rK (bR fU (pv 3) (pv 1) (fun _ _=>rfl)) (pv 2))) aF))),?_⟩
  have turn:∀(x:C3)(H':Hp)(Q':VK),x∈cl->Same H H'->(∀H2,Same H' H2->Q' (.int (cw cs x)) H2)->tOp (rI CMul fun i j=> .int (i*j)) (tOp (yH K) (fD 3) (fD 1)) (fD 2) (some (.int x.1)::some (.int x.2.1)::some (.int x.2.2)::[some (.ref c)]) H' Q':=fun x H' Q' hm hs hq=>by
   have hx:=hf.2 x hm
   have hlt:x.2.1.toNat<cs.length:=by omega
   have hsm:=tQ Gc hx
   exact⟨_,rfl,_,rfl,c,_,x.2.1,.int (cs.getD x.2.1.toNat 0),rfl,rfl,SqT.of (hs _ _ hc),pR hx.1 hx.2.1,_,rfl,_,_,rfl,rfl,.inl ⟨by omega,by omega⟩,hq _ (Same.refl _)⟩
  have fin:∀(l:Addr)(σ:L2.St)(H1:Hp),Same H H1->H1 l=some (.lst (cl.map fun x=>V.int (cw cs x)))->∃(p:Addr)(ns:List Int),[V.ref l]=[.ref p]/\SqL K H1 p (ns.map V.int)/\ns.length<=1000/\(∀n∈ns,-10000<=n/\n<=10000)/\Q (.int ns.sum) H1:=fun l σ H1 hs1 hl1=>by
   refine⟨l,cl.map (cw cs),rfl,SqL.of (by rw [hl1];simp only [List.map_map];rfl),by rw [List.length_map];omega,fun n hn=> ?_,q H1 hs1⟩
   obtain⟨x,hx,rfl⟩:=List.mem_map.mp hn
   have:=tQ Gc (hf.2 x hx)
   omega
  rcases ha with ha|ha
  ·refine .inl ⟨_,rfl,a,rfl,⟨_,SqT.of ha⟩,fun Z l hl'=> ?_⟩
   exact qC (rest:=[some (.ref c)]) gZ (fun H' hs=>SqT.of (hs _ _ ha)) hC hl' (by omega) (fun x=> .int (cw cs x)) turn fun σ H1 hs1 hl1=>fin l σ H1 hs1 hl1
  ·refine .inr ⟨_,rfl,a,rfl,⟨_,SqL.of ha⟩,fun Z l hl'=> ?_⟩
   exact qC (rest:=[some (.ref c)]) oE (fun H' hs=>SqL.of (hs _ _ ha)) hC hl' (by omega) (fun x=> .int (cw cs x)) turn fun σ H1 hs1 hl1=>fin l σ H1 hs1 hl1
theorem scFraction:bH ["top","bottom","divisor","rest"] ["top","bottom"] (aQ pV):=by ac_rfl
theorem B2b {f:Addr}{fd:FuncData}(F:Fun K "fraction" "fraction" pV f fd):aR P w K mg base CX0 1 f fd ["top","bottom"] vI:=by
 refine F.ok scFraction (fun vs H Q E h=> ?_) (fun cdv A outer s H vs Q E hr h=> ?_)
 ·obtain⟨t,b,rfl,_⟩:=h;rfl
 ·obtain⟨t,b,rfl,ht,hb,q⟩:=h
  have nd:=scFraction.nd
  obtain⟨tn,rfl⟩:=Int.eq_ofNat_of_zero_le ht.1
  obtain⟨bn,rfl⟩:=Int.eq_ofNat_of_zero_le (show 0<=b by omega)
  refine⟨_,aW (oF (i:=2) (j:=3) rfl nd rfl rfl (by decide) rfl rfl (aG (pv 0) (aG (pv 1) aF)) rfl)<|
   aW (A9z PassesOwn.never (bP tY (pv 3) aL (nomark _)) (aV (oF (i:=2) (j:=3) rfl nd rfl rfl (by decide) rfl rfl (aG (pv 3) (fV (bJ jR (pv 2) (pv 3)) aF)) rfl)))<|
   aV (aZ (dF (fV (bJ pH (pv 0) (pv 2)) (fV (bJ pH (pv 1) (pv 2)) aF)))),?_⟩
  refine⟨_,rfl,_,rfl,_,_,rfl,?_⟩
  refine B1d (fun σ H'=>H'=H/\∃x y:Nat,σ=[some (.int (tn:Int)),some (.int (bn:Int)),some (.int (x:Int)),some (.int (y:Int))]/\Nat.gcd x y=Nat.gcd tn bn/\x<1000000/\y<1000000) (fun σ _=>match σ with| [_,_,_,some (.int y)]=>y.toNat|_=>0)
   ⟨rfl,tn,bn,rfl,rfl,by omega,by omega⟩ ?_ (fun σ H' R R' hi hc=> ?_)
  ·rintro σ H' ⟨rfl,x,y,rfl,hg,hx,hy⟩
   refine⟨_,rfl,_,_,rfl,rfl,_,rfl,cW (fun hp=> ?_) fun hp=> ?_⟩
   ·have hy0:0<y:=by omega
    refine⟨_,rfl,_,rfl,_,rfl,_,_,rfl,rfl,(by omega),_,_,rfl,?_⟩
    have hm:x%y<y:=Nat.mod_lt _ hy0
    refine⟨⟨rfl,y,x%y,?_,by rw [A3z];exact hg,hy,by omega⟩,?_⟩
    ·show [some (V.int (tn:Int)),some (.int (bn:Int)),some (.int (y:Int)),some (.int ((x:Int)%(y:Int)))]=_
     rw [Int.natCast_emod]
    ·show((x:Int)%(y:Int)).toNat<((y:Int)).toNat
     have e:(x:Int)%(y:Int)=((x%y:Nat):Int):=(Int.natCast_emod x y).symm
     rw [e,Int.toNat_natCast,Int.toNat_natCast]
     exact hm
   ·have hy0:y=0:=by omega
    subst hy0
    rw [Nat.gcd_zero_right]at hg
    subst hg
    have hgp:0<Nat.gcd tn bn:=Nat.gcd_pos_of_pos_right _ (by omega)
    refine⟨_,rfl,_,rfl,_,_,rfl,rfl,⟨by omega,by omega⟩,_,rfl,_,rfl,_,_,rfl,rfl,⟨by omega,by omega⟩,by show 2<=sizeLine;decide,fun p hp'=> ?_⟩
    exact q p hp'
  ·obtain⟨v,e1,h1⟩:=hc
   obtain⟨i,j,e2,e3,c,e4,h2⟩:=h1
   exact⟨v,e1,i,j,e2,e3,c,e4,hi _ _ h2⟩
end
def Out (c:Nat->Addr)(due:Option Nat)(may:List Nat)(many:Bool)(H:Hp)(Q:VK)(E:XK):Prop:=
 (∀j,due=some j->∀H',Same H H'->E (.ref (c j)) none H')/\
 (due=none->(∀v H',Same H H'->Q v H')/\(∀j∈may,∀H',Same H H'->E (.ref (c j)) none H')/\(many=true->∀d m n H',Same H H'->H' d=some (xdO d (xF m n))->E (.ref (c 15)) (some d) H'))
def sS (c:Nat->Addr):Sp:=fun vs H Q E=> ∃v,vs=[v]/\Kn H 3 v/\Out c (if bV H v=true then none else some 5) [] false H Q E
def pI (c:Nat->Addr):Sp:=fun vs H Q E=> ∃u v x,vs=[u,v,x]/\Kn H 2 u/\Kn H 3 v/\Kn H 1 x/\(∀j,cS H u v x=some j->∀H',Same H H'->E (.ref (c j)) none H')/\
 (cS H u v x=none->∀(a b:Addr) cs cl i,u= .ref b->v= .ref a->x= .int i->hZ H b cs->fY cs->ClT H a cl->gQ cl->mL cs cl->∀H',Same H H'->Q (.int (qY cs cl i)) H')
def tW (c:Nat->Addr):Sp:=fun vs H Q E=> ∃u v x,vs=[u,v,x]/\Kn H 2 u/\Kn H 3 v/\Kn H 1 x/\Out c (cS H u v x) [] false H Q E
def uN (c:Nat->Addr):Sp:=fun vs H Q E=> ∃v u,vs=[v,u]/\Kn H 3 v/\Kn H 2 u/\Out c (cV H v u) [7] true H Q E
def uU (c:Nat->Addr):Sp:=fun vs H Q E=> ∃v u,vs=[v,u]/\Kn H 3 v/\Kn H 2 u/\Out c (cV H v u) [8,5] false H Q E
def vA (c:Nat->Addr):Sp:=fun vs H Q E=> ∃v x y,vs=[v,x,y]/\Kn H 3 v/\Kn H 1 x/\Kn H 1 y/\Out c (dI H v x y) [] true H Q E
theorem A3e {H:Hp}{u v:V}(h:eO H u v=none):∃(b a:Addr)(cs:List Int)(cl:List C3),u= .ref b/\v= .ref a/\hZ H b cs/\fY cs/\ClT H a cl/\gQ cl/\mL cs cl:=by
 unfold eO at h
 by_cases h1:cuV H u=true
 ·rw [if_pos h1]at h
  by_cases h2:bV H v=true
  ·rw [if_pos h2]at h
   by_cases h3:unV H u v=true
   ·obtain⟨b,cs,rfl,hb,Gc⟩:=yO h1
    obtain⟨a,cl,rfl,hA,G⟩:=jH h2
    refine⟨b,a,cs,cl,rfl,rfl,hb,Gc,hA,G,fun x hx=> ?_⟩
    obtain⟨bs,ha,hC⟩:=hA
    rw [sM ha hC]at h3
    have:=List.all_eq_true.mp h3 x hx
    unfold iZ at this
    rw [jB hb]at this
    simpa using this
   ·rw [if_neg h3]at h;cases h
  ·rw [if_neg h2]at h;cases h
 ·rw [if_neg h1]at h;cases h
section
variable {P:Program}{w:World}{K:W.Frag}{mg:Str->Option Value}{base:Heap}
theorem A26:bH ["claims"] ["claims"] (aQ nK):=by ac_rfl
theorem A95:(["holder","claims"]:List Str).Nodup:=by decide +kernel
theorem B0w {f g1 g2:Addr}{c:Nat->Addr}{fd d1 d2:FuncData}(F:Fun K "holders_of" "holders_of" nK f fd)(T:Txt mg)(a1:AtD P w K mg base 5 "check_claims" g1 d1 ["claims"] (fG bV 3 (c 5)))(a2:At P w K mg base 2 "is_holder" g2 d2 ["claims","thing"] pN):aR P w K mg base (CXD P w) 6 f fd ["claims"] (sS c):=by
 obtain⟨t1,mH⟩:=T.holders
 refine F.okD A26 (fun vs H Q E h=> ?_) (fun cdv A outer s H vs Q E hr h=> ?_)
 ·obtain⟨v,rfl,_⟩:=h;rfl
 ·obtain⟨v,rfl,kv,q1,q2⟩:=h
  refine⟨_,aW (fN (aX a1.ok hr rfl a1.nm a1.kp a1.bd .nil dY (aG (pv 0) aF)))<|
   aV (aZ (dL (aQ nK).names ["claims"] ["holder"] [("claims",0)] rfl (qH rfl T.range (bD (bZ (v:=.int 4) rfl mH ⟨_,rfl⟩) aF)) rfl rfl rfl (by decide +kernel)
    (fun Z=>bL (i:=0) A95 rfl (Or.inl rfl)) (fun Z=>iI (cU (aX a2.ok (hr.mono (by decide)) rfl a2.nm a2.kp a2.bd .nil bA (aG (pv 1) (aG (pv 0) aF))))) (fun Z=>pv 0))),?_⟩
  refine⟨_,rfl,v,rfl,kv,fun z H1 s1=>q1 5 (by rw [if_neg (by rw [z];decide)]) H1 s1,fun z H1 s1=> ?_⟩
  obtain⟨q,_⟩:=q2 (by rw [if_pos z])
  obtain⟨a,cl,rfl,hA,G⟩:=jH z
  refine⟨4,rfl,by decide,by decide,fun Z l hl=> ?_⟩
  refine pJ (lo:=0) (n:=4) (fun i σ H'=>(∃o,σ=[o,some (.ref a)])/\Same H1 H'/\∃xs,xs.length<=i/\H' l=some (.lst xs)) ⟨⟨_,rfl⟩,aJ hl,[],Nat.le_refl _,by rw [aI]⟩ ?_ ?_
  ·rintro i σ H' hi ⟨⟨o,rfl⟩,hs,xs,hx,hl'⟩
   show eG _ _ _ [some (.int (0+(i:Int))),some (.ref a)] H'
   refine⟨_,rfl,_,rfl,a,cl,_,rfl,hA.ext (s1.trans hs).ext,G.l12,KnA.int _ 1,fun H2 s2=> ⟨_,rfl,?_⟩⟩
   refine dQ (fun hh=> ?_) fun hh=> ?_
   ·refine⟨_,rfl,_,s2 _ _ hl',eW (by omega),⟨_,rfl⟩,fun b u e=> ?_,_,?_,aI⟩
    ·rw [aS (cB e hl)];exact s2 _ _ (hs _ _ e)
    ·rw [List.length_append];show xs.length+1<=i+1;omega
   ·exact⟨⟨_,rfl⟩,hs.trans s2,xs,by omega,s2 _ _ hl'⟩
  ·rintro σ H' ⟨_,hs,_⟩
   exact q _ _ (s1.trans hs)
theorem A71:bH ["custom","claims","holder"] ["custom","claims","holder"] (aQ mK):=by ac_rfl
theorem A69:(["claim","holder"]:List Str).Nodup:=by decide +kernel
theorem A6g {f g1 g2 g3:Addr}{c:Nat->Addr}{fd d1 d2 d3:FuncData}(F:Fun K "count_of" "count_of" mK f fd)(a1:AtD P w K mg base 6 "check_claims_under" g1 d1 ["custom","claims"] (vZ c))(a2:AtD P w K mg base 3 "check_holder" g2 d2 ["claims","holder"] (qS (c 6)))(a3:At P w K mg base 1 "count_together" g3 d3 ["custom","claims"] rE):aR P w K mg base (CXD P w) 7 f fd ["custom","claims","holder"] (pI c):=by
 refine F.okD A71 (fun vs H Q E h=> ?_) (fun cdv A outer s H vs Q E hr h=> ?_)
 ·obtain⟨u,v,x,rfl,_⟩:=h;rfl
 ·obtain⟨u,v,x,rfl,ku,kv,kx,q1,q2⟩:=h
  refine⟨_,aW (fN (aX a1.ok hr rfl a1.nm a1.kp a1.bd .nil dY (aG (pv 0) (aG (pv 1) aF))))<|aW (fN (aX a2.ok (hr.mono (by decide)) rfl a2.nm a2.kp a2.bd .nil dY (aG (pv 1) (aG (pv 2) aF))))<|
   aV (aZ (aX a3.ok (hr.mono (by decide)) rfl a3.nm a3.kp a3.bd .nil bA (aG (pv 0) (fW (dL (aQ mK).names ["custom","claims","holder"] ["claim"] [("holder",2)] rfl (eV (pv 1)) rfl rfl rfl (by decide +kernel)
    (fun Z=>bL (i:=0) A69 rfl (Or.inl rfl)) (fun Z=>iI (bP dG (bR fU (pv 0) aL (fun _ _=>rfl)) (pv 1) (nomark _))) (fun Z=>pv 0)) aF)))),?_⟩
  refine⟨_,rfl,_,rfl,u,v,rfl,ku,kv,fun j z H1 s1=>q1 j (by unfold cS;rw [z]) H1 s1,fun zU H1 s1=> ?_⟩
  obtain⟨b,a,cs,cl,rfl,rfl,hb,Gc,hA,G,hU⟩:=A3e zU
  have eh:=lL hA x
  refine⟨_,rfl,_,rfl,a,cl,x,rfl,hA.ext s1.ext,G.l12,kx.ext s1.ext,fun z H2 s2=>q1 6 (by unfold cS;rw [zU];dsimp only;rw [eh,z];rfl) H2 (s1.trans s2),fun hh H2 s2=> ?_⟩
  obtain⟨i,rfl,_⟩:=jU hh
  have q:=q2 (by unfold cS;rw [zU];dsimp only;rw [eh,hh];rfl) a b cs cl i rfl rfl rfl hb Gc hA G hU
  obtain⟨bs,ha,hC⟩:=(hA.ext s1.ext).ext s2.ext
  have hl:bs.length=cl.length:=Paired.length hC
  have h12:=G.l12
  refine⟨_,rfl,_,rfl,a,rfl,⟨_,SqT.of ha⟩,fun Z l hl'=> ?_⟩
  refine nF (fun c=>decide (c.1=i)) gZ (fun H' hs=>SqT.of (hs _ _ ha)) hC hl' (by omega) (fun b' y H' Q' he hs hq=> ?_) fun σ H' bs' hs hl2 hC2=> ?_
  ·refine⟨_,rfl,b',_,0,.int y.1,rfl,rfl,SqT.of he,bF (j:=0) rfl,_,rfl,rfl,_,rfl,?_⟩
   have ed:decide (V.int y.1=V.int i)=decide (y.1=i):=decide_eq_decide.mpr ⟨fun z=>V.int.inj z,fun z=>by rw [z]⟩
   rw [ed]
   exact hq _ (Same.refl _)
  ·exact⟨b,l,cs,bs',ofH cl i,rfl,hs _ _ (s2 _ _ (s1 _ _ hb)),Gc,.inr hl2,hC2,(vP G hU).sub i,fun H3 s3=>q H3 (((s1.trans s2).trans hs).trans s3)⟩
theorem A90:bH ["custom","claims","holder"] ["custom","claims","holder"] (aQ pP):=by ac_rfl
theorem A9g {f g1 g2 g3:Addr}{c:Nat->Addr}{fd d1 d2 d3:FuncData}(F:Fun K "share_of" "share_of" pP f fd)(a1:At P w K mg base 1 "fraction" g1 d1 ["top","bottom"] vI)(a2:AtD P w K mg base 7 "count_of" g2 d2 ["custom","claims","holder"] (pI c))(a3:At P w K mg base 1 "count_together" g3 d3 ["custom","claims"] rE):aR P w K mg base (CXD P w) 8 f fd ["custom","claims","holder"] (tW c):=by
 refine F.okD A90 (fun vs H Q E h=> ?_) (fun cdv A outer s H vs Q E hr h=> ?_)
 ·obtain⟨u,v,x,rfl,_⟩:=h;rfl
 ·obtain⟨u,v,x,rfl,ku,kv,kx,q1,q2⟩:=h
  refine⟨_,aV (aZ (aX a1.ok (hr.mono (by decide)) rfl a1.nm a1.kp a1.bd .nil bA (bQ (aX a2.ok hr rfl a2.nm a2.kp a2.bd .nil dY (aG (pv 0) (aG (pv 1) (aG (pv 2) aF)))) (bQ (aX a3.ok (hr.mono (by decide)) rfl a3.nm a3.kp a3.bd .nil bA (aG (pv 0) (aG (pv 1) aF))) aF)))),?_⟩
  refine⟨_,rfl,_,rfl,_,rfl,u,v,x,rfl,ku,kv,kx,q1,fun z a b cs cl i e1 e2 e3 hb Gc hA G hU H1 s1=> ?_⟩
  subst e1 e2 e3
  obtain⟨q,_⟩:=q2 z
  obtain⟨bs,ha,hC⟩:=hA.ext s1.ext
  refine⟨_,rfl,_,rfl,b,a,cs,bs,cl,rfl,s1 _ _ hb,Gc,.inl ha,hC,vP G hU,fun H2 s2=> ?_⟩
  have hb:=B0b Gc G hU i
  exact⟨_,_,rfl,hb.1,hb.2,fun p hp=>q _ _ ((s1.trans s2).trans (aJ hp))⟩
theorem A55:bH ["claims","claim"] ["claims","claim"] (aQ nG):=by ac_rfl
theorem yC:(["one","claim"]:List Str).Nodup:=by decide +kernel
theorem A8v {f g1 g2 fi:Addr}{k:Nat->Addr}{fd d1 d2 di:FuncData}(F:Fun K "laid" "laid" nG f fd)(T:Txt mg)(a1:AtD P w K mg base 5 "check_claims" g1 d1 ["claims"] (fG bV 3 (k 5)))(a2:AtD P w K mg base 4 "check_claim" g2 d2 ["claim"] (fG clV 2 (k 4)))
  (mH:mg "There" =some (.ref (k 7)))(eH:ExcC K (k 7))(mT:mg "TooMany" =some (.ref (k 15)))(M:ExcI K (k 15) fi)(bI:L2.Binds K di ["self","many","most"] [])(oI:aR P w K mg base CX0 1 fi di ["self","many","most"] (rX (k 15))):aR P w K mg base (CXD P w) 6 f fd ["claims","claim"] (uN k):=by
 obtain⟨t1,mC⟩:=T.claims
 refine F.okD A55 (fun vs H Q E h=> ?_) (fun cdv A outer s H vs Q E hr h=> ?_)
 ·obtain⟨v,u,rfl,_⟩:=h;rfl
 ·obtain⟨v,u,rfl,kv,ku,q0,q9⟩:=h
  have hu:=xL hr
  refine⟨_,aW (fN (aX a1.ok hr rfl a1.nm a1.kp a1.bd .nil dY (aG (pv 0) aF)))<|
   aW (fN (aX a2.ok (hr.mono (by decide)) rfl a2.nm a2.kp a2.bd .nil dY (aG (pv 1) aF)))<|
   aW (bU (cU (bB (A1u rfl) rfl T.any A30 (fW (dL (aQ nG).names ["claims","claim"] ["one"] [("claim",1)] rfl (eV (pv 0)) rfl rfl rfl (by decide +kernel)
    (fun Z=>bL (i:=0) yC rfl (Or.inl rfl)) (fun Z=>fJ) (fun Z=>jJ (zF 1 hu) (fF gG (pv 0) fM (fA aL)) (fF gG (pv 1) fM (fA aL)) (nomark _))) aF))) (aV (iY (E:=E) rfl rfl rfl rfl rfl rfl mH eH)) bT)<|
   aW (bU (bP dG (bB eR rfl T.len PySem.boot_len (aG (pv 0) aF)) (bZ (v:=.int 12) rfl mC ⟨_,rfl⟩) (nomark _))
    (aV (A0i (E:=E) rfl rfl rfl rfl rfl (A1a M oI (hr.mono (by decide)) rfl mT bI bA (fV (bJ fX (bB eR rfl T.len PySem.boot_len (aG (pv 0) aF)) aL) (aG (bZ (v:=.int 12) rfl mC ⟨_,rfl⟩) aF)) (by decide)))) bT)<|
   aV (aZ (fS kK rfl T.tuple boot_tuple (bQ (bB wZ rfl T.sorted lS (fV (bJ iK (pv 0) (dF (aG (pv 1) aF))) aF)) aF))),?_⟩
  refine⟨_,rfl,v,rfl,kv,fun z H1 s1=>q0 5 (by unfold cV;rw [if_neg (by rw [z];decide)]) H1 s1,fun zv H1 s1=> ?_⟩
  have eu:clV H1 u=clV H u:=jN s1 (ku.le (by decide))
  refine⟨_,rfl,u,rfl,ku.ext s1.ext,fun z H2 s2=>q0 4 (by unfold cV;rw [if_pos zv,if_neg (by rw [←eu,z];decide)]) H2 (s1.trans s2),fun zu H2 s2=> ?_⟩
  rw [eu]at zu
  obtain⟨q,q1,q2⟩:=q9 (by unfold cV;rw [if_pos zv,if_pos zu])
  obtain⟨a,cl,rfl,hA,G⟩:=jH zv
  obtain⟨b,c,rfl,hb,hn⟩:=A17 zu
  have s1:=s1.trans s2
  obtain⟨bs,ha,hC⟩:=hA.ext s1.ext
  have hl:bs.length=cl.length:=Paired.length hC
  have hb1:=s1 _ _ hb
  have h12:=G.l12
  refine⟨_,rfl,a,rfl,⟨_,SqT.of ha⟩,fun Z l hl0=> ?_⟩
  refine A10 (rest:=[some (.ref b)]) gZ (fun H' hs=>SqT.of (hs _ _ ha)) hC hl0 (by omega) (fun y=> .bl (decide (bK y=bK c))) (fun b' y H' Q' hm he hs hq=> ?_) fun σ H2 s2 hl2=> ?_
  ·refine⟨_,rfl,_,rfl,b',_,rfl,he,fun p1 H3 s3 hp1=> ?_⟩
   refine⟨_,rfl,_,rfl,b,_,rfl,s3 _ _ (hs _ _ hb1),fun p2 H4 s4 hp2=> ?_⟩
   refine⟨p1,p2,[.int y.1,.int y.2.1],[.int c.1,.int c.2.1],[decide (y.1=c.1),decide (y.2.1=c.2.1)],rfl,rfl,.inl ⟨s4 _ _ hp1,hp2⟩,⟨EqD.int _ _ _,EqD.int _ _ _,trivial⟩,?_⟩
   have e:[decide (y.1=c.1),decide (y.2.1=c.2.1)].all id=decide (bK y=bK c):=by
    unfold bK
    rw [Bool.eq_iff_iff]
    simp [Prod.ext_iff]
   rw [e]
   exact hq _ (s3.trans s4)
  ·refine⟨l,cl.map fun y=>decide (bK y=bK c),rfl,SqL.of (by rw [hl2];simp only [List.map_map];rfl),_,rfl,?_⟩
   refine dQ (fun hk=>q1 7 (by simp) _ (s1.trans s2)) fun hk=> ?_
   have ha2:=s2 _ _ ha
   refine⟨_,rfl,a,_,rfl,.inr (SqT.of ha2),rfl,_,rfl,cW (fun hz=> ?_) fun hz=> ?_⟩
   ·refine⟨_,rfl,a,_,rfl,.inr (SqT.of ha2),_,_,rfl,rfl,fun x tt hx hn'=> ⟨x,tt,_,_,rfl,aI,fun d hd hne=> ⟨rfl,x,k 15,fi,tt,some d,rfl,hn',M,by rw [aS hne.symm,aI],?_⟩⟩⟩
    rw [aS hne]at hd
    refine q2 rfl d _ _ _ (fun b o e=> ?_) (by rw [iD hne,aI])
    have e0:=(s1.trans s2) _ _ e
    have b1:b≠x:=cB e0 hx
    have b2:b≠d:=cB e0 hd
    rw [iD b1,aS b2,aS b1,aS b2,aS b1]
    exact e0
   refine⟨_,rfl,_,rfl,by show 1<=sizeLine;decide,fun t ht=> ?_⟩
   have s3:=aJ (o:=.tup [.ref b]) ht
   refine⟨a,t,_,[.ref b],rfl,rfl,s3 _ _ ha2,aI,by rw [List.length_map,sizeLine_eq];show _+1<=_;omega,fun u H4 s4 hu4=> ?_⟩
   have sA:=(s2.trans s3).trans s4
   obtain⟨zs,z1,z2,z3⟩:=oK (hC.ext sA.ext)
   refine⟨u,zs++[(b,row c)],rfl,SqT.of (by rw [hu4,List.map_append,←z1,List.map_map];rfl),fun z hz=> ?_,by rw [List.length_append];have:=congrArg List.length z2;rw [List.length_map,List.length_map]at this;show zs.length+1<64;omega,fun l2 zs' hl3 hs2=> ?_⟩
   ·rcases List.mem_append.mp hz with y|y
    ·exact z3 z y
    ·rw [List.mem_singleton.mp y]
     exact⟨sA _ _ hb1,by unfold row;simp⟩
   have s5:=aJ (o:=.lst (zs'.map fun z=>V.ref z.1)) hl3
   refine⟨l2,_,rfl,.inl ⟨SqL.of aI,fun a' ha'=> ?_⟩⟩
   exact q _ _ ((((s1.trans sA)).trans s5).trans (aJ (o:=.tup (zs'.map fun z=>V.ref z.1)) ha'))
theorem B16:bH ["claims","claim"] ["claims","claim"] (aQ nV):=by ac_rfl
theorem B0a {f g1 g2:Addr}{k:Nat->Addr}{fd d1 d2:FuncData}(F:Fun K "denied" "denied" nV f fd)(T:Txt mg)(a1:AtD P w K mg base 5 "check_claims" g1 d1 ["claims"] (fG bV 3 (k 5)))(a2:AtD P w K mg base 4 "check_claim" g2 d2 ["claim"] (fG clV 2 (k 4)))
  (mM:mg "Missing" =some (.ref (k 8)))(eM:ExcC K (k 8))(mC:mg "NoClaims" =some (.ref (k 5)))(eC':ExcC K (k 5)):aR P w K mg base (CXD P w) 6 f fd ["claims","claim"] (uU k):=by
 refine F.okD B16 (fun vs H Q E h=> ?_) (fun cdv A outer s H vs Q E hr h=> ?_)
 ·obtain⟨v,u,rfl,_⟩:=h;rfl
 ·obtain⟨v,u,rfl,kv,ku,q0,q9⟩:=h
  have hu:=xL hr
  refine⟨_,aW (fN (aX a1.ok hr rfl a1.nm a1.kp a1.bd .nil dY (aG (pv 0) aF)))<|
   aW (fN (aX a2.ok (hr.mono (by decide)) rfl a2.nm a2.kp a2.bd .nil dY (aG (pv 1) aF)))<|
   aW (bU (bP (qA 1 hu) (pv 1) (pv 0) rfl) (aV (iY (E:=E) rfl rfl rfl rfl rfl rfl mM eM)) bT)<|
   aW (bU (bP dG (bB eR rfl T.len PySem.boot_len (aG (pv 0) aF)) aL (nomark _)) (aV (iY (E:=E) rfl rfl rfl rfl rfl rfl mC eC')) bT)<|
   aV (aZ (fS kK rfl T.tuple boot_tuple (fW (dL (aQ nV).names ["claims","claim"] ["one"] [("claim",1)] rfl (eV (pv 0)) rfl rfl rfl (by decide +kernel)
    (fun Z=>bL (i:=0) yC rfl (Or.inl rfl)) (fun Z=>iI (bP (sZ 0 (iL hr)) (pv 0) (pv 1) (nomark _))) (fun Z=>pv 0)) aF))),?_⟩
  refine⟨_,rfl,v,rfl,kv,fun z H1 s1=>q0 5 (by unfold cV;rw [if_neg (by rw [z];decide)]) H1 s1,fun zv H1 s1=> ?_⟩
  have eu:clV H1 u=clV H u:=jN s1 (ku.le (by decide))
  refine⟨_,rfl,u,rfl,ku.ext s1.ext,fun z H2 s2=>q0 4 (by unfold cV;rw [if_pos zv,if_neg (by rw [←eu,z];decide)]) H2 (s1.trans s2),fun zu H2 s2=> ?_⟩
  rw [eu]at zu
  obtain⟨q,q1,_⟩:=q9 (by unfold cV;rw [if_pos zv,if_pos zu])
  obtain⟨a,cl,rfl,hA,G⟩:=jH zv
  obtain⟨b,c,rfl,hb,hn⟩:=A17 zu
  have s1:=s1.trans s2
  obtain⟨bs,ha,hC⟩:=hA.ext s1.ext
  have hl:bs.length=cl.length:=Paired.length hC
  have h12:=G.l12
  have hb1:=s1 _ _ hb
  refine⟨_,rfl,_,rfl,a,_,_,rfl,.inl ha,zW hb1 hC,_,rfl,?_⟩
  refine dQ (fun z=>q1 8 (by simp) _ s1) fun z=> ?_
  refine⟨_,rfl,a,_,rfl,.inr (SqT.of ha),rfl,_,rfl,cW (fun hz=>q1 5 (by simp) _ s1) fun hz=> ?_⟩
  refine⟨_,rfl,a,rfl,⟨_,SqT.of ha⟩,fun Z l hl'=> ?_⟩
  refine nF (fun x=> !([decide (x.1=c.1),decide (x.2.1=c.2.1),decide (x.2.2=c.2.2)].all id)) gZ (fun H' hs=>SqT.of (hs _ _ ha)) hC hl' (by omega) (fun b' y H' Q' he hs hq=> ?_) fun σ H' bs' hs hl2 hC2=> ?_
  ·exact⟨_,rfl,_,rfl,b',b,_,_,_,rfl,rfl,.inl ⟨he,hs _ _ hb1⟩,xN y c,_,rfl,hq _ (Same.refl _)⟩
  ·refine⟨l,_,rfl,.inl ⟨SqL.of hl2,fun a' ha'=> ?_⟩⟩
   exact q _ _ ((s1.trans hs).trans (aJ (o:=.tup (bs'.map V.ref)) ha'))
end
abbrev nJo:List Str:=["claims","one","other","sums","holder","sort","many","kept"]
def iX (cl:List C3)(i j:Int):List C3:=(List.range 6).map fun s:Nat=>(i,(s:Int),rt cl i j (s:Int))
theorem A3f (cl:List C3)(i j:Int){k:Nat}(hk:k<6):(iX cl i j)[k]?=some (i,(k:Int),rt cl i j (k:Int)):=by
 unfold iX
 rw [List.getElem?_map,List.getElem?_range hk]
 rfl
section
variable {P:Program}{w:World}{K:W.Frag}{mg:Str->Option Value}{base:Heap}
theorem scJoined:bH nJo ["claims","one","other"] (aQ jZ):=by ac_rfl
theorem B17:(["sort","claims","one","other"]:List Str).Nodup:=by decide +kernel
theorem A4t:(["claim","one","other"]:List Str).Nodup:=by decide +kernel
theorem A9j:(["claim"]:List Str).Nodup:=by decide +kernel
theorem A8k {f g1 g2 g3 fi:Addr}{k:Nat->Addr}{fd d1 d2 d3 di:FuncData}(F:Fun K "joined" "joined" jZ f fd)(T:Txt mg)(a1:AtD P w K mg base 5 "check_claims" g1 d1 ["claims"] (fG bV 3 (k 5)))(a2:AtD P w K mg base 4 "check_two_holders" g2 d2 ["claims","one","other"] (uK (k 6)))(a3:At P w K mg base 1 "rights_of" g3 d3 ["claims","holders","sort"] uA)
  (mT:mg "TooMany" =some (.ref (k 15)))(M:ExcI K (k 15) fi)(bI:L2.Binds K di ["self","many","most"] [])(oI:aR P w K mg base CX0 1 fi di ["self","many","most"] (rX (k 15))):aR P w K mg base (CXD P w) 6 f fd ["claims","one","other"] (vA k):=by
 obtain⟨t1,mS⟩:=T.sorts
 obtain⟨t2,mR⟩:=T.rights
 refine F.okD scJoined (fun vs H Q E h=> ?_) (fun cdv A outer s H vs Q E hr h=> ?_)
 ·obtain⟨v,x,y,rfl,_⟩:=h;rfl
 ·obtain⟨v,x,y,rfl,kv,kx,ky,q0,q9⟩:=h
  have nd:=scJoined.nd
  have hu:=iL hr
  refine⟨_,aW (fN (aX a1.ok hr rfl a1.nm a1.kp a1.bd .nil dY (aG (pv 0) aF)))<|
   aW (fN (aX a2.ok (hr.mono (by decide)) rfl a2.nm a2.kp a2.bd .nil dY (aG (pv 0) (aG (pv 1) (aG (pv 2) aF)))))<|
   aW (rW (i:=3) (aQ jZ).names nJo ["sort"] [("claims",0),("one",1),("other",2)] rfl nd rfl rfl (qH rfl T.range (aG (bZ (v:=.int 6) rfl mS ⟨_,rfl⟩) aF)) rfl rfl rfl (by decide +kernel)
    (fun Z=>bL (i:=0) B17 rfl (Or.inl rfl)) (fun Z=>fJ)
    (fun Z=>dF (aG (pv 2) (aG (pv 0) (bQ (aX a3.ok (hr.mono (by decide)) rfl a3.nm a3.kp a3.bd .nil bA (aG (pv 1) (zM (dF (aG (pv 2) (aG (pv 3) aF))) (aG (pv 0) aF)))) aF)))))<|
   aW (qQ PassesOwn.leaving rfl (lA (pv 3)) (gX rfl (cK (bL (i:=4) nd rfl (Or.inl rfl)) (cK (bL (i:=5) nd rfl (Or.inl rfl)) (cK (bL (i:=6) nd rfl (Or.inl rfl)) gJ))))
    (aV (bU (bP tY (pv 6) (bZ (v:=.int 20) rfl mR ⟨_,rfl⟩) (nomark _)) (aV (A0i (E:=E) rfl rfl rfl rfl rfl (A1a M oI (hr.mono (by decide)) rfl mT bI bA (aG (pv 6) (aG (bZ (v:=.int 20) rfl mR ⟨_,rfl⟩) aF)) (by decide)))) bT)))<|
   aW (rW (i:=7) (aQ jZ).names nJo ["claim"] [("one",1),("other",2)] rfl nd rfl rfl (eV (pv 0)) rfl rfl rfl (by decide +kernel)
    (fun Z=>bL (i:=0) A4t rfl (Or.inl rfl)) (fun Z=>iI (bP (qA 0 hu) (bR fU (pv 0) aL (fun _ _=>rfl)) (dF (aG (pv 1) (aG (pv 2) aF))) rfl)) (fun Z=>pv 0))<|
   aV (aZ (fS kK rfl T.tuple boot_tuple (bQ (bB A1v rfl T.sorted lS (fV (bJ kR (pv 7) (dL (aQ jZ).names nJo ["claim"] [] rfl (lA (pv 3)) rfl rfl rfl (by decide +kernel)
    (fun Z=>bL (i:=0) A9j rfl (Or.inl rfl)) (fun Z=>iI (bP tY (bR fU (pv 0) aL (fun _ _=>rfl)) aL (nomark _))) (fun Z=>pv 0))) aF)) aF))),?_⟩
  refine⟨_,rfl,v,rfl,kv,fun z H1 s1=>q0 5 (by unfold dI;rw [if_neg (by rw [z];decide)]) H1 s1,fun zv H1 s1=> ?_⟩
  obtain⟨a,cl,rfl,hA,G⟩:=jH zv
  have ex:=lL hA x
  have ey:=lL hA y
  refine⟨_,rfl,_,rfl,_,rfl,a,cl,x,y,rfl,hA.ext s1.ext,G.l12,kx.ext s1.ext,ky.ext s1.ext,fun z H3 s3=>q0 6 (by unfold dI;rw [if_pos zv,ex,ey,z];rfl) _ (s1.trans s3),fun htw H3 s3=> ?_⟩
  obtain⟨q,_,hE⟩:=q9 (by unfold dI;rw [if_pos zv,ex,ey,htw];rfl)
  simp only [Bool.and_eq_true]at htw
  obtain⟨i,rfl,hi⟩:=jU htw.1.1
  obtain⟨j,rfl,hj⟩:=jU htw.1.2
  have s13:=s1.trans s3
  have hA3:=hA.ext s13.ext
  obtain⟨bs,ha,hC⟩:=id hA3
  have hl:bs.length=cl.length:=Paired.length hC
  have h12:=G.l12
  refine⟨6,rfl,by decide,by decide,fun Z l hl0=> ?_⟩
  refine pJ (lo:=0) (n:=6) (fun k σ H'=>(∃o,σ=[o,some (.ref a),some (.int i),some (.int j)])/\Same H3 H'/\∃ss:List Addr,H' l=some (.lst (ss.map V.ref))/\ClP H' ss ((iX cl i j).take k)) ⟨⟨_,rfl⟩,aJ hl0,[],by rw [aI];rfl,.nil⟩ ?_ ?_
  ·rintro k σ H' hk ⟨⟨o,rfl⟩,hs,ss,hl2,hS⟩
   refine pU ?_
   refine⟨_,rfl,_,rfl,_,rfl,_,rfl,_,rfl,by show 2<=sizeLine;decide,fun t ht=> ?_⟩
   have t1:=aJ (o:=.tup [.int i,.int j]) ht
   refine⟨_,rfl,a,t,_,cl,i,j,rfl,(hA3.ext hs.ext).ext t1.ext,h12,(fun c hc=>(G.num c hc).2.2),aI,fun H5 s5=> ?_⟩
   refine⟨by show 3<=sizeLine;decide,fun u hu'=> ?_⟩
   have t2:=aJ (o:=.tup [.int i,.int (0+(k:Int)),.int (rt cl i j (0+(k:Int)))]) hu'
   have sA:=(t1.trans s5).trans t2
   have hl5:=sA _ _ hl2
   have hss:ss.length=min k 6:=by
    have:=Paired.length hS
    rw [this,List.length_take];unfold iX;rw [List.length_map,List.length_range]
   refine⟨_,hl5,eW (by rw [List.length_map];omega),⟨_,rfl⟩,fun b o' e=> ?_,ss++[u],?_,?_⟩
   ·rw [aS (cB e hl0)];exact sA _ _ (hs _ _ e)
   ·rw [aI,List.map_append];rfl
   ·rw [List.take_succ,A3f cl i j hk]
    have up:∀b xs,(upd H5 u (.tup [.int i,.int (0+(k:Int)),.int (rt cl i j (0+(k:Int)))])) b=some (.tup xs)->(upd (upd H5 u (.tup [.int i,.int (0+(k:Int)),.int (rt cl i j (0+(k:Int)))])) l (.lst (ss.map V.ref++[.ref u]))) b=some (.tup xs):=fun b xs e=>by
     rw [aS (fun z=>by rw [z,hl5]at e;cases e)];exact e
    refine Paired.snoc (Paired.mapP hS fun _ _ e=>up _ _ (sA _ _ e)) ?_
    have e0:(0+(k:Int))=(k:Int):=by omega
    have:=up u _ aI
    rw [e0]at this⊢
    exact this
  rintro σ H4 ⟨_,s4,ss,hl4,hS⟩
  have hsl:ss.length=6:=by
   have:=Paired.length hS
   rw [this,List.length_take];unfold iX;rw [List.length_map,List.length_range];rfl
  rw [List.take_of_length_le (by unfold iX;rw [List.length_map,List.length_range];exact Nat.le_refl _)]at hS
  have s04:=s13.trans s4
  have ha4:=s4 _ _ ha
  have hC4:=hC.ext s4.ext
  refine⟨_,rfl,l,rfl,⟨_,SqL.of hl4⟩,?_⟩
  refine qV (K:=K) (a:=l) (xs:=ss.map V.ref) (fun k σ H'=>(∃o4 o5 o6 o7,σ=[some (.ref a),some (.int i),some (.int j),some (.ref l),o4,o5,o6,o7])/\H'=H4)
   ⟨⟨_,_,_,_,rfl⟩,rfl⟩ (fun k σ H' _ h=>by rw [h.2];exact SqL.of hl4) ?_ ?_
  ·rintro n x σ H' hx ⟨⟨o4,o5,o6,o7,rfl⟩,rfl⟩
   rw [List.getElem?_map]at hx
   cases hb:ss[n]? with
   |none=>rw [hb]at hx;cases hx
   |some u=>
    rw [hb]at hx;cases hx
    obtain⟨c,hc,he⟩:=hS.get hb
    refine⟨u,_,rfl,SqT.of he,rfl,_,_,rfl,_,_,rfl,_,_,rfl,rfl,?_⟩
    refine⟨_,rfl,_,_,rfl,rfl,_,rfl,cW (fun hgt=> ?_) fun hle=> ⟨⟨_,_,_,_,rfl⟩,rfl⟩⟩
    refine⟨_,rfl,fun x tt hx hn=> ⟨x,tt,_,_,rfl,aI,fun d hd hne=> ⟨rfl,x,k 15,fi,tt,some d,rfl,hn,M,by rw [aS hne.symm,aI],?_⟩⟩⟩
    rw [aS hne]at hd
    refine hE rfl d _ _ _ (fun b o e=> ?_) (by rw [iD hne,aI])
    have e0:=s04 _ _ e
    have b1:b≠x:=cB e0 hx
    have b2:b≠d:=cB e0 hd
    rw [iD b1,aS b2,aS b1,aS b2,aS b1]
    exact e0
  rintro σ H' ⟨⟨o4,o5,o6,o7,rfl⟩,rfl⟩
  refine⟨_,rfl,a,rfl,⟨_,SqT.of ha4⟩,fun Z2 l2 hl2=> ?_⟩
  refine nF (fun c=> !([decide (i=c.1),decide (j=c.1)].any id)) gZ (fun H' hs=>SqT.of (hs _ _ ha4)) hC4 hl2 (by omega) (fun b y Hk Q' he hs hq=> ?_) fun σ H5 bs' s5 hk5 hC5=> ?_
  ·refine⟨_,rfl,b,_,0,.int y.1,rfl,rfl,SqT.of he,bF (j:=0) rfl,_,rfl,_,rfl,by show 2<=sizeLine;decide,fun t ht=> ?_⟩
   exact⟨t,[.int i,.int j],[decide (i=y.1),decide (j=y.1)],rfl,.inl aI,⟨EqD.int _ _ _,EqD.int _ _ _,trivial⟩,_,rfl,hq _ (aJ ht)⟩
  have hl5:=s5 _ _ hl4
  have hS5:=hS.ext s5.ext
  refine⟨_,rfl,_,rfl,l,rfl,⟨_,SqL.of hl5⟩,fun Z3 l3 hl3=> ?_⟩
  refine nF (fun c=>decide (c.2.2>0)) oE (fun H' hs=>SqL.of (hs _ _ hl5)) hS5 hl3 (by omega) (fun b y Hk Q' he hs hq=> ?_) fun σ H6 bp s6 hp6 hC6=> ?_
  ·exact⟨_,rfl,b,_,2,.int y.2.2,rfl,rfl,SqT.of he,bF (j:=2) rfl,_,_,rfl,rfl,_,rfl,hq _ (Same.refl _)⟩
  have hk6:=s6 _ _ hk5
  have hC56:=ClP.ext hC5 s6.ext
  have lk:bs'.length<=12:=by
   have:=Paired.length hC5
   have h2:=List.length_filter_le (fun c:C3=> !([decide (i=c.1),decide (j=c.1)].any id)) cl
   omega
  have lp:bp.length<=6:=by
   have:=Paired.length hC6
   have h2:=List.length_filter_le (fun c:C3=>decide (c.2.2>0)) (iX cl i j)
   have h3:(iX cl i j).length=6:=by unfold iX;rw [List.length_map,List.length_range]
   omega
  refine⟨l2,l3,_,_,rfl,rfl,hk6,hp6,by rw [List.length_map,List.length_map,sizeLine_eq];omega,fun l7 hl7=> ?_⟩
  have s7:=aJ (o:=.lst (bs'.map V.ref++bp.map V.ref)) hl7
  obtain⟨z1,x1,x2,x3⟩:=oK (ClP.ext hC56 s7.ext)
  obtain⟨z2,y1,y2,y3⟩:=oK (ClP.ext hC6 s7.ext)
  have hz1:=congrArg List.length x1
  have hz2:=congrArg List.length y1
  rw [List.length_map]at hz1 hz2
  refine⟨l7,z1++z2,rfl,SqL.of (by rw [aI,List.map_append,←x1,←y1,List.map_map,List.map_map];rfl),fun z hz=> ?_,by rw [List.length_append];omega,fun l8 zs' hl8 hs2=> ?_⟩
  ·rcases List.mem_append.mp hz with y|y
   ·exact x3 z y
   ·exact y3 z y
  have s8:=aJ (o:=.lst (zs'.map fun z=>V.ref z.1)) hl8
  refine⟨l8,_,rfl,.inl ⟨SqL.of aI,fun a' ha'=> ?_⟩⟩
  exact q _ _ (((((s04.trans s5).trans s6).trans s7).trans s8).trans (aJ (o:=.tup (zs'.map fun z=>V.ref z.1)) ha'))
end
end M04
namespace L2
open PySem PySem.Spec PyProof.Rows
section
variable {X:Cx}
theorem sX:∀{bs:List Bool}{us:List Value},Vals (bs.map V.bl) us->us=bs.map Value.bool
 | [],_,h=>by cases h;rfl
 |b::bs,_,h=>by
  cases h with
  |cons a1 a2=>rw [show _=Value.bool b from a1,sX a2];rfl
def isT:Value->Bool| .bool b=>b|_=>false
theorem zX {pins:List (Addr×Obj)}{σ:St}{H:Hp}{s:Shared}(I:Inv X pins σ H s)(hu:X.A.units+1<cLine)(b:Bool):SeqAt.EqAt X.A.in1 s (.bool b) (.bool true) b:=by
 cases b with
 |true=>exact SeqAt.EqAt.same _
 |false=>exact SeqAt.EqAt.bool_bool false true
def A3c:V->List V->Hp->VK->Prop:=fun x vs H Q=> ∃l bs,x= .ref l/\vs=[.bl true]/\H l=some (.lst ((bs:List Bool).map V.bl))/\Q (.int (bs.countP id:Nat)) H
theorem A7z (hu:X.A.units+1<cLine):MtM X "list.count" A3c:=by
 intro pins s σ H x vs v us Q I rx rv h
 obtain⟨l,bs,rfl,rfl,hH,q⟩:=h
 cases rx
 obtain⟨u,rfl,ru⟩:=rv.one
 obtain rfl:u=Value.bool true:=ru
 obtain⟨z,its,m,r,hl,e⟩:=I.lstM hH
 have hb:=sX r
 subst hb
 refine call_meets F.slot_list_count ⟨_,e,rfl⟩ F.entry_list_count (F.args_list_count_2 _ _) (SeqAt.list_countAt l (bs.map Value.bool).toArray m none #[] (.bool true) isT) ⟨e,fun w hw=> ?_,?_⟩
 ·have hw':w∈bs.map Value.bool:=by simpa using hw
  obtain⟨b,_,rfl⟩:=List.mem_map.mp hw'
  exact zX I hu b
 ·refine⟨.int (bs.countP id:Nat),H,I.tok _,⟨s.toks,?_⟩,q⟩
  have:(bs.map Value.bool).countP isT=bs.countP id:=by rw [List.countP_map];rfl
  show Value.int (((bs.map Value.bool).countP isT:Nat):Int) _=_
  rw [this]
def A4e:V->List V->Hp->VK->Prop:=fun x vs H Q=> ∃l bs j,x= .ref l/\vs=[.bl true]/\H l=some (.lst ((bs:List Bool).map V.bl))/\bs[j]?=some true/\(∀i,i<j->bs[i]?=some false)/\j<1000/\Q (.int (j:Nat)) H
theorem A79 (hu:X.A.units+1<cLine):MtM X "list.index" A4e:=by
 intro pins s σ H x vs v us Q I rx rv h
 obtain⟨l,bs,j,rfl,rfl,hH,hj,hno,hz,q⟩:=h
 cases rx
 obtain⟨u,rfl,ru⟩:=rv.one
 obtain rfl:u=Value.bool true:=ru
 obtain⟨z,its,m,r,hl,e⟩:=I.lstM hH
 have hb:=sX r
 subst hb
 have jl:j<bs.length:=(List.getElem?_eq_some_iff.mp hj).1
 refine call_meets F.slot_list_index ⟨_,e,rfl⟩ F.entry_list_index (F.args_list_index_2 _ _) (SeqAt.list_indexAt l (bs.map Value.bool).toArray m none #[] (.bool true) isT j (by simpa using jl) (by omega) ?_ fun i hi hij=> ?_) ⟨e,fun w hw=> ?_,?_⟩
 ·have:=(List.getElem?_eq_some_iff.mp hj).2
  simp [isT,this]
 ·have hb:i<bs.length:=by simpa using hi
  have:=(List.getElem?_eq_some_iff.mp (hno i hij)).2
  simp [isT,this]
 ·have hw':w∈bs.map Value.bool:=by simpa using hw
  obtain⟨b,_,rfl⟩:=List.mem_map.mp hw'
  exact zX I hu b
 ·exact⟨.int (j:Nat),H,I.tok _,⟨_,rfl⟩,q⟩
end
end L2
namespace L2
open PySem PySem.Spec PyProof.Rows Builtin Builtin.Str
theorem yS:∀(l:List (Str×Tok)),Vals ((l.map (·.1)).map V.str) (strValues l)
 | []=> .nil
 | (x,t)::l=> .cons ⟨t,rfl⟩ (yS l)
section
variable {X:Cx}
def B07:V->List V->Hp->VK->Prop:=fun x xs H Q=> ∃a b:Str,x= .str a/\xs=[.str b]/\(b.length==0)=false/\a.length<=sizeLine/\(partsBetween a (occurrences a b 0 a.length (a.length+1)) b.length).length<=sizeLine/\∀l,H l=none->Q (.ref l) (upd H l (.lst ((Txt.split a b).map V.str)))
theorem A58:MtR X "str.split" B07:=by
 intro pins s σ H x xs v us Q I rx rv h
 obtain⟨a,b,rfl,rfl,hy,hsz,hsz2,q⟩:=h
 obtain⟨t,rfl⟩:=rx
 obtain⟨u0,rfl,ru⟩:=rv.one
 obtain⟨u,rfl⟩:=ru
 have key:∀(l:List (Str×Tok))(tk:Tok),l.map (·.1)=Txt.split a b->l.length<=sizeLine->
   EP X pins σ Q (.ref s.heap.objs.size) {s with toks:=tk,heap:=s.heap.push {cls:=.type "list",data:=.seq (strValues l).toArray}}:=fun l tk e hl=>by
  refine⟨.ref _,_,I.laid (t':=tk) (o:=.lst ((Txt.split a b).map V.str)) (fun b ob q=>Heap.get?_push_of_some _ q) (Nat.le_refl _) ⟨?_,strValues l,0,?_,Heap.get?_push_size _ rfl⟩,rfl,q _ (I.hok.fresh (Nat.le_refl _))⟩
  ·rw [←e,List.length_map,List.length_map];exact hl
  ·rw [←e];exact yS l
 cases h1:(decide (a.length<b.length)||decide (strKind a<strKind b))
 ·cases hf:(occurrences a b 0 a.length (a.length+1)).isEmpty
  ·refine call_meets F.slot_str_split (typeIs_str _ _ _) F.entry_str_split (F.args_str_split_2 _ _) (meets_str_split_sep a b t u h1 hy hf hsz hsz2) ?_
   show wants _ _ _ {s with toks:=_,heap:=s.heap.push {cls:=.type "list",data:=.seq (strsFrom s.toks (partsBetween a (occurrences a b 0 a.length (a.length+1)) b.length)).toArray}}
   rw [strsFrom_eq]
   refine key (numbered s.toks _) _ ((numbered_texts _ _).trans ((if_neg (ne_true_of_eq_false h1)).trans (if_neg (ne_true_of_eq_false hf))).symm) ?_
   have:=congrArg List.length (numbered_texts s.toks (partsBetween a (occurrences a b 0 a.length (a.length+1)) b.length))
   rw [List.length_map]at this
   rw [this];exact hsz2
  ·exact call_meets F.slot_str_split (typeIs_str _ _ _) F.entry_str_split (F.args_str_split_2 _ _) (meets_str_split_not_found a b t u h1 hy hf)
    (key [(a,t)] s.toks ((if_neg (ne_true_of_eq_false h1)).trans (if_pos hf)).symm (by show 1<=sizeLine;decide))
 ·exact call_meets F.slot_str_split (typeIs_str _ _ _) F.entry_str_split (F.args_str_split_2 _ _) (meets_str_split_cannot_occur a b t u h1)
   (key [(a,t)] s.toks (if_pos h1).symm (by show 1<=sizeLine;decide))
end
end L2
namespace L2
open PySem PySem.Spec PyProof.Rows PySem.W
structure oG (P:Program)(w:World)(K:W.Frag)(mg:Str->Option Value)(base:Heap)(k:Nat)(f:Addr)(fd:FuncData)(ps:List Str)(sp:Addr->Obj->List V->Hp->VK->Prop):Prop where
 len:∀e oe vs H Q,sp e oe vs H Q->vs.length=ps.length
 run:∀(A:Around)(outer:List Env)(s:Shared)(H:Hp)(args:Args)(us:List Value)(vs:List V)(Q:VK)(E:XK)(e:Addr)(oe:Obj),Room k A->Env0 P w K mg base (A.mark (some (.ref e))) outer s H->BindsTo s fd args (ps.zip us)->Vals vs us->
  s.heap.get? e=some oe->H e=none->e∉frs outer->(∀v,oe.data≠ .cell v)->sp e oe vs H Q->codeAny (model P w) (A.mark (some (.ref e))) (.call (.ref f) args) (CR CX0 outer P w H s Q E) s
section
variable {P:Program}{w:World}{K:W.Frag}{mg:Str->Option Value}{base:Heap}
theorem Fun.okPin {x qual:Str}{st:Stmt}{f:Addr}{fd:FuncData}{N ps:List Str}{k:Nat}{sp:Addr->Obj->List V->Hp->VK->Prop}(F:Fun K x qual st f fd)(S:bH N ps (aQ st))(len:∀e oe vs H Q,sp e oe vs H Q->vs.length=ps.length)
  (hbody:∀(cdv:Value)(A:Around)(outer:List Env)(s:Shared)(H:Hp)(vs:List V)(Q:VK)(E:XK)(e:Addr)(oe:Obj),Room k (A.deeper (envOfC qual (aQ st) s.heap.objs.size f cdv))->sp e oe vs H Q->
   ∃t,PSs ((cN CX0 P w K mg base N qual (aQ st) f cdv A outer s H E).nox.within e oe) (bX st) t/\t {nx:=fun _ H'=>Q .non H',rt:=Q} (start N vs) H):oG P w K mg base (k+1) f fd ps sp:=by
 obtain⟨oc,od,kV,doc,pm,an,cdv,ct,osl,rfl,lk,hcd⟩:=F.ex
 refine⟨len,fun A outer s H args us vs Q E e oe hr e0 hb r he hn hfr hnc hsp=> ?_⟩
 have e0':Env0 P w K mg base A outer s H:=⟨e0.frames,e0.mod,e0.bs,e0.bsz,e0.funs,e0.frf,e0.hok,e0.bare⟩
 have hl:=len _ _ _ _ _ hsp
 have KX:K.In s.heap:=e0.mod.kin.keeps fun b o e=>(e0.bs b o e).1
 have lim:s.heap.NoLimit:=e0.mod.nolimit.keeps fun b o e=>(e0.bs b o e).1
 have hkind:∀z∈ps.zip us,(aQ st).names.lookup z.1=some .local\/((aQ st).names.lookup z.1=some .cell/\((cellsFrom (s.heap.objs.size+1) (aQ st).names []).lookup z.1).isSome=true):=fun⟨n,v⟩ hy=>by
  rcases S.par n (List.of_mem_zip hy).1 with q|q
  ·exact .inl q
  ·exact .inr ⟨q,W.cellsFrom_some _ _ _ (.inl q)⟩
 have hdp:(A.mark (some (.ref e))).depth<recursionLimit:=hr.depth
 refine codeAny_call_function hdp (KX _ _ lk) rfl S.co S.gen rfl (W.codeRec_of KX hcd) (hb _ _ _ _ ?_)
 refine wpAny_newFunctionEnv_cells S.kind hkind fun env he' s1 x=> ?_
 subst he'
 refine⟨lim.keeps x.toInCall.keep,codeAny_func ?_⟩
 obtain⟨t,ht,hq⟩:=hbody cdv A outer s H vs Q E e oe (hr.deeper _) hsp
 have I:Inv (cN CX0 P w K mg base N qual (aQ st) f cdv A outer s H E) [] (start N vs) H s1:=vV S hr.hd e0' hl r x
 have I2:Inv ((cN CX0 P w K mg base N qual (aQ st) f cdv A outer s H E).nox.within e oe) [] (start N vs) H s1:=Inv.within (I.wish _) (x.toInCall.keep _ _ he) hn (fun z=>by
   have:=Heap.lt_size he
   rw [show e=s.heap.objs.size from z]at this
   exact absurd this (Nat.lt_irrefl _)) hfr hnc
 refine wpAny_mono (ht [] s1 (start N vs) H _ I2 hq) (fun fl s' hs=> ?_) fun e s' hs=>hs.elim
 have fin:∀{σ':St}{H':Hp}{v:V}{u:Value},Inv ((cN CX0 P w K mg base N qual (aQ st) f cdv A outer s H E).nox.within e oe) [] σ' H' s'->RelV v u->Q v H'->CE outer P w H s Q u s':=
  fun{σ' H' v u} J rv q=> ⟨v,H',J.os,J.bare,J.base,J.hok,rv,q⟩
 cases fl with
 |ret u=>
  obtain⟨v,σ',H',J,rv,q⟩:=hs
  exact fin J rv q
 |next=>
  obtain⟨σ',H',J,q⟩:=hs
  exact fin (v:=V.non) (u:=Value.none) J rfl q
 |brk=>
  obtain⟨_,_,_,q⟩:=hs
  exact False.elim q
 |cont=>
  obtain⟨_,_,_,q⟩:=hs
  exact False.elim q
end
theorem A09 {X:Cx}{g:Addr}{gd:FuncData}{k:Nat}{x:Str}{ps:List Str}{sp:Addr->Obj->List V->Hp->VK->Prop}{e:Addr}{oe:Obj}{a:Expr}{es:List Expr}{t:TA}{p pos:Pos}(F:oG X.prog X.w X.K X.mg X.base k g gd ps sp)(hr:Room k X.A)(hg:Gl X x)(hm:X.mg x=some (.ref g))(hk:keepIn X.K (.ref g)=true)(hb:Binds X.K gd ps [])
  (ha:PA (X.within e oe) (a::es) t)(hdb:(x==("__debug__":Str))=false:=by decide)(he:starEach (a::es) X.env=(false,eval a X.env)::starEach es X.env:=by rfl)(hpl:(backTo pos (starEach es X.env)).any (·.1)=false:=by rfl):
  PE (X.within e oe) (.Call (.Name x p) (a::es) [] pos) (fun σ H Q=>t σ H fun vs H1=>sp e oe vs H1 Q):=by
 intro pins s σ H Q I h
 refine wpAny_Call_Name_kw (jV I hg hm ?_ hdb)
 refine W.callWith_K (h₀:=X.base) I.ok.mod.kin hk (thn (ha pos pins s σ H _ I h) fun us s1 ⟨vs,H1,I1,r,q⟩=> ⟨I1.kIn,?_⟩) he hpl
 obtain⟨p1,p2,p3,p4,p5⟩:=I1.pin (e,oe) (List.mem_append_left _ List.mem_cons_self)
 have hl:us.length=ps.length:=r.length.symm.trans (F.len _ _ _ _ _ q)
 refine wpAny_call (codeAny_mono (F.run X.A X.stack s1 H1 ⟨us,[]⟩ us vs Q E0 e oe hr I1.env0 (by have:=hb s1 us I1.kIn (by simpa using hl);simpa using this) r p1 p2 (fun z=>(List.mem_cons.mp (I1.stkSub e z)).elim p3 p4) p5 q) fun r s' hq=> ?_)
 cases r with
 |error e=>exact False.elim hq
 |ok fl=>
  cases fl with
  |ret u=>exact I1.after hq
  |next=>exact False.elim hq
  |brk=>exact False.elim hq
  |cont=>exact False.elim hq
end L2
namespace M04
open PySem L2 PyProof.Rows
structure tI (mg:Str->Option Value)(c:Nat->Addr):Prop where
 m0:mg "NoMead" =some (.ref (c 0))
 m1:mg "NoPlace" =some (.ref (c 1))
 m2:mg "NoLand" =some (.ref (c 2))
 m3:mg "NoCustom" =some (.ref (c 3))
 m4:mg "NoClaim" =some (.ref (c 4))
 m5:mg "NoClaims" =some (.ref (c 5))
 m6:mg "NoHolder" =some (.ref (c 6))
 m7:mg "There" =some (.ref (c 7))
 m8:mg "Missing" =some (.ref (c 8))
 m9:mg "NoPlea" =some (.ref (c 9))
 m10:mg "NoParting" =some (.ref (c 10))
 m11:mg "NoWill" =some (.ref (c 11))
 m12:mg "NoHouses" =some (.ref (c 12))
 m13:mg "NoOdd" =some (.ref (c 13))
 m14:mg "NoUndo" =some (.ref (c 14))
 m15:mg "TooMany" =some (.ref (c 15))
structure hV (K:W.Frag)(c:Nat->Addr)(cE D:Addr)(j:Nat):Prop where
 d:jE K D
 x:W.exmOne K (.ref D) (.ref cE)=some true
 lt:j<16
 k:∀i,i<16->W.kitOne K (.ref D) (.ref (c i))=some (decide (i=j))
 v:W.kitOne K (.ref D) (.type "ValueError")=some true
def words:List Str:=["mead","place","land","custom","claim","claims","holder","there","missing","plea","parting","will","houses","odd","undo","many"]
def wd (j:Nat):Str:=words.getD j ""
def kinds:Str:="mead place land custom claim claims holder there missing plea parting will houses odd undo many"
theorem A9t:Txt.split kinds " " =words:=by decide +kernel
def mk (j:Nat):List Bool:=[decide (0=j),decide (1=j),decide (2=j),decide (3=j),decide (4=j),decide (5=j),decide (6=j),decide (7=j),decide (8=j),decide (9=j),decide (10=j),decide (11=j),decide (12=j),decide (13=j),decide (14=j),decide (15=j)]
theorem B1t:∀j,j<16->(mk j).countP id=1:=by decide
theorem B0h:∀j,j<16->(mk j)[j]?=some true:=by decide
theorem A77:∀j,j<16->∀i,i<j->(mk j)[i]?=some false:=by decide
theorem A23:∀j,j<16->words[j]?=some (wd j):=by decide
def vT (K:W.Frag)(c:Nat->Addr)(cE:Addr):Addr->Obj->List V->Hp->VK->Prop:=fun e oe vs H Q=> ∃D j,vs=[.ref e]/\oe.cls= .ref D/\hV K c cE D j/\∀H',Same H H'->Q (.str (wd j)) H'
section
variable {P:Program}{w:World}{K:W.Frag}{mg:Str->Option Value}{base:Heap}
abbrev B0l:List Str:=["_law_e","_law_marks","_law_kinds"]
theorem scWord:bH B0l ["_law_e"] (aQ oB):=by ac_rfl
theorem A52:bootBuiltins "ValueError" =some (.type "ValueError"):=by decide +kernel
theorem B0n {f cE:Addr}{c:Nat->Addr}{fd:FuncData}(F:Fun K "_law_word" "_law_word" oB f fd)(T:Txt mg)(N:tI mg c):oG P w K mg base 2 f fd ["_law_e"] (vT K c cE):=by
 have nd:=scWord.nd
 refine F.okPin scWord (fun e oe vs H Q h=> ?_) (fun cdv A outer s H vs Q E e oe hr h=> ?_)
 ·obtain⟨D,j,rfl,_⟩:=h;rfl
 ·obtain⟨D,j,rfl,hc,cD,q⟩:=h
  have hu:(A.deeper (envOfC "_law_word" (aQ oB) s.heap.objs.size f cdv)).units+1<cLine:=iL hr
  refine⟨_,aW (dR (i:=1) nd rfl (Or.inl rfl) (fC (bQ (bB (dZ cD.d) rfl T.isinstance boot_isinstance (aG (pv 0) (aG (bZ (v:=.ref (c 0)) rfl N.m0 rfl) aF))) (bQ (bB (dZ cD.d) rfl T.isinstance boot_isinstance (aG (pv 0) (aG (bZ (v:=.ref (c 1)) rfl N.m1 rfl) aF))) (bQ (bB (dZ cD.d) rfl T.isinstance boot_isinstance (aG (pv 0) (aG (bZ (v:=.ref (c 2)) rfl N.m2 rfl) aF))) (bQ (bB (dZ cD.d) rfl T.isinstance boot_isinstance (aG (pv 0) (aG (bZ (v:=.ref (c 3)) rfl N.m3 rfl) aF))) aF))))))<|
   aW (dR (i:=1) nd rfl (Or.inl rfl) (bJ kR (pv 1) (fC (bQ (bB (dZ cD.d) rfl T.isinstance boot_isinstance (aG (pv 0) (aG (bZ (v:=.ref (c 4)) rfl N.m4 rfl) aF))) (bQ (bB (dZ cD.d) rfl T.isinstance boot_isinstance (aG (pv 0) (aG (bZ (v:=.ref (c 5)) rfl N.m5 rfl) aF))) (bQ (bB (dZ cD.d) rfl T.isinstance boot_isinstance (aG (pv 0) (aG (bZ (v:=.ref (c 6)) rfl N.m6 rfl) aF))) (bQ (bB (dZ cD.d) rfl T.isinstance boot_isinstance (aG (pv 0) (aG (bZ (v:=.ref (c 7)) rfl N.m7 rfl) aF))) aF)))))))<|
   aW (dR (i:=1) nd rfl (Or.inl rfl) (bJ kR (pv 1) (fC (bQ (bB (dZ cD.d) rfl T.isinstance boot_isinstance (aG (pv 0) (aG (bZ (v:=.ref (c 8)) rfl N.m8 rfl) aF))) (bQ (bB (dZ cD.d) rfl T.isinstance boot_isinstance (aG (pv 0) (aG (bZ (v:=.ref (c 9)) rfl N.m9 rfl) aF))) (bQ (bB (dZ cD.d) rfl T.isinstance boot_isinstance (aG (pv 0) (aG (bZ (v:=.ref (c 10)) rfl N.m10 rfl) aF))) (bQ (bB (dZ cD.d) rfl T.isinstance boot_isinstance (aG (pv 0) (aG (bZ (v:=.ref (c 11)) rfl N.m11 rfl) aF))) aF)))))))<|
   aW (dR (i:=1) nd rfl (Or.inl rfl) (bJ kR (pv 1) (fC (bQ (bB (dZ cD.d) rfl T.isinstance boot_isinstance (aG (pv 0) (aG (bZ (v:=.ref (c 12)) rfl N.m12 rfl) aF))) (bQ (bB (dZ cD.d) rfl T.isinstance boot_isinstance (aG (pv 0) (aG (bZ (v:=.ref (c 13)) rfl N.m13 rfl) aF))) (bQ (bB (dZ cD.d) rfl T.isinstance boot_isinstance (aG (pv 0) (aG (bZ (v:=.ref (c 14)) rfl N.m14 rfl) aF))) (bQ (bB (dZ cD.d) rfl T.isinstance boot_isinstance (aG (pv 0) (aG (bZ (v:=.ref (c 15)) rfl N.m15 rfl) aF))) aF)))))))<|
   aW (bU (PW.pt (gL (bP uE (vS PySem.F.plainAttrs_list PySem.F.slot_list_count PySem.F.type_list_count (A7z hu) (pv 1) (bS eZ aF)) aL (nomark _))
     (iM (cY (cU (bB (dZ cD.d) rfl T.isinstance boot_isinstance (aG (pv 0) (aG (iP (v:=.ty "ValueError") rfl T.verr A52 rfl) aF)))))))) (aV (aZ cX)) bT)<|
   aW (dR (i:=2) nd rfl (Or.inl rfl) cX)<|
   aV (aZ (bR cG (vS PySem.F.plainAttrs_str PySem.F.slot_str_split PySem.F.type_str_split A58 (pv 2) (bS cX aF)) (vS PySem.F.plainAttrs_list PySem.F.slot_list_index PySem.F.type_list_index (A79 hu) (pv 1) (bS eZ aF)) (fun _ _=>rfl))),?_⟩
  refine⟨_,rfl,hc,.inl ⟨c 0,_,rfl,cD.k 0 (by decide),?_⟩⟩
  refine⟨_,rfl,hc,.inl ⟨c 1,_,rfl,cD.k 1 (by decide),?_⟩⟩
  refine⟨_,rfl,hc,.inl ⟨c 2,_,rfl,cD.k 2 (by decide),?_⟩⟩
  refine⟨_,rfl,hc,.inl ⟨c 3,_,rfl,cD.k 3 (by decide),?_⟩⟩
  refine⟨by show 4<=sizeLine;decide,fun l0 hl0=> ?_⟩
  have s0:=aJ (o:=.lst [.bl (decide (0=j)),.bl (decide (1=j)),.bl (decide (2=j)),.bl (decide (3=j))]) hl0
  refine⟨_,rfl,?_⟩
  refine⟨_,rfl,hc,.inl ⟨c 4,_,rfl,cD.k 4 (by decide),?_⟩⟩
  refine⟨_,rfl,hc,.inl ⟨c 5,_,rfl,cD.k 5 (by decide),?_⟩⟩
  refine⟨_,rfl,hc,.inl ⟨c 6,_,rfl,cD.k 6 (by decide),?_⟩⟩
  refine⟨_,rfl,hc,.inl ⟨c 7,_,rfl,cD.k 7 (by decide),?_⟩⟩
  refine⟨by show 4<=sizeLine;decide,fun l1 hl1=> ?_⟩
  have s1:=aJ (o:=.lst [.bl (decide (4=j)),.bl (decide (5=j)),.bl (decide (6=j)),.bl (decide (7=j))]) hl1
  refine⟨l0,l1,_,_,rfl,rfl,s1 _ _ aI,aI,by show 4+4<=sizeLine;decide,fun m1 hm1=> ?_⟩
  have r1:=aJ (o:=.lst [.bl (decide (0=j)),.bl (decide (1=j)),.bl (decide (2=j)),.bl (decide (3=j)),.bl (decide (4=j)),.bl (decide (5=j)),.bl (decide (6=j)),.bl (decide (7=j))]) hm1
  refine⟨_,rfl,?_⟩
  refine⟨_,rfl,hc,.inl ⟨c 8,_,rfl,cD.k 8 (by decide),?_⟩⟩
  refine⟨_,rfl,hc,.inl ⟨c 9,_,rfl,cD.k 9 (by decide),?_⟩⟩
  refine⟨_,rfl,hc,.inl ⟨c 10,_,rfl,cD.k 10 (by decide),?_⟩⟩
  refine⟨_,rfl,hc,.inl ⟨c 11,_,rfl,cD.k 11 (by decide),?_⟩⟩
  refine⟨by show 4<=sizeLine;decide,fun l2 hl2=> ?_⟩
  have s2:=aJ (o:=.lst [.bl (decide (8=j)),.bl (decide (9=j)),.bl (decide (10=j)),.bl (decide (11=j))]) hl2
  refine⟨m1,l2,_,_,rfl,rfl,s2 _ _ aI,aI,by show 8+4<=sizeLine;decide,fun m2 hm2=> ?_⟩
  have r2:=aJ (o:=.lst [.bl (decide (0=j)),.bl (decide (1=j)),.bl (decide (2=j)),.bl (decide (3=j)),.bl (decide (4=j)),.bl (decide (5=j)),.bl (decide (6=j)),.bl (decide (7=j)),.bl (decide (8=j)),.bl (decide (9=j)),.bl (decide (10=j)),.bl (decide (11=j))]) hm2
  refine⟨_,rfl,?_⟩
  refine⟨_,rfl,hc,.inl ⟨c 12,_,rfl,cD.k 12 (by decide),?_⟩⟩
  refine⟨_,rfl,hc,.inl ⟨c 13,_,rfl,cD.k 13 (by decide),?_⟩⟩
  refine⟨_,rfl,hc,.inl ⟨c 14,_,rfl,cD.k 14 (by decide),?_⟩⟩
  refine⟨_,rfl,hc,.inl ⟨c 15,_,rfl,cD.k 15 (by decide),?_⟩⟩
  refine⟨by show 4<=sizeLine;decide,fun l3 hl3=> ?_⟩
  have s3:=aJ (o:=.lst [.bl (decide (12=j)),.bl (decide (13=j)),.bl (decide (14=j)),.bl (decide (15=j))]) hl3
  refine⟨m2,l3,_,_,rfl,rfl,s3 _ _ aI,aI,by show 12+4<=sizeLine;decide,fun m3 hm3=> ?_⟩
  have r3:=aJ (o:=.lst [.bl (decide (0=j)),.bl (decide (1=j)),.bl (decide (2=j)),.bl (decide (3=j)),.bl (decide (4=j)),.bl (decide (5=j)),.bl (decide (6=j)),.bl (decide (7=j)),.bl (decide (8=j)),.bl (decide (9=j)),.bl (decide (10=j)),.bl (decide (11=j)),.bl (decide (12=j)),.bl (decide (13=j)),.bl (decide (14=j)),.bl (decide (15=j))]) hm3
  refine⟨_,rfl,.inl ⟨rfl,_,SqL.of aI⟩,m3,mk j,rfl,rfl,aI,rfl,_,rfl,?_⟩
  rw [B1t j cD.lt]
  refine aY ?_
  refine⟨_,rfl,hc,.inr ⟨"ValueError",true,rfl,cD.v,_,rfl,aY ?_⟩⟩
  refine⟨_,rfl,rfl,kinds," ",rfl,rfl,by decide,by decide +kernel,by decide +kernel,fun l5 hl5=> ?_⟩
  rw [A9t]
  have s5:=aJ (o:=.lst (words.map V.str)) hl5
  refine⟨_,rfl,.inl ⟨rfl,_,SqL.of (s5 _ _ aI)⟩,m3,mk j,j,rfl,rfl,s5 _ _ aI,B0h j cD.lt,A77 j cD.lt,Nat.lt_trans cD.lt (by decide),?_⟩
  exact⟨l5,_,_,.str (wd j),rfl,rfl,SqL.of aI,bF (by rw [List.getElem?_map,A23 j cD.lt];rfl),q _ (((((((s0.trans s1).trans r1).trans s2).trans r2).trans s3).trans r3).trans s5)⟩
end
end M04
namespace L2
open PySem PySem.Spec PyProof.Rows PySem.W
structure A3i (h:Heap)(H:Hp)(f:Addr)(qual:Str)(params:Arguments)(body:Expr)(scope:Scope)(cl:List (Str×Addr))(pm ctv:Value)(c':Addr):Prop where
 fn:h.get? f=some (kla_obj "<lambda>" qual params body scope cl pm c' ctv)
 code:h.CodeRec (.ref c') qual
 cells:∀x c,cl.lookup x=some c->(∃v,h.IsCell c v)/\H c=none
section
variable {P:Program}{w:World}{K:W.Frag}{mg:Str->Option Value}{base:Heap}{N:List Str}{qual:Str}{scope:Scope}{f c':Addr}{cl:List (Str×Addr)}{A:Around}{outer:List Env}{s:Shared}{H:Hp}{E:XK}{Q:VK}{params:Arguments}{body:Expr}{pm ctv:Value}
end
structure jY (P:Program)(w:World)(K:W.Frag)(mg:Str->Option Value)(base:Heap)(k:Nat)(f:Addr)(fd:FuncData)(ps:List Str)(sp:List Env->List V->Hp->Heap->VK->Prop):Prop where
 len:∀o vs H h Q,sp o vs H h Q->vs.length=ps.length
 run:∀(A:Around)(outer:List Env)(s:Shared)(H:Hp)(args:Args)(us:List Value)(vs:List V)(Q:VK)(E:XK),Room k A->Env0 P w K mg base A outer s H->BindsTo s fd args (ps.zip us)->Vals vs us->sp outer vs H s.heap Q->
  codeAny (model P w) A (.call (.ref f) args) (CR CX0 outer P w H s Q E) s
section
variable {P:Program}{w:World}{K:W.Frag}{mg:Str->Option Value}{base:Heap}
end
theorem A7r {X:Cx}{CX:CXT}{E:XK}{i:Nat}{x:Str}{p pos:Pos}(hN:X.N[i]?=some x)(hv:Vis X.env.scope x)(hp:iB CX X E)(hd:(x==("__debug__":Str))=false:=by decide)(hcd:(x==("__classdict__":Str))=false:=by decide):
  PE X (.Call (.Name x p) [] [] pos) (fun σ H Q=> ∃f,σ[i]?=some (some (.ref f))/\∀(pins:List (Addr×Obj))(s:Shared),Inv X pins σ H s->FnAt f s.heap/\codeAny (model X.prog X.w) X.A (.call (.ref f) ⟨[],[]⟩) (CR CX X.stack X.prog X.w H s Q E) s):=by
 intro pins s σ H Q I h
 obtain⟨f,e,h⟩:=h
 refine wpAny_Call_Name_kw (thn (A18 (pos:=p) hN hv hd hcd pins s σ H (fun v H'=>v= .ref f/\H'=H) I ⟨.ref f,e,rfl,rfl⟩) fun u s1 ⟨v,H1,I1,r,ev,eH⟩=> ?_)
 subst ev eH
 cases (show u=Value.ref f from r)
 obtain⟨hF,hc⟩:=h pins s1 I1
 refine callWith_F0 hF (wpAny_call (codeAny_mono hc fun r s' hq=> ?_))
 cases r with
 |error e=>exact hp pins σ _ s1 e s' I1 hq
 |ok fl=>
  cases fl with
  |ret u=>exact I1.after hq
  |next=>exact False.elim hq
  |brk=>exact False.elim hq
  |cont=>exact False.elim hq
def cdO (c':Addr)(qual:Str):HO:=.ext fun h=> ∃o vs t,h.get? c'=some o/\o.data= .fields vs/\vs[1]?=some (.str qual t)
structure TabI (H:Hp)(P:Addr)(ps:Array Value)(qual:Str)(poss:List Pos):Prop where
 at':H P=some (.tbl ps)
 tr:TriplesOk ps.toList
 cd:∀pos∈poss,codeAmong pos ps.toList=none\/ ∃c',codeAmong pos ps.toList=some (.ref c')/\H c'=some (cdO c' qual)
def jX (P:Addr)(H H1:Hp):Prop:=∀b u,b≠P->H b=some u->H1 b=some u
def fR (mg:Str->Option Value)(h:Heap):Prop:=∃bm ob,mg "__builtins__" =some (.ref bm)/\bm≠builtinsNs/\h.get? bm=some ob/\ob.cls= .type "module"/\ob.dict=some builtinsNs/\ob.data= .plain
theorem zB {pos pos':Pos}{c:Value}{t1 t2:Tok}:∀{l:List Value},TriplesOk l->codeAmong pos (l++[.int pos'.line t1,.int pos'.col t2,c])=match codeAmong pos l with|some d=>some d|none=>if (((pos'.line:Int)==(pos.line:Int)&&(pos'.col:Int)==(pos.col:Int)):Bool)=true then some c else none
 | [],_=>rfl
 | .int a ta:: .int b tb::d::r,h=>by
  have ih:=zB (pos:=pos) (pos':=pos') (c:=c) (t1:=t1) (t2:=t2) (l:=r) h
  show(if (a==(pos.line:Int)&&b==(pos.col:Int))=true then some d else codeAmong pos (r++[.int pos'.line t1,.int pos'.col t2,c]))=match (if (a==(pos.line:Int)&&b==(pos.col:Int))=true then some d else codeAmong pos r)with|some d=>some d|none=>_
  by_cases hh:(a==(pos.line:Int)&&b==(pos.col:Int))=true
  ·rw [if_pos hh,if_pos hh]
  ·rw [if_neg hh,if_neg hh];exact ih
theorem A1y {l:List Value}{a b:Int}{t1 t2:Tok}{c:Value}:TriplesOk l->TriplesOk (l++[.int a t1,.int b t2,c]):=by
 intro h
 match l,h with
 | [],_=>trivial
 | .int _ _:: .int _ _::d::r,h=>exact A1y (l:=r) h
section
variable {X:Cx}{pins:List (Addr×Obj)}{σ:St}{H:Hp}{s:Shared}{P c:Addr}{ps:Array Value}{qual:Str}{poss:List Pos}{params:Arguments}{body:Expr}{scope:Scope}{pos:Pos}{Q:Value->Shared->Prop}
end
section
variable {X:Cx}{g P c:Addr}{gd:FuncData}{k i:Nat}{pn x y:Str}{sp:List Env->List V->Hp->Heap->VK->Prop}{qual:Str}{poss:List Pos}{params:Arguments}{body:Expr}{scope:Scope}{pos p cpos:Pos}
end
section
variable {X:Cx}{pins:List (Addr×Obj)}{σ:St}{H:Hp}{s:Shared}{P c:Addr}{ps:Array Value}{qual:Str}{poss:List Pos}{params:Arguments}{body:Expr}{scope:Scope}{pos:Pos}{Q:Value->Shared->Prop}
end
structure A2f (X:Cx)(c P:Addr)(qual:Str)(poss:List Pos)(params:Arguments)(body:Expr)(scope:Scope)(pos:Pos)(ys:List Str):Prop where
 hs:X.stack=X.env::X.outer
 hf:X.env.frame=some X.env.locals
 hfn:X.fn=fun _=>true
 hcode:X.env.code= .ref c
 C:CodeHd X.base c P
 bm:fR X.mg X.base
 hpos:pos∈poss
 hap:∀q∈poss,q≠pos->((((pos.line:Nat):Int)==((q.line:Nat):Int)&&((pos.col:Nat):Int)==((q.col:Nat):Int)):Bool)=false
 hq:X.env.qual++ "<lambda>" =qual
 hdef:defaultsOf params X.env=([],[])
 hbind:∀cl pm c' ctv,bindArgs (kla_fn "<lambda>" qual params body scope cl pm (.ref c') ctv) ⟨[],[]⟩=pure []
 hco:scope.isCoroutine=false
 hgen:scope.isGenerator=false
 hk:scope.kind= .function
 hcell:∀x∈scope.names,x.2≠ .cell
 hfree:∀x∈scope.names,x.2= .free->x.1∈ys
 hys:∀y∈ys,scope.names.lookup y=some .free/\X.env.scope.names.lookup y=some .cell
section
variable {X:Cx}{g P c:Addr}{gd:FuncData}{k:Nat}{pn x:Str}{ys:List Str}{sp:List Env->List V->Hp->Heap->VK->Prop}{qual:Str}{poss:List Pos}{params:Arguments}{body:Expr}{scope:Scope}{pos p cpos:Pos}
end
def lM (P:Program)(w:World)(K:W.Frag)(mg:Str->Option Value)(base:Heap)(N:List Str)(qual:Str)(scope:Scope)(f:Addr)(cd:Value)(cl:List (Str×Addr))(A:Around)(outer:List Env)(s:Shared)(H:Hp)(E:XK):Cx where
 prog:=P
 w:=w
 K:=K
 mg:=mg
 base:=base
 A:=A.deeper (envX qual scope s.heap.objs.size f cd cl)
 N:=N
 s₀:=s
 H₀:=H
 env:=envX qual scope s.heap.objs.size f cd cl
 outer:=outer
 stack:=envX qual scope s.heap.objs.size f cd cl::outer
 ex:=[]
 calm:=true
 fn:=fun _=>false
 pn:=[]
 xe:=fun e s'=>wpAny (model P w) (A.deeper (envX qual scope s.heap.objs.size f cd cl)) (leaving (envX qual scope s.heap.objs.size f cd cl) e) (fun _ s''=>CXD P w outer H s E e s'') (fun e' s''=>CXD P w outer H s E e' s'') s'
section
variable {P:Program}{w:World}{K:W.Frag}{mg:Str->Option Value}{base:Heap}{N:List Str}{qual:Str}{scope:Scope}{f c':Addr}{cl:List (Str×Addr)}{A:Around}{outer:List Env}{s:Shared}{H:Hp}{E:XK}{Q:VK}{params:Arguments}{body:Expr}{pm ctv:Value}
theorem B1m {cd:Value}:iB (CXD P w) (lM P w K mg base N qual scope f cd cl A outer s H E) E:=by
 intro pins σ H1 s1 e s2 I h
 obtain⟨a,cls,d,H',rfl,F,hd,q⟩:=h
 exact yL (X:=lM P w K mg base N qual scope f cd cl A outer s H E) I rfl rfl rfl F hd fun h' F' hd'=> ⟨a,cls,d,H',rfl,F',hd',q⟩
theorem A4z {k:Nat}{σ:St}(hr:Room (k+1) A)(e0:Env0 P w K mg base A outer s H)(L:A3i s.heap H f qual params body scope cl pm ctv c')
  (hbind:bindArgs (kla_fn "<lambda>" qual params body scope cl pm (.ref c') ctv) ⟨[],[]⟩=pure [])(hco:scope.isCoroutine=false)(hgen:scope.isGenerator=false)(hk:scope.kind= .function)(hcell:∀x∈scope.names,x.2≠ .cell)
  (hhas:∀x,scope.names.lookup x=some .free->∃c,cl.lookup x=some c)(hinj:∀x y c,cl.lookup x=some c->cl.lookup y=some c->x=y)
  (hσ:∀(i:Nat)(x:Str)(v:V),N[i]?=some x->σ[i]?=some (some v)->∃c u,scope.names.lookup x=some .free/\cl.lookup x=some c/\s.heap.IsCell c (some u)/\RelV v u)(hlen:σ.length=N.length)
  (hbody:∃t,PE (lM P w K mg base N qual scope f (.ref c') cl A outer s H E) body t/\t σ H Q):
  codeAny (model P w) A (.call (.ref f) ⟨[],[]⟩) (CR (CXD P w) outer P w H s Q E) s:=by
 have lim:s.heap.NoLimit:=e0.mod.nolimit.keeps fun b o e=>(e0.bs b o e).1
 obtain⟨t,ht,hq⟩:=hbody
 refine kla_callFunE hr.depth L.fn rfl hco hgen rfl L.code ?_
 rw [hbind]
 refine wpAny_pure (wpAny_newFunctionEnv hcell (by intro y hy;simp at hy) (fun h₁ hns hsb=> ⟨lim.fresh _ hsb,?_⟩) hk)
 show codeAny _ _ (.expr body (envX qual scope s.heap.objs.size f (.ref c') cl)) _ _
 have keep:∀b o,s.heap.get? b=some o->h₁.get? b=some o:=fun b o e=>hsb.extBut b o (Nat.ne_of_lt (Heap.lt_size e)) (Heap.get?_push_of_some _ e)
 have noA:∀b:Addr,b∉(lM P w K mg base N qual scope f (.ref c') cl A outer s H E).ex:=fun b z=>absurd (show b∈([]:List Addr)from z) (by simp)
 have I:Inv (lM P w K mg base N qual scope f (.ref c') cl A outer s H E) [] σ H {s with heap:=h₁,toks:=s.toks+([]:List (Str×Value)).length}:=by
  refine⟨⟨e0.mod,hk,rfl,rfl,Nat.le_refl _,fun x y c h1 h2=>hinj x y c h1 h2,fun x hx=> ?_,fun x c z=>(Bool.false_ne_true z).elim,fun _=>hr.hd,Around.frames_deeper e0.frames,.inr ⟨rfl,rfl⟩,fun b z=>absurd z (noA b),e0.bs,e0.bsz,fun b _ _=>noA b,fun b z=>absurd z (noA b),e0.funs,e0.frf⟩,
   rfl,e0.bare,Un.kept keep,⟨_,hns,fun i x v h1 h2 h3=> ?_⟩,fun x c e=> ?_,e0.hok.fresh (Nat.le_refl _),fun x c e=>(L.cells x c e).2,fun p hp=>absurd (show p∈([]:List (Addr×Obj))from hp) (by simp),e0.hok.kept keep,hlen⟩
  ·have hx:scope.names.lookup x=some .cell\/scope.names.lookup x=some .free:=hx
   rcases hx with hx|hx
   ·exact absurd rfl (hcell _ (PySem.mem_of_lookup hx))
   ·exact hhas x hx
  ·obtain⟨c,u,e1,e2,⟨o,ho,hd⟩,r⟩:=hσ i x v h1 h2
   exact⟨u,r,.inr ⟨.inr e1,c,e2,o,keep _ _ ho,hd⟩⟩
  ·obtain⟨⟨v,o,ho,hd⟩,_⟩:=L.cells x c e
   exact⟨v,o,keep _ _ ho,hd⟩
 refine kla_codeExpr (wpAny_mono (ht [] _ σ H Q I hq) (fun u s' hs=> ?_) fun e s' hs=>hs)
 obtain⟨v,H',J,rv,q⟩:=hs
 exact⟨v,H',J.os,J.bare,J.base,J.hok,rv,q⟩
end
section
variable {P:Program}{w:World}{K:W.Frag}{mg:Str->Option Value}{base:Heap}
theorem Fun.okTryDS {x qual:Str}{st:Stmt}{f:Addr}{fd:FuncData}{N ps:List Str}{k:Nat}{sp:List Env->List V->Hp->Heap->VK->Prop}{body:List Stmt}{y n:Str}{i:Nat}{Cy:Addr}{b₀:Stmt}{suite:List Stmt}{np hp pos:Pos}(F:Fun K x qual st f fd)(S:bH N ps (aQ st))(len:∀o vs H h Q,sp o vs H h Q->vs.length=ps.length)
  (hst:bX st=[.Try body [.ExceptHandler (some (.Name y np)) (some n) (b₀::suite) hp] [] [] pos])(hy:(aQ st).names.lookup y=some .globalImplicit)(hm:mg y=some (.ref Cy))(hi:N[i]?=some n)(hn:(aQ st).names.lookup n=some .local)(hdb:(y==("__debug__":Str))=false)
  (hbody:∀(cdv:Value)(A:Around)(outer:List Env)(s:Shared)(H:Hp)(vs:List V)(Q:VK)(E:XK),Room k (A.deeper (envOfC qual (aQ st) s.heap.objs.size f cdv))->sp outer vs H s.heap Q->
   ∃(EX:XK)(t:TS)(tS:Addr->Obj->TS),PSs ((cN CX0 P w K mg base N qual (aQ st) f cdv A outer s H E).nox.wish (vC (cN CX0 P w K mg base N qual (aQ st) f cdv A outer s H E).nox EX)) body t/\
    (∀e oe,PSs ((cN CX0 P w K mg base N qual (aQ st) f cdv A outer s H E).nox.within e oe) (b₀::suite) (tS e oe))/\t {nx:=fun _ H'=>Q .non H',rt:=Q} (start N vs) H/\
    (∀cls d H',EX cls d H'->W.exmOne K cls (.ref Cy)=some true)/\∀e oe cls d H',oe.cls=cls->oe.dict=d->W.notCls oe=true->EX cls d H'->tS e oe {nx:=fun _ _=>False,rt:=Q} ((List.replicate N.length none).set i (some (.ref e))) H'):jY P w K mg base (k+1) f fd ps sp:=by
 refine⟨len,fun A outer s H args us vs Q E hr e0 hb r hsp=> ?_⟩
 have key:aR P w K mg base CX0 (k+1) f fd ps (fun vs' H' Q' _=>vs'=vs/\False):=⟨fun _ _ _ _ h=>h.2.elim,fun _ _ _ _ _ _ _ _ _ _ _ _ _ h=>h.2.elim⟩
 obtain⟨oc,od,kV,doc,pm,an,cdv,ct,osl,rfl,lk,hcd⟩:=F.ex
 obtain⟨EX,t,tS,h1,h2,h3,h4,h5⟩:=hbody cdv A outer s H vs Q E (hr.deeper _) hsp
 have key:∀(s1:Shared),Inv (cN CX0 P w K mg base N qual (aQ st) f cdv A outer s H E).nox [] (start N vs) H s1->
   wpAny (model P w) (A.deeper (envOfC qual (aQ st) s.heap.objs.size f cdv)) (execs (bX st) (envOfC qual (aQ st) s.heap.objs.size f cdv)) (SP (cN CX0 P w K mg base N qual (aQ st) f cdv A outer s H E).nox [] {nx:=fun _ H'=>Q .non H',rt:=Q}) (fun _ _=>False) s1:=fun s1 I=>by
  rw [hst]
  refine wpAny_execs_cons (thn (Q:=SP (cN CX0 P w K mg base N qual (aQ st) f cdv A outer s H E).nox [] {nx:=fun _ H'=>Q .non H',rt:=Q}) (wpAny_Try_except (wpAny_mono (h1 [] s1 (start N vs) H {nx:=fun _ H'=>Q .non H',rt:=Q} (I.wish _) h3) (fun fl s2 q2=> ?_) fun v s2 q2=> ?_)) fun fl s2 q2=> ?_)
  ·have q3:=SP.unwish q2
   cases fl with
   |next=>exact wpAny_execs_nil q3
   |ret u=>exact q3
   |brk=>exact q3
   |cont=>exact q3
  ·exact B2g (X:=(cN CX0 P w K mg base N qual (aQ st) f cdv A outer s H E).nox) (R:=Q) rfl rfl rfl rfl hy hm S.nd hi hn h4 h2 h5 hdb rfl q2
  ·cases fl with
   |next=>exact wpAny_execs_nil q2
   |ret u=>exact q2
   |brk=>exact q2
   |cont=>exact q2
 have hl:=len _ _ _ _ _ hsp
 have KX:K.In s.heap:=e0.mod.kin.keeps fun b o e=>(e0.bs b o e).1
 have lim:s.heap.NoLimit:=e0.mod.nolimit.keeps fun b o e=>(e0.bs b o e).1
 have hkind:∀z∈ps.zip us,(aQ st).names.lookup z.1=some .local\/((aQ st).names.lookup z.1=some .cell/\((cellsFrom (s.heap.objs.size+1) (aQ st).names []).lookup z.1).isSome=true):=fun⟨n,v⟩ hy=>by
  rcases S.par n (List.of_mem_zip hy).1 with q|q
  ·exact .inl q
  ·exact .inr ⟨q,W.cellsFrom_some _ _ _ (.inl q)⟩
 refine codeAny_call_function hr.depth (KX _ _ lk) rfl S.co S.gen rfl (W.codeRec_of KX hcd) (hb _ _ _ _ ?_)
 refine wpAny_newFunctionEnv_cells S.kind hkind fun env he s1 x=> ?_
 subst he
 refine⟨lim.keeps x.toInCall.keep,codeAny_func ?_⟩
 have I:Inv (cN CX0 P w K mg base N qual (aQ st) f cdv A outer s H E) [] (start N vs) H s1:=vV S hr.hd e0 hl r x
 refine wpAny_mono (key s1 (I.wish _)) (fun fl s' hs=> ?_) fun e s' hs=>hs.elim
 have fin:∀{σ':St}{H':Hp}{v:V}{u:Value},Inv (cN CX0 P w K mg base N qual (aQ st) f cdv A outer s H E).nox [] σ' H' s'->RelV v u->Q v H'->CE outer P w H s Q u s':=
  fun{σ' H' v u} J rv q=> ⟨v,H',J.os,J.bare,J.base,J.hok,rv,q⟩
 cases fl with
 |ret u=>
  obtain⟨v,σ',H',J,rv,q⟩:=hs
  exact fin J rv q
 |next=>
  obtain⟨σ',H',J,q⟩:=hs
  exact fin (v:=V.non) (u:=Value.none) J rfl q
 |brk=>
  obtain⟨_,_,_,q⟩:=hs
  exact False.elim q
 |cont=>
  obtain⟨_,_,_,q⟩:=hs
  exact False.elim q
end
section
variable {X:Cx}{pins:List (Addr×Obj)}{σ:St}{H:Hp}{s:Shared}{P c:Addr}{ps:Array Value}{qual:Str}{poss:List Pos}{params:Arguments}{body:Expr}{scope:Scope}{pos:Pos}{Q:Value->Shared->Prop}
def tT (X:Cx)(qual:Str)(params:Arguments)(body:Expr)(scope:Scope)(ys:List Str)(f:Addr)(H1:Hp)(h:Heap)(vs:List V):Prop:=
 FnAt f h/\H1 f=none/\f∉frs X.stack/\∃c' cl,∀(A:Around)(outer:List Env)(s':Shared)(Q:VK)(E:XK)(kk:Nat),Room (kk+1) A->Env0 X.prog X.w X.K X.mg X.base A outer s' H1->
  (∀b o,h.get? b=some o->H1 b=none->b∉frs X.stack->s'.heap.get? b=some o)->(∃t,PE (lM X.prog X.w X.K X.mg X.base ys qual scope f (.ref c') cl A outer s' H1 E) body t/\t (vs.map some) H1 Q)->
  codeAny (model X.prog X.w) A (.call (.ref f) ⟨[],[]⟩) (CR (CXD X.prog X.w) outer X.prog X.w H1 s' Q E) s'
theorem B08 {ys:List Str}{vs:List V}(I:Inv X pins σ H s)(hs:X.stack=X.env::X.outer)(hf:X.env.frame=some X.env.locals)(hfn:X.fn=fun _=>true)(hcode:X.env.code= .ref c)(C:CodeHd X.base c P)(bm:fR X.mg X.base)(T:TabI H P ps qual poss)(hpos:pos∈poss)(hap:∀q∈poss,q≠pos->((((pos.line:Nat):Int)==((q.line:Nat):Int)&&((pos.col:Nat):Int)==((q.col:Nat):Int)):Bool)=false)(hq:X.env.qual++ "<lambda>" =qual)
  (hdef:defaultsOf params X.env=([],[]))(hbind:∀cl pm c' ctv,bindArgs (kla_fn "<lambda>" qual params body scope cl pm (.ref c') ctv) ⟨[],[]⟩=pure [])(hco:scope.isCoroutine=false)(hgen:scope.isGenerator=false)(hk:scope.kind= .function)(hcell:∀x∈scope.names,x.2≠ .cell)
  (hfree:∀x∈scope.names,x.2= .free->x.1∈ys)(hys:∀y∈ys,scope.names.lookup y=some .free/\X.env.scope.names.lookup y=some .cell)(hlen:vs.length=ys.length)(hv:∀(j:Nat)(y:Str)(v:V),ys[j]?=some y->vs[j]?=some v->∃i:Nat,X.N[i]?=some y/\σ[i]?=some (some v))
  (k:∀f ps' H1 s1,Inv X pins σ H1 s1->jX P H H1->TabI H1 P ps' qual poss->tT X qual params body scope ys f H1 s1.heap vs->Q (.ref f) s1):wpAny (model X.prog X.w) X.A (eval (.Lambda params body scope pos) X.env) Q X.xe s:=by
 obtain⟨cl,hclos,hc1,hc2⟩:=zJ (env:=X.env) (scope:=scope) fun x hx hf=>by
  exact I.ok.has _ (.inl (hys _ (hfree x hx hf)).2)
 have hP:s.heap.get? P=some (tabObj ps):=I.hok P _ T.at'
 have hg:s.heap.Ns mainGlobals X.mg:=I.mod.glob.keeps I.bk
 have CS:CodeHd s.heap c P:=C.keeps I.bk
 obtain⟨b,ob,b1,b2,b3,b4,b5,b6⟩:=bm
 have hgP:mainGlobals≠P:=fun z=>by
  obtain⟨o,es,ep,e,hd,_⟩:=hg
  rw [z,hP]at e;cases e;cases hd
 have hbP:b≠P:=fun z=>by
  have:=I.bk _ _ b3
  rw [z,hP]at this;cases this;cases b4
 have hbG:b≠mainGlobals:=fun z=>by
  obtain⟨o,es,ep,e,hd,_⟩:=hg
  have:=I.bk _ _ b3
  rw [z,e]at this;cases this;rw [hd]at b6;cases b6
 have hb:s.heap.BuiltinsAt X.mg P:=⟨b,ob,b1,b2,hbG,hbP,I.bk _ _ b3,b4,b5,b6⟩
 obtain⟨m,hm,hl⟩:=I.loc
 have nm:∀(j:Nat)(y:Str)(v:V),ys[j]?=some y->vs[j]?=some v->∃cc u,X.env.cells.lookup y=some cc/\s.heap.IsCell cc (some u)/\RelV v u/\cl.lookup y=some cc:=fun j y v e1 e2=>by
  obtain⟨i,hN,hσ⟩:=hv j y v e1 e2
  obtain⟨hy,hyX⟩:=hys y (List.mem_of_getElem? e1)
  obtain⟨u,ru,lk⟩:=hl i y v hN hσ (.inr (.inl hyX))
  obtain⟨cc,hcc,hcellv⟩:∃cc,X.env.cells.lookup y=some cc/\s.heap.IsCell cc (some u):=by
   rcases lk with⟨z,_⟩| ⟨_,cc,e1,e2⟩
   ·have z':X.env.scope.names.lookup y=some .local:=z
    rw [hyX]at z';cases z'
   ·exact⟨cc,e1,e2⟩
  refine⟨cc,u,hcc,hcellv,ru,?_⟩
  obtain⟨d,hd⟩:=hc2 y (PySem.mem_of_lookup hy)
  have:=hc1 y d hd
  rw [hcc]at this;rw [hd,this]
 have cabove:∀x d,X.env.cells.lookup x=some d->d∉frs X.stack:=fun x d e hb=>by
  rcases List.mem_cons.mp (I.stkSub d hb)with z|z
  ·exact I.cne x d e z
  ·have:=I.ok.cab x d (by rw [hfn]) e
   obtain⟨_,o,ho,_⟩:=I.ok.funs.mem z
   exact absurd (Nat.lt_of_lt_of_le (Heap.lt_size ho) this) (Nat.lt_irrefl _)
 have fresh:∀d,s.heap.objs.size<=d->d∉frs X.stack:=fun d hd hb=>by
  obtain⟨_,o,ho,_⟩:=I.stack.mem hb
  exact absurd (Nat.lt_of_lt_of_le (Heap.lt_size ho) hd) (Nat.lt_irrefl _)
 have runs:∀(f c':Addr)(ctv:Value)(H1:Hp)(h1:Heap),h1.get? f=some (kla_obj "<lambda>" qual params body scope cl ((X.mg "__name__").getD .none) c' ctv)->H1 f=none->s.heap.objs.size<=f->H1 c'=some (cdO c' qual)->(∀x d,X.env.cells.lookup x=some d->(∃w',h1.IsCell d w')/\H1 d=none)->(∀x d u,X.env.cells.lookup x=some d->s.heap.IsCell d (some u)->h1.IsCell d (some u))->tT X qual params body scope ys f H1 h1 vs:=by
  intro f c' ctv H1 h1 e1 e2 e3 e4 e5 e6
  refine⟨⟨_,_,_,_,e1⟩,e2,fresh f e3,c',cl,fun A outer s' Q' E kk hr e0 kept hbody=> ?_⟩
  have hcd:s'.heap.CodeRec (.ref c') qual:=by
   obtain⟨⟨o,vs,t,x1,x2,x3⟩,_⟩:=e0.hok c' _ e4
   exact⟨c',o,vs,t,rfl,x1,x2,x3⟩
  have kc:∀{d:Addr}{w':Option Value},H1 d=none->d∉frs X.stack->h1.IsCell d w'->s'.heap.IsCell d w':=fun h1' h2' ⟨o,ho,hd⟩=> ⟨o,kept _ _ ho h1' h2',hd⟩
  refine A4z hr e0 ⟨kept _ _ e1 e2 (fresh f e3),hcd,fun x d e=> ?_⟩ (hbind _ _ _ _) hco hgen hk hcell (fun x hx=>hc2 x (PySem.mem_of_lookup hx)) (fun x y' d z1 z2=>I.ok.inj x y' d (hc1 x d z1) (hc1 y' d z2)) (fun j x w' h1' h2'=> ?_) (by rw [List.length_map];exact hlen) hbody
  ·obtain⟨⟨w',x1⟩,x2⟩:=e5 x d (hc1 x d e)
   exact⟨⟨w',kc x2 (cabove x d (hc1 x d e)) x1⟩,x2⟩
  ·rw [List.getElem?_map]at h2'
   cases hvj:vs[j]? with
   |none=>rw [hvj]at h2';cases h2'
   |some v'=>
    rw [hvj]at h2'
    cases h2'
    obtain⟨cc,u,hcc,hcv,ru,hclY⟩:=nm j x _ h1' hvj
    exact⟨cc,u,(hys x (List.mem_of_getElem? h1')).1,hclY,kc (e5 x cc hcc).2 (cabove x cc hcc) (e6 x cc u hcc hcv),ru⟩
 refine kla_eval hdef ?_
 rw [hq]
 rcases T.cd pos hpos with hnf| ⟨c',hhit,hc'⟩
 ·refine kla_makeFunction (mg:=X.mg) hclos I.ok.glob hg hcode CS hP T.tr hnf hgP hb fun c' ctv h' tk hx hge hlt hrec htb=> ?_
  have hsz:s.heap.objs.size<=h'.objs.size:=Nat.le_of_lt (Nat.lt_of_le_of_lt hge hlt)
  have hPlt:P<s.heap.objs.size:=Heap.lt_size hP
  have hcP:c'≠P:=fun z=>by rw [z]at hge;exact absurd (Nat.lt_of_lt_of_le hPlt hge) (Nat.lt_irrefl _)
  have keep:∀b o,b≠P->s.heap.get? b=some o->(h'.push (kla_obj "<lambda>" qual params body scope cl ((X.mg "__name__").getD .none) c' ctv)).get? b=some o:=fun b o hb e=>Heap.get?_push_of_some _ (hx b o hb e)
  have nP:∀b,H b=none->b≠P:=fun b n z=>by rw [z,T.at']at n;cases n
  have hcn:H c'=none:=I.hok.fresh hge
  have hfn':H h'.objs.size=none:=I.hok.fresh hsz
  generalize hnew:ps++ #[rawInt pos.line,rawInt pos.col,.ref c']=ps' at htb
  generalize hH1:upd (upd H P (.tbl ps')) c' (cdO c' qual)=H1
  have g1:jX P H H1:=fun b w' hb e=>by
   rw [←hH1,aS (cB e hcn),aS hb];exact e
  have gP:H1 P=some (.tbl ps'):=by rw [←hH1,aS hcP.symm,aI]
  have gc:H1 c'=some (cdO c' qual):=by rw [←hH1,aI]
  have gn:∀b,H b=none->b≠c'->H1 b=none:=fun b n hb=>by rw [←hH1,aS hb,aS (nP b n)];exact n
  have gof:∀b w',H1 b=some w'->b≠P->b≠c'->H b=some w':=fun b w' e h1 h2=>by rw [←hH1,aS h2,aS h1]at e;exact e
  obtain⟨c2,oc,vs,tt,e2,hoc,hdc,hvc⟩:=hrec
  cases e2
  have hokF:HOk X.prog X.w H1 (h'.push (kla_obj "<lambda>" qual params body scope cl ((X.mg "__name__").getD .none) c' ctv)):=fun b w' e=>by
   by_cases hbP':b=P
   ·rw [hbP',gP]at e;cases e
    rw [hbP']
    show(h'.push _).get? P=some _
    exact Heap.get?_push_of_some _ htb
   ·by_cases hbc:b=c'
    ·rw [hbc,gc]at e;cases e
     rw [hbc]
     refine⟨⟨oc,vs,tt,Heap.get?_push_of_some _ hoc,hdc,hvc⟩,⟨oc,Heap.get?_push_of_some _ hoc⟩,fun h1 h2 ⟨o,vs',t',x1,x2,x3⟩ kk=> ⟨o,vs',t',kk o x1,x2,x3⟩⟩
    ·have e':=gof b w' e hbP' hbc
     refine(I.hok b w' e').stay (fun d w'' hd q=>keep d w'' (fun z=> ?_) q) (fun d q=> ?_) fun d xs q=> ?_
     ·rcases hd with z'|z'
      ·exact hbP' (z'.symm.trans z)
      ·rw [z,T.at']at z';cases z'
     ·refine g1 d _ (fun z=> ?_) q
      rw [z,T.at']at q;cases q
     ·refine g1 d _ (fun z=> ?_) q
      rw [z,T.at']at q;cases q
  have I1:Inv X pins σ H1 {s with heap:=h'.push (kla_obj "<lambda>" qual params body scope cl ((X.mg "__name__").getD .none) c' ctv),toks:=tk}:=by
   refine I.un (t':=tk) ⟨fun b o q n _ _=>keep b o (nP b n) q,fun b o q n _ _=> ⟨o.slots,keep b o (nP b n) q⟩,fun b o q n _=>gn b n (fun z=> ?_),fun b o q _=> ?_,fun b xs q=>g1 b _ (fun z=> ?_) q,fun b o w' q=>g1 b _ (fun z=> ?_) q,fun b qs q=> ?_⟩ hokF
   ·have:=Heap.lt_size q
    rw [z]at this;exact absurd (Nat.lt_of_lt_of_le this hge) (Nat.lt_irrefl _)
   ·by_cases hbP':b=P
    ·exact⟨_,by rw [hbP'];exact Heap.get?_push_of_some _ htb⟩
    ·exact⟨o,keep b o hbP' q⟩
   ·rw [z,T.at']at q;cases q
   ·rw [z,T.at']at q;cases q
   ·by_cases hbP':b=P
    ·rw [hbP',T.at']at q;cases q
     exact⟨#[rawInt pos.line,rawInt pos.col,.ref c'],by rw [hbP',gP,hnew]⟩
    ·exact⟨#[],by rw [g1 b _ hbP' q];simp⟩
  refine k _ ps' H1 _ I1 g1 ⟨gP,?_,fun q hq'=> ?_⟩ (runs _ c' ctv H1 _ (Heap.get?_push_size _ rfl) (gn _ hfn' (Nat.ne_of_gt hlt)) hsz gc (fun x d e=> ?_) fun x d u e hcv=> ?_)
  ·rw [←hnew,Array.toList_append]
   exact A1y T.tr
  ·rw [←hnew,Array.toList_append]
   have eqA:codeAmong q (ps.toList++ #[rawInt pos.line,rawInt pos.col,Value.ref c'].toList)=_:=zB (pos:=q) (pos':=pos) (c:=.ref c') T.tr
   rw [eqA]
   by_cases hqp:q=pos
   ·subst hqp
    rw [hnf]
    refine .inr ⟨c',?_,gc⟩
    dsimp only
    rw [if_pos (by simp)]
   ·rcases T.cd q hq' with z| ⟨d,z1,z2⟩
    ·rw [z]
     refine .inl ?_
     dsimp only
     rw [if_neg (by rw [hap q hq' hqp];decide)]
    ·rw [z1]
     refine .inr ⟨d,rfl,g1 d _ (fun z=> ?_) z2⟩
     rw [z,T.at']at z2;cases z2
  ·obtain⟨w',o,ho,hd⟩:=I.cell x d e
   have hdn:=I.freeC x d e
   refine⟨⟨w',o,keep d o (nP d hdn) ho,hd⟩,gn d hdn fun z=> ?_⟩
   have:=Heap.lt_size ho
   rw [z]at this;exact absurd (Nat.lt_of_lt_of_le this hge) (Nat.lt_irrefl _)
  ·obtain⟨o,ho,hd⟩:=hcv
   exact⟨o,keep d o (nP d (I.freeC x d e)) ho,hd⟩
 ·refine kla_makeFunctionHit (mg:=X.mg) hclos I.ok.glob hg hcode CS hP T.tr hhit hb fun ctv h' tk hkp hsz=> ?_
  have hfn':H h'.objs.size=none:=I.hok.fresh hsz
  have I1:Inv X pins σ H {s with heap:=h'.push {cls:=.type "function",data:=.func (kla_fn "<lambda>" qual params body scope cl ((X.mg "__name__").getD .none) (.ref c') ctv)},toks:=tk}:=I.kept (t':=tk) fun b o e=>Heap.get?_push_of_some _ (hkp b o e)
  refine k _ ps H _ I1 (fun b w' _ e=>e) T (runs _ c' ctv H _ (Heap.get?_push_size _ rfl) hfn' hsz hc' (fun x d e=> ?_) fun x d u e hcv=> ?_)
  ·obtain⟨w',o,ho,hd⟩:=I.cell x d e
   exact⟨⟨w',o,Heap.get?_push_of_some _ (hkp _ _ ho),hd⟩,I.freeC x d e⟩
  ·obtain⟨o,ho,hd⟩:=hcv
   exact⟨o,Heap.get?_push_of_some _ (hkp _ _ ho),hd⟩
end
section
variable {X:Cx}{g P c:Addr}{gd:FuncData}{k:Nat}{pn x:Str}{ys:List Str}{sp:List Env->List V->Hp->Heap->VK->Prop}{qual:Str}{poss:List Pos}{params:Arguments}{body:Expr}{scope:Scope}{pos p cpos:Pos}
theorem A6v (F:jY X.prog X.w X.K X.mg X.base k g gd [pn] sp)(hr:Room k X.A)(hg:Gl X x)(hm:X.mg x=some (.ref g))(hkp:keepIn X.K (.ref g)=true)(hb:Binds X.K gd [pn] [])(L:A2f X c P qual poss params body scope pos ys)(hdb:(x==("__debug__":Str))=false:=by decide)
  (he:starEach [.Lambda params body scope pos] X.env=[(false,eval (.Lambda params body scope pos) X.env)]:=by rfl):
  PE X (.Call (.Name x p) [.Lambda params body scope pos] [] cpos) (fun σ H Q=> ∃(ps:Array Value)(vs:List V),TabI H P ps qual poss/\vs.length=ys.length/\(∀(j:Nat)(y:Str)(v:V),ys[j]?=some y->vs[j]?=some v->∃i:Nat,X.N[i]?=some y/\σ[i]?=some (some v))/\∀f ps' H1 h,jX P H H1->TabI H1 P ps' qual poss->tT X qual params body scope ys f H1 h vs->sp X.stack [.ref f] H1 h Q):=by
 intro pins s σ H Q I h
 obtain⟨ps,vs,T,hlen,hv,h⟩:=h
 refine wpAny_Call_Name_kw (jV I hg hm ?_ hdb)
 refine W.callWith_K (h₀:=X.base) I.ok.mod.kin hkp ?_ (by rw [he];rfl) rfl
 rw [he]
 show wpAny _ _ (spliced ((false,eval (.Lambda params body scope pos) X.env)::backTo cpos (starEach [] X.env))) _ _ s
 refine Calls.spliced_cons (B08 I L.hs L.hf L.hfn L.hcode L.C L.bm T L.hpos L.hap L.hq L.hdef L.hbind L.hco L.hgen L.hk L.hcell L.hfree L.hys hlen hv fun f ps' H1 s1 I1 g1 T1 R=> ?_)
 refine Calls.spliced_nil ⟨I1.kIn,?_⟩
 have q:=h f ps' H1 s1.heap g1 T1 R
 refine wpAny_call (codeAny_mono (F.run X.A X.stack s1 H1 ⟨[.ref f],[]⟩ [.ref f] [.ref f] Q E0 hr I1.env0 (by have:=hb s1 [.ref f] I1.kIn rfl;exact this) (.cons rfl .nil) q) fun r s' hq=> ?_)
 cases r with
 |error e=>exact False.elim hq
 |ok fl=>
  cases fl with
  |ret u=>exact I1.after hq
  |next=>exact False.elim hq
  |brk=>exact False.elim hq
  |cont=>exact False.elim hq
end
end L2
namespace M04
open PySem L2 PyProof.Rows
def A8a (P:Program)(w:World)(K:W.Frag)(mg:Str->Option Value)(base:Heap)(o:List Env)(f:Addr)(H:Hp)(h:Heap)(R:VK)(X:XK):Prop:=
 ∀(A:Around)(outer:List Env)(s':Shared)(Q:VK)(E:XK),Room 10 A->Env0 P w K mg base A outer s' H->(∀b o',h.get? b=some o'->H b=none->b∉frs o->s'.heap.get? b=some o')->(∀v H',R v H'->Q v H')->(∀cls d H',X cls d H'->E cls d H')->
  codeAny (model P w) A (.call (.ref f) ⟨[],[]⟩) (CR (CXD P w) outer P w H s' Q E) s'
structure TM (K:W.Frag)(D:Addr):Prop where
 a:gS K D
 n1:NoAttr K D "many"
 n2:NoAttr K D "most"
def xQ (K:W.Frag)(c:Nat->Addr)(cE:Addr)(Q:VK):XK:=fun cls d H'=> ∃D j,cls= .ref D/\hV K c cE D j/\
  ((j=15/\TM K D/\∃dd m n,d=some dd/\H' dd=some (xdO dd (xF m n))/\∀t H2,Same H' H2->H2 t=some (.tup [.str "no",.str "many",.int m,.int n])->Q (.ref t) H2)\/
   (j≠15/\∀t H2,Same H' H2->H2 t=some (.tup [.str "no",.str (wd j)])->Q (.ref t) H2))
def mI (P:Program)(w:World)(K:W.Frag)(mg:Str->Option Value)(base:Heap)(c:Nat->Addr)(cE:Addr):List Env->List V->Hp->Heap->VK->Prop:=fun o vs H h Q=> ∃f R,vs=[.ref f]/\W.FnAt f h/\H f=none/\f∉frs o/\A8a P w K mg base o f H h R (xQ K c cE Q)/\
 ∀v H',R v H'->∀t,H' t=none->Q (.ref t) (upd H' t (.tup [.str "told",v]))
section
variable {P:Program}{w:World}{K:W.Frag}{mg:Str->Option Value}{base:Heap}
abbrev wM:List Str:=["_law_call_here","_law_e"]
theorem scCame:bH wM ["_law_call_here"] (aQ kQ):=by ac_rfl
def A7h (s:Stmt):List Stmt:=match bX s with| [.Try _ [.ExceptHandler _ _ b _] _ _ _]=>b|_=> []
theorem A81 {f gW cE:Addr}{c:Nat->Addr}{fd dW:FuncData}(F:Fun K "_law_came" "_law_came" kQ f fd)(T:Txt mg)(mE:mg "MeadError" =some (.ref cE))(N:tI mg c)
    (nW:mg "_law_word" =some (.ref gW))(kW:W.keepIn K (.ref gW)=true)(bW:L2.Binds K dW ["_law_e"] [])(oW:oG P w K mg base 2 gW dW ["_law_e"] (vT K c cE)):jY P w K mg base 11 f fd ["_law_call_here"] (mI P w K mg base c cE):=by
  have nd:=scCame.nd
  refine F.okTryDS (i:=1) (Cy:=cE) scCame (fun o vs H h Q z=> ?_) rfl rfl mE rfl rfl (by decide) (fun cdv A outer s H vs Q E hr h=> ?_)
  · obtain⟨g,R,rfl,_⟩:=z;rfl
  · obtain⟨g,R,rfl,hF,hH,hfr,hR,q⟩:=h
    have hS:∀(e:Addr)(oe:Obj)(D:Addr)(cD:jE K D),∃tt,PSs ((cN CX0 P w K mg base wM "_law_came" (aQ kQ) f cdv A outer s H E).nox.within e oe) (A7h kQ) tt/\
        ∀j d H',oe.cls= .ref D->oe.dict=d->W.notCls oe=true->hV K c cE D j->((j=15/\TM K D/\∃dd m n,d=some dd/\H' dd=some (xdO dd (xF m n))/\∀t H2,Same H' H2->H2 t=some (.tup [.str "no",.str "many",.int m,.int n])->Q (.ref t) H2)\/
   (j≠15/\∀t H2,Same H' H2->H2 t=some (.tup [.str "no",.str (wd j)])->Q (.ref t) H2))->tt {nx:=fun _ _=>False,rt:=Q} [none,some (.ref e)] H':=fun e oe D cD=>by
      refine⟨_,aW (bU (cU (bB (dZ cD) rfl T.isinstance boot_isinstance (aG (pv 1) (aG (bZ (v:=.ref (c 15)) rfl N.m15 rfl) aF))))
        (aV (aZ (dF (bS cX (bQ (A09 oW (hr.mono (by decide)) rfl nW kW bW (aG (pv 1) aF)) (bD (yG (pv 1) rfl) (bD (yG (pv 1) rfl) aF))))))) bT)<|
        aV (aZ (dF (bS cX (bQ (A09 oW (hr.mono (by decide)) rfl nW kW bW (aG (pv 1) aF)) aF)))),fun j d H' hc hdd hnc cl hq=> ?_⟩
      refine⟨_,rfl,hc,.inl ⟨c 15,_,rfl,cl.k 15 (by decide),_,rfl,dQ (fun z=> ?_) fun z=> ?_⟩⟩
      · have hj:j=15:=by have:=of_decide_eq_true z;omega
        rcases hq with⟨_,tm,dd,m,n,rfl,hd,hq⟩| ⟨hne,_⟩
        · refine⟨_,rfl,D,j,rfl,hc,cl,fun H2 s2=> ?_⟩
          have hd2:=s2 _ _ hd
          refine⟨_,rfl,D,dd,_,.int m,rfl,hc,hdd,hnc,tm.a,tm.n1,hd2,rfl,?_⟩
          refine⟨_,rfl,D,dd,_,.int n,rfl,hc,hdd,hnc,tm.a,tm.n2,hd2,rfl,?_⟩
          refine⟨by show 4<=sizeLine;decide,fun t ht=> ?_⟩
          subst hj
          exact hq t _ (s2.trans (aJ ht)) aI
        · exact absurd hj hne
      · have hj:j≠15:=by have:=of_decide_eq_false z;omega
        rcases hq with⟨h15,_⟩| ⟨_,hq⟩
        · exact absurd h15 hj
        · refine⟨_,rfl,D,j,rfl,hc,cl,fun H2 s2=> ?_⟩
          refine⟨by show 2<=sizeLine;decide,fun t ht=> ?_⟩
          exact hq t _ (s2.trans (aJ ht)) aI
    refine⟨xQ K c cE Q,_,fun e oe=>fun DD σ H'=> ∃(D:Addr)(cD:jE K D),(hS e oe D cD).choose DD σ H',aV (aZ (dF (bS cX (bQ (A7r (i:=0) rfl (Or.inl rfl) A6i) aF)))),fun e oe=>fun pins s' σ H' DD I ⟨D,cD,h⟩=>(hS e oe D cD).choose_spec.1 pins s' σ H' DD I h,?_,?_,?_⟩
    · refine⟨g,rfl,fun pins s' I=> ?_⟩
      have keep:∀b o',s.heap.get? b=some o'->H b=none->b∉frs outer->s'.heap.get? b=some o':=fun b o' e1 e2 e3=>I.base.keep b o' e1 e2 e3 (fun z=>by cases z)
      refine⟨?_,hR _ _ s' _ _ hr I.env0 keep (fun v H' h=> ⟨by show 2<=sizeLine;decide,fun t ht=>q v H' h t ht⟩) fun _ _ _ h=>h⟩
      obtain⟨oc,od,fd',sl,e1⟩:=hF
      exact⟨oc,od,fd',sl,keep _ _ e1 hH hfr⟩
    · rintro cls d H' ⟨D,j,rfl,cl,_⟩
      exact cl.x
    · rintro e oe cls d H' hc hd hnc ⟨D,j,rfl,cl,hq⟩
      exact⟨D,cl.d,(hS e oe D cl.d).choose_spec.2 j d H' hc hd hnc cl hq⟩
end
end M04
namespace Set4
open PySem PyProof.Rows
def L (b0 b1 b2 b3:Bool):List Nat:=(cond b0 [0] [])++((cond b1 [1] [])++((cond b2 [2] [])++(cond b3 [3] [])))
def mem4 (S:Nat->Bool):List Nat:=L (S 0) (S 1) (S 2) (S 3)
def ents (l:List Nat)(f:Nat->Value):Array (Int×Value):=(l.map fun k:Nat=>((k:Int),f k)).toArray
def tab (l:List Nat)(led:Bool):SetTable:={mask:=7,place:=l.toArray,dummies:=#[],finger:=0,led:=led,moves:=0,plain:=true}
def plus (S:Nat->Bool)(k:Nat):Nat->Bool:=fun j=>S j||decide (j=k)
def cT (f:Nat->Value)(k:Nat)(x:Value):Nat->Value:=fun j=>if j=k then x else f j
theorem A9l (b1 b2 b3 led:Bool)(f:Nat->Value)(x:Value):layNew (tab (L false b1 b2 b3) led) (ents (L false b1 b2 b3) f) ((0:Nat):Int) x=(ents (L true b1 b2 b3) (cT f 0 x),tab (L true b1 b2 b3) led,false,false):=by cases b1<;>cases b2<;>cases b3<;>kernel_rfl
theorem A9i (b0 b2 b3 led:Bool)(f:Nat->Value)(x:Value):layNew (tab (L b0 false b2 b3) led) (ents (L b0 false b2 b3) f) ((1:Nat):Int) x=(ents (L b0 true b2 b3) (cT f 1 x),tab (L b0 true b2 b3) led,false,false):=by cases b0<;>cases b2<;>cases b3<;>kernel_rfl
theorem A5o (b0 b1 b3 led:Bool)(f:Nat->Value)(x:Value):layNew (tab (L b0 b1 false b3) led) (ents (L b0 b1 false b3) f) ((2:Nat):Int) x=(ents (L b0 b1 true b3) (cT f 2 x),tab (L b0 b1 true b3) led,false,false):=by cases b0<;>cases b1<;>cases b3<;>kernel_rfl
theorem A3b (b0 b1 b2 led:Bool)(f:Nat->Value)(x:Value):layNew (tab (L b0 b1 b2 false) led) (ents (L b0 b1 b2 false) f) ((3:Nat):Int) x=(ents (L b0 b1 b2 true) (cT f 3 x),tab (L b0 b1 b2 true) led,false,false):=by cases b0<;>cases b1<;>cases b2<;>kernel_rfl
theorem A2v (S:Nat->Bool)(led:Bool)(f:Nat->Value)(x:Value)(k:Nat)(hk:k<4)(hs:S k=false):layNew (tab (mem4 S) led) (ents (mem4 S) f) (k:Int) x=(ents (mem4 (plus S k)) (cT f k x),tab (mem4 (plus S k)) led,false,false):=by
 unfold mem4 plus
 match k,hk with
 |0,_=>rw [hs];simpa using A9l (S 1) (S 2) (S 3) led f x
 |1,_=>rw [hs];simpa using A9i (S 0) (S 2) (S 3) led f x
 |2,_=>rw [hs];simpa using A5o (S 0) (S 1) (S 3) led f x
 |3,_=>rw [hs];simpa using A3b (S 0) (S 1) (S 2) led f x
theorem nU (b0 b1 b2 b3:Bool):(L b0 b1 b2 b3).length<=4:=by cases b0<;>cases b1<;>cases b2<;>cases b3<;>decide
theorem kU (l:List Nat)(f:Nat->Value):(ents l f).size=l.length:=by simp [ents]
theorem oO (S:Nat->Bool)(led:Bool)(f:Nat->Value):(tab (mem4 S) led).fits (ents (mem4 S) f).size=true:=by
 rw [kU];unfold mem4
 cases S 0<;>cases S 1<;>cases S 2<;>cases S 3<;>kernel_rfl
theorem A22 (S:Nat->Bool)(led:Bool):(tab (mem4 S) led).tooFull=false:=by
 unfold mem4
 cases S 0<;>cases S 1<;>cases S 2<;>cases S 3<;>kernel_rfl
theorem rA {b:Bool}{i k:Nat}:k∈cond b [i] []↔b=true/\k=i:=by cases b<;>simp
theorem mem_mem4 {S:Nat->Bool}{k:Nat}:k∈mem4 S↔k<4/\S k=true:=by
 unfold mem4 L
 rw [List.mem_append,List.mem_append,List.mem_append,rA,rA,rA,rA]
 constructor
 ·rintro(⟨h,rfl⟩| ⟨h,rfl⟩| ⟨h,rfl⟩| ⟨h,rfl⟩)<;>exact⟨by decide,h⟩
 ·rintro⟨hk,hs⟩
  match k,hk with
  |0,_=>exact .inl ⟨hs,rfl⟩
  |1,_=>exact .inr (.inl ⟨hs,rfl⟩)
  |2,_=>exact .inr (.inr (.inl ⟨hs,rfl⟩))
  |3,_=>exact .inr (.inr (.inr ⟨hs,rfl⟩))
def bM (S:Nat->Bool)(f:Nat->Value)(led:Bool)(ep:Nat):Obj:={cls:=.type "set",dict:=none,data:=.set (ents (mem4 S) f) ep (tab (mem4 S) led)}
def IsS4 (h:Heap)(a:Addr)(S:Nat->Bool)(led:Bool):Prop:=∃f ep,(∀k,k<4->S k=true->∃t,f k=Value.int k t)/\h.get? a=some (bM S f led ep)
theorem zY (k:Nat)(hk:k<4):hashInt (k:Int)=(k:Int):=by
 match k,hk with
 |0,_=>rfl
 |1,_=>rfl
 |2,_=>rfl
 |3,_=>rfl
section
variable {prog:Program}{w:World}{A:Around}{E:Value->Shared->Prop}{s:Shared}
theorem A8w {S:Nat->Bool}{f:Nat->Value}(hf:∀k,k<4->S k=true->∃t,f k=Value.int k t):ElemsOf (intKind prog w) (ents (mem4 S) f).toList:=by
 intro e he
 have he':e∈(mem4 S).map fun k:Nat=>((k:Int),f k):=by simpa [ents]using he
 obtain⟨k,hk,rfl⟩:=List.mem_map.mp he'
 obtain⟨h1,h2⟩:=mem_mem4.mp hk
 obtain⟨t,ht⟩:=hf k h1 h2
 refine⟨⟨(k:Int),?_,?_⟩,?_⟩
 ·show(intKind prog w).is (k:Int) (f k)=true
  rw [ht];exact intKind_is _ _ _ _
 ·exact(zY k h1).symm
 ·show(f k).scannable=true
  rw [ht];rfl
theorem B0i {a:Addr}{S:Nat->Bool}{led:Bool}{k:Nat}{t:Tok}{Q:Bool->Shared->Prop}(hS:IsS4 s.heap a S led)(hk:k<4)(h:∀b h',Heap.SameBut a s.heap h'->IsS4 h' a (plus S k) led->Q b {s with heap:=h'}):
  wpAny (model prog w) A (setAddHashed a (.int (k:Int) t) (hashInt (k:Int))) Q E s:=by
 obtain⟨f,ep,hf,ho⟩:=hS
 have hel:ElemsOf (intKind prog w) (ents (mem4 S) f).toList:=A8w hf
 have hfit:=oO S led f
 have hz:(ents (mem4 S) f).size<scanBound:=by
  rw [kU];have:=nU (S 0) (S 1) (S 2) (S 3)
  show(L (S 0) (S 1) (S 2) (S 3)).length<4096;omega
 have hd:(bM S f led ep).data= .set (ents (mem4 S) f) ep (tab (mem4 S) led):=rfl
 have hkey:(intKind prog w).is (k:Int) (Value.int (k:Int) t)=true:=intKind_is _ _ _ _
 unfold setAddHashed setAddHashedIn
 refine wpAny_holding (wpAny_bind (wpAny_setState_of ho hd hfit ?_));dsimp only
 rw [byScan_of (knd:=intKind prog w) rfl hz hel];simp only [↓reduceIte];unfold setAddByScan
 refine wpAny_bind (wpAny_bind (wpAny_rule (wpAny_bind (wpAny_setScan_of (knd:=intKind prog w) hkey ho hd hfit hel ?_))))
 cases hSk:S k with
 |true=>
  have:∃j,List.findIdx? (fun e=>(intKind prog w).is (k:Int) e.2) (ents (mem4 S) f).toList=some j:=by
   cases hr:List.findIdx? (fun e=>(intKind prog w).is (k:Int) e.2) (ents (mem4 S) f).toList with
   |some j=>exact⟨j,rfl⟩
   |none=>
    obtain⟨t',ht'⟩:=hf k hk hSk
    have hm:((k:Int),f k)∈(ents (mem4 S) f).toList:=by
     have:((k:Int),f k)∈(mem4 S).map fun k:Nat=>((k:Int),f k):=List.mem_map.mpr ⟨k,mem_mem4.mpr ⟨hk,hSk⟩,rfl⟩
     simpa [ents]using this
    have:=List.findIdx?_eq_none_iff.mp hr _ hm
    rw [show(intKind prog w).is (k:Int) ((k:Int),f k).2=true by show(intKind prog w).is (k:Int) (f k)=true;rw [ht'];exact intKind_is _ _ _ _]at this
    cases this
  obtain⟨j,hj⟩:=this
  rw [hj]
  dsimp only
  refine wpAny_pure (wpAny_pure ?_)
  have eS:plus S k=S:=funext fun i=>by
   unfold plus
   by_cases e:i=k
   ·subst e;simp [hSk]
   ·simp [e]
  exact h _ s.heap (Heap.SameBut.refl a s.heap) (by rw [eS];exact⟨f,ep,hf,ho⟩)
 |false=>
  have hr:List.findIdx? (fun e=>(intKind prog w).is (k:Int) e.2) (ents (mem4 S) f).toList=none:=by
   rw [List.findIdx?_eq_none_iff]
   intro e he
   have he':e∈(mem4 S).map fun k:Nat=>((k:Int),f k):=by simpa [ents]using he
   obtain⟨i,hi,rfl⟩:=List.mem_map.mp he'
   obtain⟨h1,h2⟩:=mem_mem4.mp hi
   obtain⟨t',ht'⟩:=hf i h1 h2
   cases z:(intKind prog w).is (k:Int) (((i:Int),f i).2)with
   |false=>rfl
   |true=>
    have z':(intKind prog w).is (k:Int) (Value.int (i:Int) t')=true:=by rw [←ht'];exact z
    have:=(intKind prog w).inj _ _ _ z' (intKind_is _ _ _ _)
    have e:k=i:=by omega
    subst e
    rw [hSk]at h2;cases h2
  rw [hr]
  dsimp only
  rw [zY k hk,A2v S led f _ k hk hSk]
  dsimp only
  refine wpAny_bind (wpAny_pure ?_)
  have hS2:∀ep',∀h',h'.get? a=some (bM (plus S k) (cT f k (.int (k:Int) t)) led ep')->IsS4 h' a (plus S k) led:=fun ep' h' g=> ⟨_,ep',fun i hi hp=>by
   unfold cT
   by_cases e:i=k
   ·rw [if_pos e,e];exact⟨t,rfl⟩
   ·rw [if_neg e]
    unfold plus at hp
    exact hf i hi (by simpa [e]using hp),g⟩
  rw [show(tab (mem4 (plus S k)) led).plain=true from rfl]
  simp only [↓reduceIte]
  rw [hashByValue_scannable 8 (x:=Value.int (k:Int) t) rfl]
  refine wpAny_bind (wpAny_pure ?_)
  rw [show plainKind (Value.int (k:Int) t)=true from rfl]
  simp only [↓reduceIte]
  have hz2:(ents (mem4 (plus S k)) (cT f k (.int (k:Int) t))).size<=sizeLine:=by
   rw [kU,sizeLine_eq];have:=nU (plus S k 0) (plus S k 1) (plus S k 2) (plus S k 3)
   show(L (plus S k 0) (plus S k 1) (plus S k 2) (plus S k 3)).length<=_;omega
  refine wpAny_bind (wpAny_storeSet_of ho hd ?_ hz2)
  rw [A22]
  simp only [Bool.and_false,Bool.false_eq_true,↓reduceIte]
  refine wpAny_pure (wpAny_pure ?_)
  have hg:(s.heap.update a (Obj.putSet (ents (mem4 (plus S k)) (cT f k (.int (k:Int) t))) (tab (mem4 (plus S k)) led))).get? a=some (bM (plus S k) (cT f k (.int (k:Int) t)) led (ep+1)):=by
   have:=Heap.get?_update_self (Obj.putSet (ents (mem4 (plus S k)) (cT f k (.int (k:Int) t))) (tab (mem4 (plus S k)) led)) ho (by rw [putSet_of _ _ hd];rfl)
   rw [putSet_of _ _ hd]at this;exact this
  exact h _ _ (Heap.SameBut.update s.heap a _) (hS2 _ _ hg)
end
def acc (val:Nat->Nat):Nat->Nat->Bool
 |0=>fun _=>false
 |i+1=>plus (acc val i) (val i)
theorem wW (val:Nat->Nat)(k:Nat):∀i,acc val i k=true↔ ∃j,j<i/\val j=k
 |0=>by simp [acc]
 |i+1=>by
  show plus (acc val i) (val i) k=true↔_
  unfold plus
  rw [Bool.or_eq_true,wW val k i,decide_eq_true_eq]
  constructor
  ·rintro(⟨j,h1,h2⟩|h)
   ·exact⟨j,by omega,h2⟩
   ·exact⟨i,by omega,h.symm⟩
  ·rintro⟨j,h1,h2⟩
   by_cases e:j=i
   ·right;rw [←h2,e]
   ·exact .inl ⟨j,by omega,h2⟩
theorem IsS4.at {h h':Heap}{a:Addr}{S:Nat->Bool}{led:Bool}(x:IsS4 h a S led)(e:∀o,h.get? a=some o->h'.get? a=some o):IsS4 h' a S led:=let ⟨f,ep,hf,ho⟩:=x;⟨f,ep,hf,e _ ho⟩
section
variable {prog:Program}{w:World}{A:Around}{R:Result->Shared->Prop}{I:Addr}{fp wr:List Addr}{G:Array GenState->Array GenState->Prop}{n:Nat}{P:Nat->Value->Prop}{St:Nat->Shared->Prop}{led:Bool}
theorem A5g (W:WalksS prog w A.in1 I fp wr G n P St)(D:Addr)(hD:D∉fp)(val:Nat->Nat)(hv:∀i v,P i v->∃t,v= .int (val i:Int) t)(h4:∀i,i<n->val i<4):∀(k i:Nat)(s:Shared),n - i=k->i<=n->St i s->IsS4 s.heap D (acc val i) led->
  (∀s',Moved (D::wr) G s s'->IsS4 s'.heap D (acc val n) led->R (.ok (.ret .none)) s')->codeAny (model prog w) A (.builtin "set.update.loop" ⟨[.ref D,.ref I],[]⟩) R s:=by
 have nw:D∉wr:=fun h=>hD (W.sub _ h)
 have sub:∀b∈wr,b∈D::wr:=fun b hb=>List.mem_cons_of_mem _ hb
 intro k
 induction k with
 |zero=>
  intro i s hk hi st hS hR
  obtain rfl:i=n:=by omega
  refine codeAny_builtin F.entry_set_update_loop ?_;rw [Around.under_plainId F.plain_set_update_loop _]
  show wpAny _ A.in1 (pyNext (.ref I)>>=_) _ _ s;refine wpAny_bind (W.done s _ _ st fun s' hm=> ?_)
  show wpAny _ A.in1 (ret Value.none) _ _ s'
  exact wpAny_pure (hR s' (hm.mono sub) (hS.at fun o e=>hm.heap D _ nw e))
 |succ k ih=>
  intro i s hk hi st hS hR
  have hlt:i<n:=by omega
  refine codeAny_builtin F.entry_set_update_loop ?_;rw [Around.under_plainId F.plain_set_update_loop _]
  show wpAny _ A.in1 (pyNext (.ref I)>>=_) _ _ s;refine wpAny_bind (W.item i s _ _ hlt st fun v s' hP st' hm=> ?_)
  obtain⟨t,rfl⟩:=hv i v hP
  show wpAny _ A.in1 (holding [Value.int (val i:Int) t] (setAdd D (.int (val i:Int) t))>>=_) _ _ s'
  refine wpAny_bind (wpAny_holding ?_);unfold setAdd;refine wpAny_holding ?_
  refine wpAny_bind ((intKind prog w).pyHash (k:=(val i:Int)) (intKind_is _ _ _ _) ?_)
  refine B0i (s:={s' with toks:=s'.toks+1}) (hS.at fun o e=>hm.heap D _ nw e) (h4 i hlt) fun b h' hsb hS2=> ?_
  refine wpAny_pure ⟨plainId_quiet F.plain_set_update_loop _,ih (i+1) _ (by omega) hlt (W.frame _ s' _ _ st' (Nat.le_succ _) fun b hb o e=> ?_) hS2 fun s'' hm'' hS''=> ?_⟩
  ·rw [hsb.2 b (fun h:b=D=>hD (by rw [←h];exact hb))];exact e
  ·refine hR s'' (Moved.trans W.gtrans ((hm.mono sub).then_heap (Nat.le_succ _) fun b o hb e=> ?_) hm'') hS''
   rw [hsb.2 b (fun h:b=D=>hb (by rw [h];exact List.mem_cons_self))];exact e
end
section
variable {prog:Program}{w:World}{A:Around}{E:Value->Shared->Prop}{s:Shared}
def byT (w:World):Bool:=w.params.followText "set-order"
theorem A4o (a:Value){Q₁:Value->Shared->Prop}(h:Q₁ (.ref s.heap.objs.size) {s with heap:=s.heap.push (bM (fun _=>false) (fun _=> .none) (!byT w) 0)}):
  codeAny (model prog w) A (.call (.builtin "set.__new__") ⟨[.type "set",a],[]⟩) (wants Q₁ E) s:=by
 refine codeAny_of_tree ?_
 show wpAny _ A.in1 (do checkBuiltinCall "set.__new__" ⟨[.type "set",a],[]⟩;again (.builtin "set.__new__" ⟨[.type "set",a],[]⟩)) _ _ s
 refine wpAny_bind (wpAny_of_eq (PySem.F.newCall_set_1 a) (wpAny_pure ⟨plainId_quiet PySem.F.plain_set_new _,codeAny_builtin PySem.F.entry_set_new ?_⟩))
 rw [Around.under_plainId PySem.F.plain_set_new _];unfold Builtin.«set.__new__» Builtin.Frozenset.newClass
 have hsub:=PySem.sub_set_self
 obtain⟨hp,g,d,tk,os⟩:=s
 dsimp only;wp_walk
 refine wpAny_askSetting (wpAny_pure ?_);dsimp only;simp only [newObj]
 refine wpAny_bind (wpAny_alloc (wpAny_pure ?_));exact wpAny_pure h
theorem A85 {l:Addr}{items:Array Value}{val:Nat->Nat}{Q:Value->Shared->Prop}(hh:A.handled=none)(hl:s.heap.IsList l items)(hv:∀(i:Nat)(v:Value),items[i]?=some v->∃t,v= .int (val i:Int) t)(h4:∀i,i<items.size->val i<4)
  (h:∀(h':Heap)(tk:Nat),IsS4 h' s.heap.objs.size (acc val items.size) (!byT w)->(∀b o,b<s.heap.objs.size->s.heap.get? b=some o->h'.get? b=some o)->Q (.ref s.heap.objs.size) {s with heap:=h',toks:=tk}):
  wpAny (model prog w) A (call (.type "set") [.ref l]) Q E s:=by
 obtain⟨c,tl,hmro⟩:=PySem.F.called_set.mro
 have hmade:=PySem.F.called_set.made
 have hsub:=PySem.F.called_set.sub
 refine wpAny_call (codeAny_of_tree ?_)
 show wpAny _ _ (callAny (.type "set") _) _ _ _
 refine wpAny_pure ⟨Code.quiet_builtin _ (by decide +kernel),codeAny_builtin PySem.F.entry_type_call ?_⟩
 rw [Around.under_plain (weight_type_call_type "set" [.ref l] []) rfl]
 have h1:=PySem.F.called_set.notType
 have h2:=PySem.F.called_set.canCreate
 have hct:=PySem.F.typeCall_set_1 (.ref l)
 repeat (any_goals (first|assumption|wp_step))
 refine codeAny_mono (A4o (.ref l) (E:=E) (Q₁:=fun obj s₁=>obj= .ref s.heap.objs.size/\s₁={s with heap:=s.heap.push (bM (fun _=>false) (fun _=> .none) (!byT w) 0)}) ⟨rfl,rfl⟩) fun r s₁ hr=> ?_
 cases r with
 |error e=>exact hr
 |ok fl=>
  cases fl with
  |ret obj=>
   obtain⟨rfl,rfl⟩:=hr
   have hS:(s.heap.push (bM (fun _=>false) (fun _=> .none) (!byT w) 0)).get? s.heap.objs.size=some (bM (fun _=>false) (fun _=> .none) (!byT w) 0):=Heap.get?_push_size _ rfl
   have hT:Shared.TypeIs {s with heap:=s.heap.push (bM (fun _=>false) (fun _=> .none) (!byT w) 0)} (.ref s.heap.objs.size) "set":=⟨_,hS,rfl⟩
   have hli:=PySem.F.called_set.init.lookup
   have hbi:=PySem.F.called_set.init.bind (.ref s.heap.objs.size)
   repeat (any_goals (first|assumption|wp_step))
   refine codeAny_mono (codeAny_call_builtin (R:=wants (fun r s₂=>r= .none/\∃h' tk,s₂={s with heap:=h',toks:=tk}/\IsS4 h' s.heap.objs.size (acc val items.size) (!byT w)/\
     (∀b o,b<s.heap.objs.size->s.heap.get? b=some o->h'.get? b=some o)) E) PySem.F.called_set.init.plain PySem.F.entry_set_init (check_set_init_1 hT ?_)) fun r₂ s₂ hr₂=> ?_
   ·obtain⟨ol,hol,hcl,nl,hdl⟩:=hl
    obtain⟨ocls,odict,odata,oslots⟩:=ol
    simp only at hcl hdl
    subst hcl;subst hdl
    have hol':(s.heap.push (bM (fun _=>false) (fun _=> .none) (!byT w) 0)).get? l=some {cls:=.type "list",dict:=odict,data:=.seq items nl,slots:=oslots}:=Heap.get?_push_of_some _ hol
    have hsls:=PySem.F.sub_list_set
    have hslf:=PySem.F.sub_list_frozenset
    have hne:(Value.type "list" ==Value.type "dict")=false:=by decide
    have hl1:(s.heap.push (bM (fun _=>false) (fun _=> .none) (!byT w) 0)).IsList l items:=⟨_,hol',rfl,nl,rfl⟩
    unfold Builtin.«set.__init__» noKeywords Builtin.Frozenset.updateFrom
    generalize hPI:pyIter=PI
    wp_walk
    subst hPI
    refine wpAny_pyIter_list hl1 ?_;refine wpAny_bind (wpAny_runValue ?_)
    have hlS:l<s.heap.objs.size:=Heap.lt_size hol
    have hh3:A.in1.in1.in1.handled=none:=by simp [hh]
    have hneI:l≠(s.heap.push (bM (fun _=>false) (fun _=> .none) (!byT w) 0)).objs.size:=by rw [Heap.size_push];exact Nat.ne_of_lt (Nat.lt_succ_of_lt hlS)
    have hSf:s.heap.objs.size∉[(s.heap.push (bM (fun _=>false) (fun _=> .none) (!byT w) 0)).objs.size,l]:=by
     rw [Heap.size_push];intro hm
     rcases List.mem_cons.mp hm with e|e
     ·exact absurd e (Nat.ne_of_lt (Nat.lt_succ_self _))
     ·exact absurd (List.mem_singleton.mp e) (Nat.ne_of_gt hlS)
    refine A5g ((Walks.list hh3 _ l hneI items).toS) s.heap.objs.size hSf val hv h4 (items.size - 0) 0 _ (by omega) (Nat.zero_le _) ⟨⟨_,Heap.get?_push_size _ rfl,rfl,rfl⟩,(hl1.push _)⟩ (show IsS4 _ _ (fun _=>false) (!byT w)from⟨fun _=> .none,0,(fun k _ z=>absurd z (by simp)),Heap.get?_push_of_some _ hS⟩) ?_
    intro s' hm hS'
    obtain⟨h',g',d',tk',os'⟩:=s'
    have eg:g'=s.gens:=hm.gens
    have ed:d'=s.drawn:=hm.drawn
    have eo:os'=s.os:=hm.os
    subst eg;subst ed;subst eo
    show wpAny _ _ _ _ _ _;refine wpAny_pure ?_;show wpAny _ _ (ret Value.none) _ _ _
    refine wpAny_pure ⟨rfl,h',tk',rfl,hS',fun b o hb e=> ?_⟩
    refine hm.heap b o (fun hmm=> ?_) (Heap.get?_push_of_some _ (Heap.get?_push_of_some _ e))
    rcases List.mem_cons.mp hmm with z|z
    ·exact Nat.ne_of_lt hb z
    ·rw [Heap.size_push]at z
     exact Nat.ne_of_lt (Nat.lt_succ_of_lt hb) (List.mem_singleton.mp z)
   ·cases r₂ with
    |error e=>exact hr₂
    |ok fl₂=>
     cases fl₂ with
     |ret r=>
      obtain⟨rfl,h',tk,rfl,hS',hk'⟩:=hr₂
      repeat (any_goals (first|assumption|wp_step))
      exact h _ _ hS' hk'
     |_=>exact hr₂.elim
  |_=>exact hr.elim
end
theorem lY {α:Type}:∀(l:List α)(i:Nat)(h:i<l.length),(l[i]::l.eraseIdx i).Perm l
 | [],i,h=>by simp at h
 |x::l,0,h=>List.Perm.refl _
 |x::l,i+1,h=>by
  have ih:=lY l i (by simpa using h)
  show(l[i]'(by simpa using h)::x::l.eraseIdx i).Perm (x::l)
  exact(List.Perm.swap _ _ _).trans (ih.cons x)
theorem lZ {α:Type}(next:Nat->Nat):∀(fuel k:Nat)(left:List α)(out:Array α),left.length=fuel->(pickOrder.go next fuel k left out).toList.Perm (out.toList++left)
 |0,k,left,out,h=>by
  cases left with
  |nil=>unfold pickOrder.go;simp
  |cons _ _=>simp at h
 |fuel+1,k,left,out,h=>by
  have hl:next k%left.length<left.length:=Nat.mod_lt _ (by omega)
  unfold pickOrder.go
  rw [List.getElem?_eq_getElem hl]
  have ih:=lZ next fuel (k+1) (left.eraseIdx (next k%left.length)) (out.push left[next k%left.length]) (by rw [List.length_eraseIdx_of_lt hl];omega)
  refine ih.trans ?_
  rw [Array.toList_push,List.append_assoc]
  exact List.Perm.append_left _ (lY _ _ hl)
theorem uJ {α:Type}(next:Nat->Nat)(xs:Array α):(pickOrder next xs).toList.Perm xs.toList:=by
 have:=lZ next xs.size 0 xs.toList #[] (by simp)
 unfold pickOrder
 simpa using this
def slot (S:Nat->Bool)(i:Nat):Nat:=if i=0 then 0 else(mem4 S).getD (i - 1) 0+1
theorem A97 (S:Nat->Bool)(i:Nat)(hi:i<=(mem4 S).length):SetTable.below (mem4 S).toArray (slot S i)=i:=by
 have key:∀b0 b1 b2 b3:Bool,∀i,i<5->i<=(L b0 b1 b2 b3).length->SetTable.below (L b0 b1 b2 b3).toArray (if i=0 then 0 else(L b0 b1 b2 b3).getD (i - 1) 0+1)=i:=by decide +kernel
 have:=nU (S 0) (S 1) (S 2) (S 3)
 exact key (S 0) (S 1) (S 2) (S 3) i (by unfold mem4 at hi;omega) hi
def ord (w:World)(a:Addr)(S:Nat->Bool)(f:Nat->Value)(ep:Nat):List Value:=((if byT w=true then pickOrder (w.params.setOrder a ep) (ents (mem4 S) f)else ents (mem4 S) f).toList).map (·.2)
theorem nS (w:World)(a:Addr)(S:Nat->Bool)(f:Nat->Value)(ep:Nat):(ord w a S f ep).Perm ((mem4 S).map f):=by
 have e:(ents (mem4 S) f).toList.map (·.2)=(mem4 S).map f:=by simp [ents,Function.comp_def]
 unfold ord
 by_cases h:byT w=true
 ·rw [if_pos h,←e]
  exact(uJ _ _).map _
 ·rw [if_neg h,e]
def nslot (w:World)(S:Nat->Bool)(i:Nat):Nat:=if byT w=true then 0 else slot S i
section
variable {prog:Program}{w:World}{A:Around}{E:Value->Shared->Prop}{s:Shared}
theorem yT {a:Addr}{S:Nat->Bool}{f:Nat->Value}{ep i:Nat}{Q:Option (Value×Nat)->Shared->Prop}(ho:s.heap.get? a=some (bM S f (!byT w) ep))(hi:i<=(mem4 S).length)(h:Q (((ord w a S f ep)[i]?).map fun v=>(v,nslot w S (i+1))) s):
  wpAny (model prog w) A (setNext a (nslot w S i) i ep) Q E s:=by
 have hd:(bM S f (!byT w) ep).data= .set (ents (mem4 S) f) ep (tab (mem4 S) (!byT w)):=rfl
 have hf:=oO S (!byT w) f
 unfold setNext setsByText
 refine wpAny_bind (wpAny_setState_of ho hd hf ?_);dsimp only
 refine wpAny_bind (wpAny_bind (wpAny_askSetting (wpAny_pure ?_)))
 show wpAny _ _ (if byT w=true then _ else _) _ _ _
 unfold ord nslot at h
 unfold nslot
 by_cases hb:byT w=true
 ·rw [if_pos hb]at h⊢
  rw [if_pos hb]at h
  rw [if_pos hb]
  rw [if_neg (by simp)]
  refine wpAny_bind ?_
  unfold setWalk setsByText
  refine wpAny_bind ((wpAny_setState_of ho hd hf ?_));dsimp only
  refine wpAny_bind (wpAny_bind (wpAny_askSetting (wpAny_pure ?_)))
  show wpAny _ _ (if byT w=true then _ else _) _ _ _
  rw [if_pos hb]
  refine wpAny_bind (wpAny_askSetting (wpAny_pure ?_))
  refine wpAny_pure ?_
  rw [List.getElem?_map,Array.getElem?_toList,Option.map_map]at h
  exact h
 ·rw [if_neg hb]at h⊢
  rw [if_neg hb]at h
  rw [if_neg hb]
  have hb':byT w=false:=by simpa using hb
  show wpAny _ _ (if (!true&&decide ((ents (mem4 S) f).size>1))=true then _ else _) _ _ _
  rw [if_neg (by simp)]
  show wpAny _ _ ((if (!(!byT w)&& !(ents (mem4 S) f).isEmpty)=true then unsupported "set:maker-not-led" else pure ())>>=_) _ _ _
  rw [hb',if_neg (by simp)]
  refine wpAny_bind (wpAny_pure (wpAny_pure ?_))
  show Q (match (ents (mem4 S) f)[SetTable.below (mem4 S).toArray (slot S i)]?,(mem4 S).toArray[SetTable.below (mem4 S).toArray (slot S i)]? with|some (_,x),some j=>some (x,j+1)|_,_=>none) s
  rw [A97 S i hi]
  rw [List.getElem?_map,Array.getElem?_toList]at h
  by_cases hl:i<(mem4 S).length
  ·have e1:(ents (mem4 S) f)[i]?=some (((mem4 S)[i]:Int),f (mem4 S)[i]):=by simp [ents,hl]
   have e2:(mem4 S).toArray[i]?=some (mem4 S)[i]:=by simp [hl]
   rw [e1]at h⊢
   rw [e2]
   have e3:slot S (i+1)=(mem4 S)[i]+1:=by unfold slot;rw [if_neg (by omega)];simp [hl]
   rw [e3]at h
   exact h
  ·have e1:(ents (mem4 S) f)[i]?=none:=by simp [ents];omega
   rw [e1]at h⊢
   exact h
end
abbrev iN (h:Heap)(I a:Addr)(sl i n ep:Nat):Prop:=h.get? I=some {cls:=.type "set_iterator",dict:=none,data:=.fields #[.int sl 0,.int i 0,.ref a,.int n 0,.int ep 0],slots:=#[]}
theorem slot_next:Slot "set_iterator" "__next__" "set_iterator.__next__":=.of (owner:="set_iterator") (n:="__next__") (by rw [typeLookup_type,builtinLookup_eq_fast];kernel_rfl) (by decide +kernel) (by decide +kernel) (by decide +kernel) (by first|exact .inl (by decide +kernel)|exact .inr (by decide +kernel)) (by rw [isSubtype_type];kernel_rfl)
theorem mZ:Slot "set_iterator" "__iter__" "set_iterator.__iter__":=.of (owner:="set_iterator") (n:="__iter__") (by rw [typeLookup_type,builtinLookup_eq_fast];kernel_rfl) (by decide +kernel) (by decide +kernel) (by decide +kernel) (by first|exact .inl (by decide +kernel)|exact .inr (by decide +kernel)) (by rw [isSubtype_type];kernel_rfl)
theorem oH:entryFor table "set_iterator.__next__" =some Builtin.«set_iterator.__next__»:=entryFor_of_tree (by kernel_rfl)
theorem vM:entryFor table "set_iterator.__iter__" =some Builtin.«dict_keyiterator.__iter__»:=entryFor_alias (id':="dict_keyiterator.__iter__") (by kernel_rfl) rfl (by decide +kernel) (by kernel_rfl)
theorem tP:entryFor table "set.__iter__" =some Builtin.«frozenset.__iter__»:=entryFor_alias (id':="frozenset.__iter__") (by kernel_rfl) rfl (by decide +kernel) (by kernel_rfl)
theorem mB (a:Value):argsOk "set_iterator.__next__" ⟨[a],[]⟩:=by unfold argsOk;kernel_rfl
theorem uF (a:Value):argsOk "set_iterator.__iter__" ⟨[a],[]⟩:=by unfold argsOk;kernel_rfl
theorem jK (w:World)(a:Addr)(S:Nat->Bool)(f:Nat->Value)(ep:Nat):(ord w a S f ep).length=(mem4 S).length:=by rw [(nS w a S f ep).length_eq,List.length_map]
section
variable {prog:Program}{w:World}{A:Around}{E:Value->Shared->Prop}{s:Shared}
theorem A62 {a:Addr}{S:Nat->Bool}{f:Nat->Value}{ep:Nat}{Q:Value->Shared->Prop}(ho:s.heap.get? a=some (bM S f (!byT w) ep))
  (h:Q (.ref s.heap.objs.size) {s with heap:=s.heap.push {cls:=.type "set_iterator",data:=.fields #[.int 0 0,.int 0 0,.ref a,.int (mem4 S).length 0,.int ep 0]}}):wpAny (model prog w) A (pyIter (.ref a)) Q E s:=by
 have hd:(bM S f (!byT w) ep).data= .set (ents (mem4 S) f) ep (tab (mem4 S) (!byT w)):=rfl
 have hf:=oO S (!byT w) f
 have hT:s.TypeIs (.ref a) "set":=⟨_,ho,rfl⟩
 refine wpAny_pyIter_slot hT PySem.F.slot_set_iter (wpAny_call_entry PySem.F.slot_set_iter hT tP ?_ (PySem.F.args_set_iter_1 _))
 unfold Builtin.«frozenset.__iter__»
 refine wpAny_bind (wpAny_pure ?_)
 unfold Builtin.Frozenset.sizeOf
 refine wpAny_bind (wpAny_bind (wpAny_setEntries_of ho hd hf (wpAny_pure ?_)))
 refine wpAny_bind ?_
 unfold setDrawn setsByText
 refine wpAny_bind (wpAny_setState_of ho hd hf ?_);dsimp only
 refine wpAny_bind (wpAny_bind (wpAny_askSetting (wpAny_pure ?_)))
 refine wpAny_pure ?_
 show wpAny _ _ (if (!byT w&&(!true&&decide ((ents (mem4 S) f).size>1)))=true then _ else _) _ _ _
 rw [if_neg (by simp)]
 refine wpAny_bind (wpAny_pure ?_)
 unfold setEpoch
 refine wpAny_bind (wpAny_bind (wpAny_setState_of ho hd hf (wpAny_pure ?_)))
 unfold newFields
 refine wpAny_bind (wpAny_newObj_type (wpAny_pure ⟨_,rfl,"set_iterator",_,⟨_,Heap.get?_push_size _ rfl,rfl⟩,slot_next.lookup,?_⟩) (by simp [sizeOk,sizeLine_eq]))
 rw [kU]
 exact h
theorem A7x (hh:A.handled=none)(I a:Addr)(hne:a≠I)(S:Nat->Bool)(f:Nat->Value)(ep:Nat):
  Walks prog w A I [I,a] [I] (mem4 S).length (fun i v=>(ord w a S f ep)[i]?=some v) (fun i h=>iN h I a (nslot w S i) i (mem4 S).length ep/\h.get? a=some (bM S f (!byT w) ep))where
 sub:=fun b hb=>by simp at hb;simp [hb]
 frame:=fun _ _ _ st hk=> ⟨hk I (by simp) _ st.1,hk a (by simp) _ st.2⟩
 item:=fun i s Q E hi st hQ=>by
  obtain⟨hit,ho⟩:=st
  have hd:(bM S f (!byT w) ep).data= .set (ents (mem4 S) f) ep (tab (mem4 S) (!byT w)):=rfl
  have hf:=oO S (!byT w) f
  have hT:s.TypeIs (.ref I) "set_iterator":=⟨_,hit,rfl⟩
  have hlt:i<(ord w a S f ep).length:=by rw [jK];exact hi
  unfold pyNext
  refine wpAny_bind (wpAny_attempt (wpAny_callSpecial?_slot (name:=Str.ofString "__next__") hT slot_next (wpAny_call_entry slot_next hT oH ?_ (mB _))))
  unfold Builtin.«set_iterator.__next__»
  refine wpAny_bind (wpAny_pure ?_)
  refine wpAny_bind (wpAny_fieldsOf hit rfl ?_)
  refine wpAny_bind (wpAny_setEntries_of ho hd hf ?_)
  rw [if_neg (by rw [kU];simp)]
  refine wpAny_bind (yT (i:=i) (ep:=ep) ho (Nat.le_of_lt hi) ?_)
  rw [List.getElem?_eq_getElem hlt]
  refine wpAny_bind (wpAny_setField_rec hit (by simp) fun h1 g1 s1=> ?_)
  refine wpAny_bind (wpAny_setField_rec g1 (by simp) fun h2 g2 s2=> ?_)
  refine wpAny_pure ⟨_,rfl,wpAny_pure ?_⟩
  refine hQ _ h2 s.toks (List.getElem?_eq_getElem hlt) ⟨?_,?_⟩ fun b o hb e=> ?_
  ·have e:((i+1:Nat):Int)=(i:Int)+1:=by omega
   unfold iN;rw [e];simpa [rawInt]using g2
  ·exact(s2.2 a hne).trans ((s1.2 a hne).trans ho)
  ·have:b≠I:=fun z=>hb (by simp [z])
   exact(s2.2 b this).trans ((s1.2 b this).trans e)
 done:=fun s Q E st hQ=>by
  obtain⟨hit,ho⟩:=st
  have hd:(bM S f (!byT w) ep).data= .set (ents (mem4 S) f) ep (tab (mem4 S) (!byT w)):=rfl
  have hf:=oO S (!byT w) f
  have hT:s.TypeIs (.ref I) "set_iterator":=⟨_,hit,rfl⟩
  unfold pyNext
  refine wpAny_bind (wpAny_attempt (wpAny_callSpecial?_slot (name:=Str.ofString "__next__") hT slot_next (wpAny_call_entry slot_next hT oH ?_ (mB _))))
  unfold Builtin.«set_iterator.__next__»
  refine wpAny_bind (wpAny_pure ?_)
  refine wpAny_bind (wpAny_fieldsOf hit rfl ?_)
  refine wpAny_bind (wpAny_setEntries_of ho hd hf ?_)
  rw [if_neg (by rw [kU];simp)]
  refine wpAny_bind (yT (i:=(mem4 S).length) (ep:=ep) ho (Nat.le_refl _) ?_)
  rw [List.getElem?_eq_none (by rw [jK];exact Nat.le_refl _)]
  refine wpAny_bind (wpAny_setField hit rfl (by simp) ?_)
  show wpAny _ _ (newExc (.type "StopIteration") []>>=_) _ _ _;refine wpAny_bind ?_;simp only [newExc,newTuple]
  refine wpAny_bind (wpAny_newObj_type ?_ (by size_fits));refine wpAny_bind (m:=firstArgMember _ _) (wpAny_of_eq (a:=Value.none) (by first|rfl| (simp only [firstArgMember];rfl)) ?_)
  refine wpAny_newObj_type ?_ (by size_fits);simp only [raiseNew];refine wpAny_bind (wpAny_handled ?_);rw [show A.in1.handled=none from hh]
  refine wpAny_bind (wpAny_pure (wpAny_throw ?_));refine wpAny_bind (wpAny_isInstance (T:="StopIteration") (b:=true) ⟨_,Heap.get?_push_size _ rfl,rfl⟩ isSubtype_stop ?_)
  have go:∀h':Heap,Heap.ExtBut I s.heap h'->Q none {s with heap:=h',toks:=s.toks}:=fun h' hx=>hQ h' s.toks fun b o hb e=>hx b o (fun z=>hb (by simp [z])) e
  exact wpAny_pure (go _ (((Heap.SameBut.update ..).extBut.push _).push _))
 self:=fun i s Q E st hQ=>by
  have hT:s.TypeIs (.ref I) "set_iterator":=⟨_,st.1,rfl⟩
  refine wpAny_pyIter_slot hT mZ (wpAny_call_entry mZ hT vM ?_ (uF _))
  show wpAny _ _ (ret (.ref I)) _ _ s
  exact wpAny_pure ⟨_,rfl,"set_iterator",_,hT,slot_next.lookup,hQ⟩
end
section
variable {prog:Program}{w:World}{A:Around}{E:Value->Shared->Prop}{s:Shared}
theorem A9v {a:Addr}{Q:Bool->Shared->Prop}(hT:s.TypeIs (.ref a) "set")(h:Q false s):wpAny (model prog w) A (Builtin.List.listLengthHint (.ref a)) Q E s:=by
 unfold Builtin.List.listLengthHint
 refine wpAny_bind (wpAny_specialOf hT PySem.F.slot_set_len.lookup ?_)
 show wpAny _ _ (do if !(←isInstance (.ref a) (.type "set"))then unsupported _ else pure ()
                    let .ref _←typeOf (.ref a)|return false
                    _) _ _ _
 refine wpAny_bind (wpAny_isInstance hT sub_set_self ?_)
 simp only [Bool.not_true,Bool.false_eq_true,if_false]
 refine wpAny_bind (wpAny_typeOf hT ?_)
 exact wpAny_pure h
theorem A67 {a:Addr}{S:Nat->Bool}{f:Nat->Value}{ep:Nat}{Q:List Value->Shared->Prop}(hh:A.handled=none)(ho:s.heap.get? a=some (bM S f (!byT w) ep))
  (h:∀h1 tk,(∀b o,s.heap.get? b=some o->h1.get? b=some o)->s.heap.objs.size<=h1.objs.size->Q (ord w a S f ep) {s with heap:=h1,toks:=tk}):wpAny (model prog w) A (collect (.ref a)) Q E s:=by
 have la:a<s.heap.objs.size:=Heap.lt_size ho
 unfold collect
 refine wpAny_bind (wpAny_runValue (codeAny_builtin PySem.F.entry_proto_collect ?_))
 rw [Around.under_plainId PySem.F.plain_proto_collect _]
 show wpAny _ A.in1 (newList []>>=fun l=>again (.builtin "list.__iadd__" ⟨[l,.ref a],[]⟩)) _ _ s
 refine wpAny_bind (wpAny_newObj_type (wpAny_pure ⟨plainId_quiet PySem.F.plain_list_iadd _,codeAny_builtin PySem.F.entry_list_iadd ?_⟩))
 rw [Around.under_plainId PySem.F.plain_list_iadd _]
 generalize hg1:s.heap.push {cls:=.type "list",data:=.seq ([]:List Value).toArray}=g1
 have k1:∀b o,s.heap.get? b=some o->g1.get? b=some o:=fun b o e=>by rw [←hg1];exact Heap.get?_push_of_some _ e
 have l1:g1.get? s.heap.objs.size=some {cls:=.type "list",data:=.seq #[]}:=by rw [←hg1];exact Heap.get?_push_size _ rfl
 have z1:g1.objs.size=s.heap.objs.size+1:=by rw [←hg1,Heap.size_push]
 have o1:=k1 _ _ ho
 have hT1:Shared.TypeIs {s with heap:=g1} (.ref a) "set":=⟨_,o1,rfl⟩
 have neA:s.heap.objs.size≠a:=Nat.ne_of_gt la
 show wpAny _ A.in1 (Builtin.List.listExtendWith (.ref s.heap.objs.size) (.ref a) (.ref s.heap.objs.size)) _ _ {s with heap:=g1}
 unfold Builtin.List.listExtendWith
 refine wpAny_bind (wpAny_typeOf hT1 ?_)
 have e1:Builtin.List.listSameRef (.ref s.heap.objs.size) (.ref a)=false:=by simp [Builtin.List.listSameRef,neA]
 have e2:(Value.type "set" ==Value.type "list")=false:=by decide
 have e3:(Value.type "set" ==Value.type "tuple")=false:=by decide
 simp only [e1,e2,e3,Bool.or_false,Bool.false_eq_true,if_false]
 refine wpAny_bind (A62 (s:={s with heap:=g1}) o1 ?_)
 generalize hg2:g1.push {cls:=.type "set_iterator",data:=.fields #[.int 0 0,.int 0 0,.ref a,.int (mem4 S).length 0,.int ep 0]}=g2
 have k2:∀b o,g1.get? b=some o->g2.get? b=some o:=fun b o e=>by rw [←hg2];exact Heap.get?_push_of_some _ e
 have i2:iN g2 g1.objs.size a 0 0 (mem4 S).length ep:=by rw [←hg2];exact Heap.get?_push_size _ rfl
 have z2:g2.objs.size=g1.objs.size+1:=by rw [←hg2,Heap.size_push]
 have o2:=k2 _ _ o1
 refine wpAny_bind (wpAny_holding (A9v (s:={s with heap:=g2}) ⟨_,o2,rfl⟩ ?_))
 show wpAny _ A.in1 (rule "list.extend.makes-room" >>=fun _=>Builtin.List.listTouch (.ref s.heap.objs.size)>>=fun _=>again (.builtin "list.extend.loop" ⟨[.ref s.heap.objs.size,.ref g1.objs.size,.ref s.heap.objs.size],[]⟩)) _ _ {s with heap:=g2}
 refine wpAny_bind (wpAny_rule ?_)
 have l2:=k2 _ _ l1
 refine wpAny_bind ?_
 show wpAny _ A.in1 (updateSeq s.heap.objs.size (·.push .none)>>=fun _=>updateSeq s.heap.objs.size (·.pop)) _ _ {s with heap:=g2}
 refine wpAny_bind (wpAny_updateSeq l2 rfl ?_)
 have l3:=Heap.get?_update_self (Obj.mapSeq (·.push Value.none)) l2 rfl
 refine wpAny_updateSeq l3 rfl ?_
 have l4:=Heap.get?_update_self (Obj.mapSeq (·.pop)) l3 rfl
 have k4:∀b o,b≠s.heap.objs.size->g2.get? b=some o->((g2.update s.heap.objs.size (Obj.mapSeq (·.push Value.none))).update s.heap.objs.size (Obj.mapSeq (·.pop))).get? b=some o:=
  fun b o hb e=>(Heap.get?_update_other _ _ (Ne.symm hb)).trans ((Heap.get?_update_other _ _ (Ne.symm hb)).trans e)
 have z4:((g2.update s.heap.objs.size (Obj.mapSeq (·.push Value.none))).update s.heap.objs.size (Obj.mapSeq (·.pop))).objs.size=s.heap.objs.size+2:=by rw [Heap.size_update,Heap.size_update,z2,z1]
 generalize (g2.update s.heap.objs.size (Obj.mapSeq (·.push Value.none))).update s.heap.objs.size (Obj.mapSeq (·.pop))=g4 at l4 k4 z4
 have neI:a≠g1.objs.size:=by rw [z1];exact Nat.ne_of_lt (Nat.lt_succ_of_lt la)
 have neS:s.heap.objs.size∉[g1.objs.size,a]:=by
  rw [z1];intro hm
  rcases List.mem_cons.mp hm with e|e
  ·exact absurd e (Nat.ne_of_lt (Nat.lt_succ_self _))
  ·exact neA (List.mem_singleton.mp e)
 have hh2:A.in1.handled=none:=by simp [hh]
 have i4:iN g4 g1.objs.size a (nslot w S 0) 0 (mem4 S).length ep:=by
  have:=k4 _ _ (by rw [z1];exact Nat.ne_of_gt (Nat.lt_succ_self _)) i2
  have e:nslot w S 0=0:=by unfold nslot slot;split<;>rfl
  rw [e];exact this
 refine wpAny_pure ⟨plainId_quiet PySem.F.plain_extend_loop _,codeAny_extend_loopS ((A7x (prog:=prog) (w:=w) hh2 g1.objs.size a neI S f ep).toS) (by have:=nU (S 0) (S 1) (S 2) (S 3);show(L (S 0) (S 1) (S 2) (S 3)).length<=_;rw [sizeLine_eq];omega) s.heap.objs.size neS _ (mem4 S).length 0 {s with heap:=g4} _ _ rfl (Nat.zero_le _)
  ⟨i4,k4 _ _ neA.symm o2⟩ l4 (ItemsOf.nil _) fun s' acc' c' hm hS' hacc=> ?_⟩
 show wpAny _ A (load s.heap.objs.size>>=_) _ _ s'
 refine wpAny_bind (wpAny_load hS' ?_)
 have eacc:acc'.toList=ord w a S f ep:=by
  refine List.ext_getElem? fun j=> ?_
  rw [Array.getElem?_toList]
  by_cases hj:j<acc'.size
  ·rw [Array.getElem?_eq_getElem hj]
   exact(hacc.2 j acc'[j] (Array.getElem?_eq_getElem hj)).symm
  ·rw [Array.getElem?_eq_none (by omega),List.getElem?_eq_none (by rw [jK,←hacc.1];omega)]
 obtain⟨h',g',d',tk',os'⟩:=s'
 have eg:g'=s.gens:=hm.gens
 have ed:d'=s.drawn:=hm.drawn
 have eo:os'=s.os:=hm.os
 subst eg;subst ed;subst eo
 refine wpAny_pure ?_
 show Q acc'.toList _
 rw [eacc]
 have kk:∀b o,s.heap.get? b=some o->h'.get? b=some o:=fun b o e=>by
  have hb:=Heap.lt_size e
  refine hm.heap b o (fun hmm=> ?_) (k4 b o (Nat.ne_of_lt hb) (k2 _ _ (k1 _ _ e)))
  rcases List.mem_cons.mp hmm with z|z
  ·exact Nat.ne_of_lt hb z
  ·rw [z1]at z
   exact Nat.ne_of_lt (Nat.lt_succ_of_lt hb) (List.mem_singleton.mp z)
 exact h h' tk' kk (Nat.le_of_lt (Heap.lt_size hS'))
theorem A93 (S:Nat->Bool):((mem4 S).map fun k:Nat=>(k:Int)).Pairwise (· <= ·):=by
 unfold mem4
 cases S 0<;>cases S 1<;>cases S 2<;>cases S 3<;>decide
end
end Set4
namespace L2
open PySem PySem.Spec PyProof.Rows Srt Set4
def nJ (w:World)(a:Addr)(S:Nat->Bool):HO:=.ext fun h=>IsS4 h a S (!byT w)
section
variable {X:Cx}
theorem A66 (hc:X.calm=true):dX X (.type "set") (fun xs H Q=> ∃(p:Addr)(ns:List Nat),xs=[.ref p]/\SqL X.K H p (ns.map fun n:Nat=>V.int (n:Int))/\(∀n∈ns,n<4)/\∀l,H l=none->Q (.ref l) (upd H l (nJ X.w l fun k=>decide (k∈ns)))):=by
 intro pins s σ H xs us Q I r h
 obtain⟨p,ns,rfl,hq,h4,q⟩:=h
 obtain⟨u,rfl,rx⟩:=eT r
 cases rx
 obtain⟨its,rv,pl,hz⟩:=I.list hq
 have hl:=rv.length
 rw [List.length_map]at hl
 have hval:∀(i:Nat)(v:Value),its.toArray[i]?=some v->∃t,v= .int ((ns.getD i 0:Nat):Int) t:=fun i v e=>by
  have e':its[i]?=some v:=by simpa using e
  have hi:i<ns.length:=by rw [hl];exact(List.getElem?_eq_some_iff.mp e').1
  obtain⟨u,hu,ru⟩:=rv.get (i:=i) (x:=V.int ((ns[i]:Nat):Int)) (by rw [List.getElem?_map,List.getElem?_eq_getElem hi];rfl)
  rw [e']at hu;cases hu
  rw [show ns.getD i 0=ns[i] by simp [hi]]
  exact ru
 refine A85 (I.ok.hd hc) pl.isList (val:=fun i=>ns.getD i 0) hval (fun i hi=> ?_) fun h' tk hS hk=> ?_
 ·have hi':i<ns.length:=by rw [hl];simpa using hi
  show ns.getD i 0<4
  rw [show ns.getD i 0=ns[i] by simp [hi']]
  exact h4 _ (List.getElem_mem _)
 ·have eS:acc (fun i=>ns.getD i 0) its.toArray.size=fun k=>decide (k∈ns):=funext fun k=>by
   rw [Bool.eq_iff_iff,wW,decide_eq_true_eq,List.size_toArray,←hl]
   constructor
   ·rintro⟨j,hj,e⟩
    have e':ns.getD j 0=k:=e
    rw [show ns.getD j 0=ns[j] by simp [hj]]at e'
    rw [←e'];exact List.getElem_mem _
   ·intro hm
    obtain⟨j,hj,e⟩:=List.getElem_of_mem hm
    exact⟨j,hj,by show ns.getD j 0=k;rw [show ns.getD j 0=ns[j] by simp [hj]];exact e⟩
  rw [eS]at hS
  obtain⟨f,ep,hf,ho⟩:=id hS
  exact⟨.ref s.heap.objs.size,_,I.laid (t':=tk) (fun b o q=>hk b o (Heap.lt_size q) q) (Nat.le_refl _) (o:=nJ X.w _ _) ⟨hS,⟨_,ho⟩,fun h1 h2 x e=>x.at e⟩,rfl,q _ (I.hok.fresh (Nat.le_refl _))⟩
theorem A2g:∀{ns:List Int}{us:List Value},us.map numOf=ns->(∀u∈us,∃n t,u= .int n t)->Vals (ns.map V.int) us
 |_,[],rfl,_=> .nil
 |_,u::us,rfl,h=>by
  obtain⟨n,t,rfl⟩:=h u List.mem_cons_self
  exact .cons ⟨t,rfl⟩ (A2g rfl fun v hv=>h v (List.mem_cons_of_mem _ hv))
theorem A4h (hc:X.calm=true):dX X (.builtin "sorted") (fun xs H Q=> ∃(p:Addr)(S:Nat->Bool),xs=[.ref p]/\H p=some (nJ X.w p S)/\∀l,H l=none->Q (.ref l) (upd H l (.lst ((mem4 S).map fun k:Nat=>V.int (k:Int))))):=by
 intro pins s σ H xs us Q I r h
 obtain⟨p,S,rfl,hp,q⟩:=h
 obtain⟨u,rfl,rx⟩:=eT r
 cases rx
 obtain⟨⟨f,ep,hf,ho⟩,_,_⟩:=(show ObjOk X.prog X.w H s.heap p (nJ X.w p S)from I.hok _ _ hp)
 have hperm:=nS X.w p S f ep
 have hlen:=jK X.w p S f ep
 have h4:(mem4 S).length<=4:=nU (S 0) (S 1) (S 2) (S 3)
 have hint:∀v∈ord X.w p S f ep,∃n t,v= .int n t:=fun v hv=>by
  obtain⟨k,hk,rfl⟩:=List.mem_map.mp (hperm.mem_iff.mp hv)
  obtain⟨a,b⟩:=mem_mem4.mp hk
  obtain⟨t,e⟩:=hf k a b
  exact⟨_,t,e⟩
 generalize hvs:ord X.w p S f ep=vs at hperm hlen hint
 have hnum:(vs.map numOf).Perm ((mem4 S).map fun k:Nat=>(k:Int)):=by
  refine(hperm.map numOf).trans (List.Perm.of_eq ?_)
  rw [List.map_map]
  refine List.map_congr_left fun k hk=> ?_
  obtain⟨a,b⟩:=mem_mem4.mp hk
  obtain⟨t,e⟩:=hf k a b
  show numOf (f k)=_
  rw [e];rfl
 have hI:IntsAre vs (vs.map numOf):=intsAre_map vs hint
 refine A0m (κ:=oneType') (r:=fun i=>numOf (vs.getD i Value.none)) (vs:=vs) (by omega) (fun Q' k=>A67 (by simp [I.ok.hd hc]) ho fun h1 tk k1 z1=>by rw [hvs];exact k h1 tk k1 z1) (fun h1 tk k1 h2=> ⟨fun Q2 q2=> ?_,fun i j C hi hj hC=> ?_⟩) fun D h' tk c pp hD hpm hu o' k'=> ?_
 ·obtain⟨v1,v2,rest,e⟩:∃v1 v2 rest,vs=v1::v2::rest:=by
   match vs,h2 with
   |v1::v2::rest,_=>exact⟨v1,v2,rest,rfl⟩
  subst e
  rw [keyKind_ints hI]
  exact wpAny_pure q2
 ·show wpAny _ _ (keyLt' oneType' (vs.getD i Value.none) (vs.getD j Value.none)) C (fun _ _=>False) _
  obtain⟨n,t,e⟩:=hint _ (List.getElem_mem hi)
  obtain⟨n2,t2,e2⟩:=hint _ (List.getElem_mem hj)
  have ei:vs.getD i Value.none= .int n t:=by rw [←e];simp [hi]
  have ej:vs.getD j Value.none= .int n2 t2:=by rw [←e2];simp [hj]
  have hC':C (decide (n<n2)) {s with heap:=h1,toks:=tk}:=by
   have z:decide ((fun i=>numOf (vs.getD i Value.none)) i<(fun i=>numOf (vs.getD i Value.none)) j)=decide (n<n2):=by
    refine decide_eq_decide.mpr ?_
    show numOf (vs.getD i Value.none)<numOf (vs.getD j Value.none)↔_
    rw [ei,ej];exact Iff.rfl
   rw [z]at hC;exact hC
  rw [ei,ej]
  exact W.kat_lt_int hC'
 ·have pperm:=Array.perm_iff_toList_perm.mp hpm
  have outp:(pp.toList.map fun i=>vs.getD i Value.none).Perm vs:=by
   refine(pperm.map fun i=>vs.getD i Value.none).trans (List.Perm.of_eq ?_)
   exact zH vs
  have hup:((pp.toList.map fun i=>vs.getD i Value.none).map numOf).Pairwise (· <= ·):=by
   rw [List.map_map,List.pairwise_map,List.pairwise_iff_getElem]
   intro i j hi hj hij
   have hsz:pp.toList.length=vs.length:=by rw [Array.length_toList,hpm.size]
   have h1:=hu i j (by omega) (by omega)
   have e:∀k (hk:k<pp.toList.length),at' pp k=pp.toList[k]:=fun k hk=>by
    have:k<pp.size:=by simpa using hk
    unfold at';simp [Array.getD,this]
   unfold R at h1
   rw [e i hi,e j hj]at h1
   exact h1
  have eout:(pp.toList.map fun i=>vs.getD i Value.none).map numOf=(mem4 S).map fun k:Nat=>(k:Int):=W.ksm_same ((outp.map numOf).trans hnum) hup (A93 S)
  have hv:Vals (((mem4 S).map fun k:Nat=>(k:Int)).map V.int) (pp.toList.map fun i=>vs.getD i Value.none):=A2g eout fun u hu'=>hint u (outp.mem_iff.mp hu')
  rw [List.map_map]at hv
  exact⟨.ref D,_,I.laid (t':=tk) (o:=.lst ((mem4 S).map fun k:Nat=>V.int (k:Int))) k' hD ⟨by rw [List.length_map,sizeLine_eq];omega,_,c,hv,o'⟩,rfl,q _ (I.hok.fresh hD)⟩
end
end L2
namespace M04
open PySem L2 PyProof.Rows Set4
def holdS (cl:List C3):Nat->Bool:=fun k=>hX cl (k:Int)
theorem B2a {cl:List C3}(h:∀c∈cl,0<=c.1):(fun k=>decide (k∈cl.map fun c=>c.1.toNat))=holdS cl:=funext fun k=>by
 unfold holdS hX
 rw [Bool.eq_iff_iff,decide_eq_true_eq,List.mem_map,List.any_eq_true]
 constructor
 ·rintro⟨c,hc,e⟩
  exact⟨c,hc,decide_eq_true (by have:=h c hc;omega)⟩
 ·rintro⟨c,hc,e⟩
  have:=of_decide_eq_true e
  exact⟨c,hc,by omega⟩
def rO:Sp:=fun vs H Q _=> ∃a cl,vs=[.ref a]/\ClT H a cl/\gQ cl/\∀l H',Same H H'->H' l=some (.lst ((mem4 (holdS cl)).map fun k:Nat=>V.int (k:Int)))->Q (.ref l) H'
section
variable {P:Program}{w:World}{K:W.Frag}{mg:Str->Option Value}{base:Heap}
theorem A5f:bH ["_law_claims_here"] ["_law_claims_here"] (aQ mP):=by ac_rfl
theorem A60:(["_law_claim"]:List Str).Nodup:=by decide +kernel
theorem A3j {f:Addr}{fd:FuncData}(F:Fun K "_law_holders" "_law_holders" mP f fd)(T:Txt mg):aR P w K mg base CX0 1 f fd ["_law_claims_here"] rO:=by
 refine F.ok A5f (fun vs H Q E h=> ?_) (fun cdv A outer s H vs Q E hr h=> ?_)
 ·obtain⟨a,cl,rfl,_⟩:=h;rfl
 ·obtain⟨a,cl,rfl,⟨bs,ha,hC⟩,G,q⟩:=h
  have hl:bs.length=cl.length:=Paired.length hC
  have h12:=G.l12
  refine⟨_,aV (aZ (bB (A4h rfl) rfl T.sorted lS (bQ (fS (A66 rfl) rfl T.set PyProof.Rows.boot_set (fW (dL (aQ mP).names ["_law_claims_here"] ["_law_claim"] [] rfl (eV (pv 0)) rfl rfl rfl (by decide +kernel)
   (fun Z=>bL (i:=0) A60 rfl (Or.inl rfl)) (fun Z=>fJ) (fun Z=>bR fU (pv 0) aL (fun _ _=>rfl))) aF)) aF))),?_⟩
  refine⟨_,rfl,a,rfl,⟨_,SqT.of ha⟩,fun Z l hl0=> ?_⟩
  refine A10 (rest:=[]) gZ (fun H' hs=>SqT.of (hs _ _ ha)) hC hl0 (by omega) (fun c=> .int c.1) (fun b c H' Q' hm he hs hq=> ⟨_,rfl,b,_,0,.int c.1,rfl,rfl,SqT.of he,bF (j:=0) rfl,hq _ (Same.refl _)⟩) fun σ H' hs hl2=> ?_
  have h0:∀c∈cl,0<=c.1:=fun c hc=>(G.num c hc).1.1
  have e2:(cl.map fun c=>V.int c.1)=(cl.map fun c=>c.1.toNat).map fun n:Nat=>V.int (n:Int):=by
   rw [List.map_map]
   refine List.map_congr_left fun c hc=> ?_
   have:=h0 c hc
   show V.int c.1=V.int ((c.1.toNat:Nat):Int)
   rw [Int.toNat_of_nonneg this]
  rw [e2]at hl2
  refine⟨l,cl.map fun c=>c.1.toNat,rfl,SqL.of hl2,fun n hn=> ?_,fun l2 hl3=> ?_⟩
  ·obtain⟨c,hc,rfl⟩:=List.mem_map.mp hn
   have:=(G.num c hc).1
   omega
  ·rw [B2a h0]
   have s2:=aJ (o:=nJ w l2 (holdS cl)) hl3
   refine⟨l2,holdS cl,rfl,aI,fun l4 hl4=> ?_⟩
   have s3:=aJ (o:=.lst ((mem4 (holdS cl)).map fun k:Nat=>V.int (k:Int))) hl4
   exact q l4 _ ((hs.trans s2).trans s3) aI
end
end M04
namespace L2
open PySem PySem.Spec PyProof.Rows
def Dt (H:Hp)(n D:Nat)(v:V):Prop:=∃d,RdA H d v/\Gd n D d/\(d.hasDict=true->fK d=false)
def Dp (H:Hp)(n D:Nat)(v:V):Prop:=∃d,RdA H d v/\Gd n D d/\d.hasDict=false/\fK d=false
theorem Dp.dt {H:Hp}{n D:Nat}{v:V}(h:Dp H n D v):Dt H n D v:=let ⟨d,h1,h2,_,h4⟩:=h;⟨d,h1,h2,fun _=>h4⟩
theorem Dt.same {H H':Hp}{n D:Nat}{v:V}(h:Dt H n D v)(s:Same H H'):Dt H' n D v:=let ⟨d,h1,h2⟩:=h;⟨d,h1.same s,h2⟩
theorem Dp.same {H H':Hp}{n D:Nat}{v:V}(h:Dp H n D v)(s:Same H H'):Dp H' n D v:=let ⟨d,h1,h2⟩:=h;⟨d,h1.same s,h2⟩
theorem Dt.mono {H:Hp}{n m D E:Nat}{v:V}(h:Dt H n D v)(h1:n<=m)(h2:D<=E):Dt H m E v:=let ⟨d,a,b,c⟩:=h;⟨d,a,b.mono h1 h2,c⟩
theorem Dp.mono {H:Hp}{n m D E:Nat}{v:V}(h:Dp H n D v)(h1:n<=m)(h2:D<=E):Dp H m E v:=let ⟨d,a,b,c⟩:=h;⟨d,a,b.mono h1 h2,c⟩
theorem Gd.atom {n D:Nat}{d:PyData}(h1:d.showable=true)(h2:d.leavesShort 64=true)(h3:d.weight<=n)(h4:d.depth=0)(h5:hJ d=true:=by simp only [hJ]):Gd n D d:=⟨h1,h2,h3,by omega,h5⟩
theorem Dp.non {H:Hp}{n D:Nat}:Dp H n D .non:=⟨.none,by simp only [RdA],.atom (by simp only [PyData.showable]) (by simp only [PyData.leavesShort]) (by simp only [PyData.weight];omega) (by simp only [PyData.depth]),by simp only [PyData.hasDict],by simp only [fK]⟩
theorem Dp.bl {H:Hp}{n D:Nat}(b:Bool):Dp H n D (.bl b):=⟨.bool b,by simp only [RdA],.atom (by simp only [PyData.showable]) (by simp only [PyData.leavesShort]) (by simp only [PyData.weight];omega) (by simp only [PyData.depth]),by simp only [PyData.hasDict],by simp only [fK]⟩
theorem Dp.int {H:Hp}{n D:Nat}(i:Int)(h:i.natAbs<10^40)(hw:i.natAbs<2^n)(h1:1<=n):Dp H n D (.int i):=by
 refine⟨.int i,by simp only [RdA],.atom ?_ ?_ ?_ (by simp only [PyData.depth]),by simp only [PyData.hasDict],by simp only [fK]⟩
 ·simp only [PyData.showable,decide_eq_true_eq]
  by_cases z:i.natAbs=0
  ·rw [z];decide
  ·rw [Nat.log2_lt z]
   exact Nat.lt_of_lt_of_le h (by decide +kernel)
 ·simp only [PyData.leavesShort,decide_eq_true_eq]
  have e:=int_text_length_le10 (k:=40) (by decide) h
  show(Str.ofString (toString i)).length<=64
  rw [PySem.ofString_length];omega
 ·simp only [PyData.weight]
  split
  ·omega
  ·rename_i z
   have z':i.natAbs≠0:=by simpa using z
   have:=(Nat.log2_lt z').mpr hw
   omega
theorem Dp.num {H:Hp}{D:Nat}(i:Int)(h:i.natAbs<128):Dp H 7 D (.int i):=Dp.int i (Nat.lt_of_lt_of_le h (by decide +kernel)) h (by decide)
theorem Dp.big {H:Hp}{D:Nat}(i:Int)(h:i.natAbs<10^40):Dp H 140 D (.int i):=Dp.int i h (Nat.lt_of_lt_of_le h (by decide +kernel)) (by decide)
theorem Dp.str {H:Hp}{n D:Nat}(x:Str)(h:x.cps.toList.all (fun c=>decide (c<16^8))=true)(hn:x.cps.size<=n):Dp H n D (.str x):=
 ⟨.str x,by simp only [RdA],.atom (by simp only [PyData.showable]) (by simp only [PyData.leavesShort];exact h) (by simp only [PyData.weight];exact hn) (by simp only [PyData.depth]),by simp only [PyData.hasDict],by simp only [fK]⟩
theorem Dp.all {H:Hp}{n D:Nat}:∀{xs:List V},(∀x∈xs,Dp H n D x)->∃ds,RdAs H ds xs/\ds.length=xs.length/\(∀d∈ds,Gd n D d)/\PyData.hasDictAll ds=false/\gF ds=false
 | [],_=> ⟨[],by simp only [RdAs],rfl,fun d h=>by simp at h,by simp only [PyData.hasDictAll],by simp only [gF]⟩
 |x::xs,h=>by
  obtain⟨d,a1,a2,a3,a4⟩:=h x List.mem_cons_self
  obtain⟨ds,b1,b2,b3,b4,b5⟩:=Dp.all fun y hy=>h y (List.mem_cons_of_mem _ hy)
  refine⟨d::ds,?_,by rw [List.length_cons,List.length_cons,b2],fun d' h'=> ?_,?_,?_⟩
  ·simp only [RdAs];exact⟨x,xs,rfl,a1,b1⟩
  ·rcases List.mem_cons.mp h' with rfl|h'
   ·exact a2
   ·exact b3 d' h'
  ·simp only [PyData.hasDictAll,a3,b4,Bool.or_self]
  ·simp only [gF,a4,b5,Bool.or_self]
theorem Gd.tup {n D:Nat}{ds:List PyData}{m:Nat}(h:∀d∈ds,Gd n D d)(hm:ds.length<=m)(hk:m<=1000):Gd (m*(n+1)) (D+1) (.tuple ds):=by
 obtain⟨h1,h2,h3,h4,h5⟩:=Gd.all h
 refine⟨by simp only [PyData.showable];exact h1,by simp only [PyData.leavesShort];exact h2,?_,by simp only [PyData.depth];omega,by simp only [hJ,h5,Bool.and_true,decide_eq_true_eq];omega⟩
 simp only [PyData.weight]
 exact Nat.le_trans h3 (Nat.mul_le_mul_right _ hm)
theorem Gd.lst {n D:Nat}{ds:List PyData}{m:Nat}(h:∀d∈ds,Gd n D d)(hm:ds.length<=m):Gd (m*(n+1)) (D+1) (.list ds):=by
 obtain⟨h1,h2,h3,h4,h5⟩:=Gd.all h
 refine⟨by simp only [PyData.showable];exact h1,by simp only [PyData.leavesShort];exact h2,?_,by simp only [PyData.depth];omega,by simp only [hJ];exact h5⟩
 simp only [PyData.weight]
 exact Nat.le_trans h3 (Nat.mul_le_mul_right _ hm)
theorem Dp.tup {H:Hp}{n D m:Nat}{a:Addr}{xs:List V}(ha:H a=some (.tup xs))(h:∀x∈xs,Dp H n D x)(hm:xs.length<=m)(hk:m<=1000:=by first|decide|omega):Dp H (m*(n+1)) (D+1) (.ref a):=by
 obtain⟨ds,b1,b2,b3,b4,b5⟩:=Dp.all h
 exact⟨.tuple ds,by simp only [RdA];exact⟨a,xs,rfl,ha,b1⟩,Gd.tup b3 (by omega) hk,by simp only [PyData.hasDict];exact b4,by simp only [fK];exact b5⟩
theorem Dt.lst {H:Hp}{n D m:Nat}{a:Addr}{xs:List V}(ha:H a=some (.lst xs))(h:∀x∈xs,Dp H n D x)(hm:xs.length<=m):Dt H (m*(n+1)) (D+1) (.ref a):=by
 obtain⟨ds,b1,b2,b3,b4,b5⟩:=Dp.all h
 exact⟨.list ds,by simp only [RdA];exact⟨a,xs,rfl,ha,b1⟩,Gd.lst b3 (by omega),fun z=>by simp only [PyData.hasDict]at z;rw [b4]at z;cases z⟩
theorem A1c {H:Hp}:∀{ds es:List PyData}{xs ys:List V},RdAs H ds xs->RdAs H es ys->RdAs H (ds++es) (xs++ys)
 | [],es,xs,ys,h1,h2=>by simp only [RdAs]at h1;subst h1;exact h2
 |d::ds,es,xs,ys,h1,h2=>by
  simp only [RdAs]at h1
  obtain⟨y,zs,rfl,a,b⟩:=h1
  rw [List.cons_append,List.cons_append]
  simp only [RdAs]
  exact⟨y,zs++ys,rfl,a,A1c b h2⟩
theorem zS:∀ds es:List PyData,PyData.hasDictAll (ds++es)=(PyData.hasDictAll ds||PyData.hasDictAll es)
 | [],es=>by simp [PyData.hasDictAll]
 |d::ds,es=>by simp only [List.cons_append,PyData.hasDictAll,zS ds es,Bool.or_assoc]
theorem yE:∀ds es:List PyData,gF (ds++es)=(gF ds||gF es)
 | [],es=>by simp [gF]
 |d::ds,es=>by simp only [List.cons_append,gF,yE ds es,Bool.or_assoc]
theorem A06:∀ds es:List PyData,PyData.weightAll (ds++es)=PyData.weightAll ds+PyData.weightAll es
 | [],es=>by simp [PyData.weightAll]
 |d::ds,es=>by simp only [List.cons_append,PyData.weightAll,A06 ds es];omega
theorem yU:∀ds es:List PyData,PyData.depthAll (ds++es)=max (PyData.depthAll ds) (PyData.depthAll es)
 | [],es=>by simp [PyData.depthAll]
 |d::ds,es=>by simp only [List.cons_append,PyData.depthAll,yU ds es];omega
theorem A0w:∀ds es:List PyData,fO (ds++es)=(fO ds&&fO es)
 | [],es=>by simp [fO]
 |d::ds,es=>by simp only [List.cons_append,fO,A0w ds es,Bool.and_assoc]
theorem yF:∀ds es:List PyData,PyData.showableAll (ds++es)=(PyData.showableAll ds&&PyData.showableAll es)
 | [],es=>by simp [PyData.showableAll]
 |d::ds,es=>by simp only [List.cons_append,PyData.showableAll,yF ds es,Bool.and_assoc]
theorem yW:∀ds es:List PyData,PyData.leavesShortAll 64 (ds++es)=(PyData.leavesShortAll 64 ds&&PyData.leavesShortAll 64 es)
 | [],es=>by simp [PyData.leavesShortAll]
 |d::ds,es=>by simp only [List.cons_append,PyData.leavesShortAll,yW ds es,Bool.and_assoc]
theorem Dt.mid {H:Hp}{n k D m:Nat}{a:Addr}{xs ys:List V}{y:V}(ha:H a=some (.tup (xs++y::ys)))(hx:∀x∈xs,Dp H n D x)(hy:Dt H k D y)(hz:∀x∈ys,Dp H n D x)(hm:xs.length+ys.length<=m)(hk:m<1000:=by first|decide|omega):Dt H (m*(n+1)+k+1) (D+1) (.ref a):=by
 obtain⟨ds,b1,b2,b3,b4,b5⟩:=Dp.all hx
 obtain⟨d,a1,a2,a3⟩:=hy
 obtain⟨es,c1,c2,c3,c4,c5⟩:=Dp.all hz
 obtain⟨p1,p2,p3,p4,p5⟩:=Gd.all b3
 obtain⟨q1,q2,q3,q4,q5⟩:=Gd.all c3
 refine⟨.tuple (ds++d::es),?_,⟨?_,?_,?_,?_,?_⟩,fun z=> ?_⟩
 ·simp only [RdA]
  refine⟨a,xs++y::ys,rfl,ha,A1c b1 ?_⟩
  simp only [RdAs];exact⟨y,ys,rfl,a1,c1⟩
 ·simp only [PyData.showable,yF,PyData.showableAll,p1,q1,a2.sh,Bool.and_self]
 ·simp only [PyData.leavesShort,yW,PyData.leavesShortAll,p2,q2,a2.lv,Bool.and_self]
 ·simp only [PyData.weight,A06,PyData.weightAll]
  have:=a2.wt
  have e:ds.length*(n+1)+es.length*(n+1)<=m*(n+1):=by rw [←Nat.add_mul];exact Nat.mul_le_mul_right _ (by omega)
  omega
 ·simp only [PyData.depth,yU,PyData.depthAll]
  have:=a2.dp
  omega
 ·simp only [hJ,A0w,fO,p5,q5,a2.ln,Bool.and_self,Bool.and_true,decide_eq_true_eq,List.length_append,List.length_cons]
  omega
 ·simp only [PyData.hasDict,zS,PyData.hasDictAll,b4,c4,Bool.false_or,Bool.or_false]at z
  simp only [fK,yE,gF,b5,c5,a3 z,Bool.or_self]
theorem Dt.dict0 {H:Hp}{n D:Nat}{a:Addr}(ha:H a=some (.dK [])):Dt H n (D+1) (.ref a):=by
 refine⟨.dict [],by simp only [RdA];exact⟨a,[],rfl,ha,by simp only [RdKv]⟩,⟨by simp only [PyData.showable,PyData.showableKv],by simp only [PyData.leavesShort,PyData.leavesShortKv],by simp only [PyData.weight,PyData.weightKv];omega,by simp only [PyData.depth,PyData.depthKv];omega,by simp only [hJ]⟩,fun _=>by simp only [fK,pS]⟩
theorem Dt.dict1 {H:Hp}{n D:Nat}{a:Addr}(ha:H a=some (.dK [(Sum.inl 0,.int 0)]))(hn:2<=n):Dt H n (D+1) (.ref a):=by
 have z:(PyData.int 0).showable=true/\(PyData.int 0).leavesShort 64=true/\(PyData.int 0).weight=0/\(PyData.int 0).depth=0:=by
  refine⟨by simp only [PyData.showable,decide_eq_true_eq];decide,by simp only [PyData.leavesShort];decide +kernel,by simp [PyData.weight],by simp only [PyData.depth]⟩
 obtain⟨z1,z2,z3,z4⟩:=z
 refine⟨.dict [(.int 0,.int 0)],?_,⟨by simp only [PyData.showable,PyData.showableKv]at z1⊢;rw [z1];rfl,by simp only [PyData.leavesShort,PyData.leavesShortKv]at z2⊢;rw [z2];rfl,by rw [PyData.weight,PyData.weightKv,PyData.weightKv,z3];omega,by rw [PyData.depth,PyData.depthKv,PyData.depthKv,z4];omega,by simp only [hJ]⟩,fun _=>by simp only [fK,pS,Bool.or_self]⟩
 simp only [RdA]
 refine⟨a,_,rfl,ha,?_⟩
 simp only [RdKv]
 exact⟨Sum.inl 0,.int 0,[],rfl,by simp only [RdA];rfl,by simp only [RdA],rfl⟩
def wo (p:Addr)(H:Hp):Hp:=fun b=>if b=p then none else H b
theorem fL {p a:Addr}{H:Hp}{o:HO}(h:H a=some o)(hn:a≠p):wo p H a=some o:=by unfold wo;rw [if_neg hn];exact h
theorem rH (p:Addr)(H:Hp):Same (wo p H) H:=fun b o e=>by
 unfold wo at e
 by_cases h:b=p
 ·rw [if_pos h]at e;cases e
 ·rw [if_neg h]at e;exact e
theorem Stp.wo {p:Addr}{H H':Hp}(s:Stp p H H'):Same (wo p H) (wo p H'):=fun b o e=>by
 unfold L2.wo at e⊢
 by_cases h:b=p
 ·rw [if_pos h]at e;cases e
 ·rw [if_neg h]at e⊢;exact s.keep b o h e
theorem Same.wo {p:Addr}{H H':Hp}(s:Same H H'):Same (wo p H) (wo p H'):=fun b o e=>by
 unfold L2.wo at e⊢
 by_cases h:b=p
 ·rw [if_pos h]at e;cases e
 ·rw [if_neg h]at e⊢;exact s b o e
theorem A01 {H:Hp}:∀{ds:List PyData}{xs:List V},RdAs H ds xs->xs.length=ds.length/\ds.length<=PyData.weightAll ds
 | [],xs,h=>by simp only [RdAs]at h;subst h;simp [PyData.weightAll]
 |d::ds,xs,h=>by
  simp only [RdAs]at h
  obtain⟨y,ys,rfl,_,h2⟩:=h
  have:=A01 h2
  simp only [List.length_cons,PyData.weightAll];omega
mutual
theorem wQ {H:Hp}:∀(d:PyData)(v:V),RdA H d v->hJ d=true->KnA H v
 | .none,_,h,_=>by simp only [RdA]at h;subst h;exact KnA.non
 | .bool b,_,h,_=>by simp only [RdA]at h;subst h;exact KnA.bl b
 | .int i,_,h,_=>by simp only [RdA]at h;subst h;exact KnA.int i
 | .str x,_,h,_=>by simp only [RdA]at h;subst h;exact KnA.str x
 | .list ds,_,h,_=>by simp only [RdA]at h;obtain⟨a,xs,rfl,ha,_⟩:=h;exact KnA.lst ha
 | .tuple ds,_,h,hw=>by
  simp only [RdA]at h
  obtain⟨a,xs,rfl,ha,hx⟩:=h
  simp only [hJ,Bool.and_eq_true,decide_eq_true_eq]at hw
  obtain⟨l1,l2⟩:=A01 hx
  exact KnA.tup ha (by omega) (A1e ds xs hx hw.2)
 | .dict kvs,_,h,_=>by simp only [RdA]at h;obtain⟨a,xs,rfl,ha,_⟩:=h;exact KnA.dct ha
theorem A1e {H:Hp}:∀(ds:List PyData)(xs:List V),RdAs H ds xs->fO ds=true->∀x∈xs,KnA H x
 | [],_,h,_=>by simp only [RdAs]at h;subst h;intro x hx;cases hx
 |d::ds,_,h,hw=>by
  simp only [RdAs]at h
  obtain⟨y,ys,rfl,h1,h2⟩:=h
  simp only [fO,Bool.and_eq_true]at hw
  intro x hx
  rcases List.mem_cons.mp hx with rfl|hx
  ·exact wQ d x h1 hw.1
  ·exact A1e ds ys h2 hw.2 x hx
end
theorem Dt.kn {H:Hp}{n D:Nat}{v:V}(h:Dt H n D v):KnA H v:=let ⟨d,h1,h2,_⟩:=h;wQ d v h1 h2.ln
section
variable {X:Cx}{es:List Expr}{t:TA}{te:TE}
theorem iU {x pos}(he:PE X (.Name x pos) te)(hr:PAq X es t):PAq X (.Name x pos::es) (cF te t):=by unfold PAq at*;exact aG he hr
end
section
variable {X:Cx}{es:List Expr}{t:TA}{te:TE}{p1 pos:Pos}
theorem vD {i:Nat}{x:Str}{pos':Pos}(hN:X.N.Nodup)(hi:X.N[i]?=some x)(hx:Loc X.env.scope x)(h:PAq X es t)(hs:swapsWith (.List es p1) (some (.Name x pos')) pos.line X.env=pure false:=by rfl)
  (hf:X.fn x=true\/X.env.scope.names.lookup x=some .local:=by first|exact .inl rfl|exact .inr rfl|assumption):PSq X (.Assign [.Name x pos'] (.List es p1) pos) (qD (sI t) (dJ i)):=by
 unfold PSq;exact dR hN hi hx (fC (lU h)) hs hf
theorem dq0:PEq X (.Dict [] [] pos) A00:=by unfold PEq;exact A8z
theorem dq1 {i j:Int}{n m p q}:PEq X (.Dict [some (.Constant (.int i) n p)] [.Constant (.int j) m q] pos) (xU [(tC (.int i),tC (.int j))]):=by unfold PEq;exact A02 (wB aL aL A04) rfl rfl (by simp) (by simp)
theorem A1r {a b pos}(he:PEq X (.Dict a b pos) te)(hr:PAq X es t):PAq X (.Dict a b pos::es) (cF te t):=by unfold PEq at he;unfold PAq at*;exact A8m he hr
end
def nw (H H':Hp):Hp:=fun b=>match H b with|none=>H' b|some _=>none
theorem fZ {H H':Hp}{a:Addr}{o:HO}(h:H' a=some o)(hn:H a=none):nw H H' a=some o:=by unfold nw;rw [hn];exact h
theorem tZ {H H':Hp}{a:Addr}{o:HO}(h:nw H H' a=some o):H a=none/\H' a=some o:=by
 unfold nw at h
 cases e:H a with
 |none=>rw [e]at h;exact⟨rfl,h⟩
 |some u=>rw [e]at h;cases h
theorem uQ {p:Addr}{H H':Hp}(hp:PenAt H p):Same (nw H H') (wo p H'):=fun b o e=>by
 obtain⟨h1,h2⟩:=tZ e
 exact fL h2 fun z=>by obtain⟨x,f,e'⟩:=hp;rw [z,e']at h1;cases h1
theorem Same.nw {H H1 H2:Hp}(s:Same H1 H2):Same (nw H H1) (nw H H2):=fun b o e=>by
 obtain⟨h1,h2⟩:=tZ e
 exact fZ (s _ _ h2) h1
theorem Stp.nw {p:Addr}{H H1 H2:Hp}(s:Stp p H1 H2)(hp:PenAt H p):Same (nw H H1) (nw H H2):=fun b o e=>by
 obtain⟨h1,h2⟩:=tZ e
 refine fZ (s.keep _ _ (fun z=> ?_) h2) h1
 obtain⟨x,f,e'⟩:=hp
 rw [z,e']at h1;cases h1
theorem Same.back {H H':Hp}{b:Addr}(s:Same H H')(h:H' b=none):H b=none:=by
 cases e:H b with
 |none=>rfl
 |some o=>rw [s _ _ e]at h;cases h
theorem PenAt.fresh {p l:Addr}{H:Hp}(h:PenAt H p)(hl:H l=none):l≠p:=fun z=>by
 obtain⟨x,f,e⟩:=h
 rw [z,e]at hl;cases hl
theorem PenAt.same {p:Addr}{H H':Hp}(h:PenAt H p)(s:Same H H'):PenAt H' p:=let ⟨x,f,e⟩:=h;⟨x,f,s _ _ e⟩
theorem Same.put {H H2:Hp}{d:Addr}{o:HO}(s:Same H H2)(hd:H d=none):Same H (upd H2 d o):=fun b u e=>by rw [aS (cB e hd)];exact s _ _ e
end L2
namespace L2
theorem Dp.mid {H:Hp}{D:Nat}(i:Int)(h:i.natAbs<2048):Dp H 11 D (.int i):=Dp.int i (Nat.lt_of_lt_of_le h (by decide +kernel)) h (by decide)
end L2
namespace M04
open PySem L2 PyProof.Rows
def rP:Sp:=fun vs H Q _=> ∃p,vs=[.ref p]/\PenAt H p/\∀v H',Stp p H H'->Dt (nw H H') 150 3 v->Q v H'
def vF:Sp:=fun vs H Q _=> ∃p lo hi,vs=[.ref p,.int lo,.int hi]/\PenAt H p/\(-2<=lo/\lo<=1000)/\(-2<=hi/\hi<=1000)/\∀v H',Stp p H H'->Dt (wo p H') 150 3 v->Q v H'
def wG:Sp:=fun vs H Q _=> ∃p a xs,vs=[.ref p,.ref a]/\PenAt H p/\H a=some (.tup xs)/\1<=xs.length/\xs.length<=1000/\∀v H',v∈xs->Stp p H H'->Q v H'
section
variable {P:Program}{w:World}{K:W.Frag}{mg:Str->Option Value}{base:Heap}
theorem A3o {f g1:Addr}{fd d1:FuncData}(F:Fun K "_law_pick" "_law_pick" mJ f fd)(T:Txt mg)(a1:At P w K mg base 1 "_law_draw" g1 d1 ["_law_pen_here","_law_bound"] jS):aR P w K mg base CX0 2 f fd ["_law_pen_here","_law_things"] wG:=by
 refine F.ok A0s (fun vs H Q E h=> ?_) (fun cdv A outer s H vs Q E hr h=> ?_)
 ·obtain⟨p,l,xs,rfl,_⟩:=h;rfl
 ·obtain⟨p,l,xs,rfl,hp,hl,h1,hz,q⟩:=h
  have hlp:l≠p:=hp.ne hl (by intro z;simp)
  refine⟨_,aV (aZ (bR fU (pv 1) (aX a1.ok hr rfl a1.nm a1.kp a1.bd .nil bA (aG (pv 0) (bQ (bB eR rfl T.len PySem.boot_len (aG (pv 1) aF)) aF))) (fun _ _=>rfl))),?_⟩
  refine⟨_,rfl,_,rfl,_,rfl,l,xs,rfl,.inr (SqT.of hl),p,(xs.length:Int),rfl,hp,by omega,by omega,fun d H' d0 d1' st=> ?_⟩
  obtain⟨n,rfl⟩:=Int.eq_ofNat_of_zero_le d0
  have hn:n<xs.length:=by omega
  exact⟨l,xs,_,xs[n],rfl,rfl,SqT.of (st.keep l _ hlp hl),bF (List.getElem?_eq_getElem hn),q _ _ (List.getElem_mem _) st⟩
theorem scOdd:bH ["_law_pen_here","_law_least","_law_greatest","_law_far"] ["_law_pen_here","_law_least","_law_greatest"] (aQ rJ):=by ac_rfl
theorem A2y {f g1:Addr}{fd d1:FuncData}(F:Fun K "_law_odd" "_law_odd" rJ f fd)(a1:At P w K mg base 2 "_law_pick" g1 d1 ["_law_pen_here","_law_things"] kE):aR P w K mg base CX0 3 f fd ["_law_pen_here","_law_least","_law_greatest"] vF:=by
 refine F.ok scOdd (fun vs H Q E h=> ?_) (fun cdv A outer s H vs Q E hr h=> ?_)
 ·obtain⟨p,lo,hi,rfl,_⟩:=h;rfl
 ·obtain⟨p,lo,hi,rfl,hp,hlo,hhi,q⟩:=h
  have nd:=scOdd.nd
  refine⟨_,wI (vD (i:=3) nd rfl (Or.inl rfl) (iU (pv 1) (iU (pv 2) (kH (bJ nY (pv 1) aL) (kH (bJ fX (pv 2) aL) (kH (bJ rS aL aL) (yP (zO yI (bJ rS aL aL)) (oY (oY (wS (eJ (jG (tupq (cJ bY)) (eY (lstq (cJ bY)) bY)))))))))))))
   (aV (aZ (aX a1.ok hr rfl a1.nm a1.kp a1.bd .nil bA (aG (pv 0) (aG (pv 3) aF))))),?_⟩
  refine⟨_,rfl,_,rfl,_,rfl,_,_,rfl,rfl,_,rfl,_,_,rfl,rfl,_,_,rfl,rfl,⟨by decide,by decide,by decide⟩,_,_,rfl,rfl,⟨by decide,by decide,by decide⟩,_,rfl,by show 1<=sizeLine;decide,fun t1 ht1=> ⟨by show 1<=sizeLine;decide,fun l1 hl1=> ⟨by show 12<=sizeLine;decide,fun l2 hl2=> ?_⟩⟩⟩
  have s1:=aJ (o:=.tup [.int 1]) ht1
  have s2:=s1.trans (aJ (o:=.lst [.int 0]) hl1)
  have n1:=hp.fresh ht1
  have n2:=(hp.same s1).fresh hl1
  have f1:(upd (upd H t1 (.tup [.int 1])) l1 (.lst [.int 0])) t1=some (.tup [.int 1]):=aJ hl1 _ _ aI
  have f2:(upd (upd H t1 (.tup [.int 1])) l1 (.lst [.int 0])) l1=some (.lst [.int 0]):=aI
  generalize upd (upd H t1 (.tup [.int 1])) l1 (.lst [.int 0])=HA at s2 f1 f2 hl2⊢
  have nB:=(hp.same s2).fresh hl2
  have eB:=aJ (o:=.lst [.int lo,.int hi,.int (lo - 1),.int (hi+1),.int (10^39),.int (-10^39),.bl true,.bl false,.non,.str "1",.ref t1,.ref l1]) hl2
  refine⟨_,rfl,_,rfl,p,l2,_,rfl,(hp.same s2).same eB,nB,aI,by show 1<=12;decide,by show 12<=1000;decide,fun v H' hv st=> ?_⟩
  have stA:=((Stp.refl hp).same s2).same eB
  refine q v H' (stA.trans st) (Dt.same (H:=wo p HA) ?_ (eB.wo.trans st.wo))
  simp only [List.mem_cons,List.not_mem_nil,or_false]at hv
  rcases hv with rfl|rfl|rfl|rfl|rfl|rfl|rfl|rfl|rfl|rfl|rfl|rfl
  ·exact((Dp.mid lo (by omega)).mono (by decide) (by decide:0<=3)).dt
  ·exact((Dp.mid hi (by omega)).mono (by decide) (by decide:0<=3)).dt
  ·exact((Dp.mid (lo - 1) (by omega)).mono (by decide) (by decide:0<=3)).dt
  ·exact((Dp.mid (hi+1) (by omega)).mono (by decide) (by decide:0<=3)).dt
  ·exact((Dp.big (10^39) (by decide +kernel)).mono (by decide) (by decide:0<=3)).dt
  ·exact((Dp.big (-10^39) (by decide +kernel)).mono (by decide) (by decide:0<=3)).dt
  ·exact(Dp.bl true).dt
  ·exact(Dp.bl false).dt
  ·exact Dp.non.dt
  ·exact(Dp.str "1" (by decide +kernel) (by decide)).dt
  ·refine((Dp.tup (n:=7) (D:=0) (m:=1) (fL f1 n1) (fun x hx=> ?_) (Nat.le_refl _)).mono (by decide) (by decide)).dt
   rw [List.mem_singleton.mp hx];exact Dp.num 1 (by decide)
  ·refine(Dt.lst (n:=7) (D:=0) (m:=1) (fL f2 n2) (fun x hx=> ?_) (Nat.le_refl _)).mono (by decide) (by decide)
   rw [List.mem_singleton.mp hx];exact Dp.num 0 (by decide)
end
theorem nQ {xs:List V}{lo hi:Option Int}{x:V}(h:x∈cO xs lo hi):x∈xs:=List.mem_of_mem_drop (List.mem_of_mem_take h)
def wC:Sp:=fun vs H Q _=> ∃(p a:Addr)(xs:List V)(n m:Nat),vs=[.ref p,.ref a]/\PenAt H p/\H a=some (.tup xs)/\(∀x∈xs,Dp (wo p H) n 3 x)/\1<=xs.length/\xs.length<=m/\m<=100/\
 ∀v H',Stp p H H'->Dt (wo p H') (2*m*(n+1)+151) 4 v->Q v H'
section
variable {P:Program}{w:World}{K:W.Frag}{mg:Str->Option Value}{base:Heap}
abbrev A99:List Str:=["_law_pen_here","_law_thing_here","_law_way","_law_at","_law_odd_here","_law_other","_law_row"]
theorem scBent:bH A99 ["_law_pen_here","_law_thing_here"] (aQ oS):=by ac_rfl
theorem zE {n:Nat}{i:Int}(h0:0<=i)(h1:i<n):ixN n i=some i.toNat:=by
 unfold ixN;rw [if_pos h0,if_pos h1]
theorem xR {p c:Addr}{H:Hp}{n m:Nat}{xs:List V}{odd:V}{a b c' d:Option Int}(hp:PenAt H p)(hc:H c=some (.tup (cO xs a b++[odd]++cO xs c' d)))(hx:∀x∈xs,Dp (wo p H) n 3 x)(ho:Dt (wo p H) 150 3 odd)(hm:xs.length<=m)(hm2:m<=100):Dt (wo p H) (2*m*(n+1)+151) 4 (.ref c):=by
 have hcp:c≠p:=hp.ne hc (by intro z;simp)
 have l1:=iW xs a b
 have l2:=iW xs c' d
 have hc':H c=some (.tup (cO xs a b++odd::cO xs c' d)):=by rw [hc,List.append_assoc];rfl
 have:=Dt.mid (m:=2*m) (fL hc' hcp) (fun x h=>hx x (nQ h)) ho (fun x h=>hx x (nQ h)) (by omega)
 exact this.mono (by omega) (by decide)
theorem A7a {f g1 g2:Addr}{fd d1 d2:FuncData}(F:Fun K "_law_bent" "_law_bent" oS f fd)(T:Txt mg)(a1:At P w K mg base 1 "_law_draw" g1 d1 ["_law_pen_here","_law_bound"] jS)(a2:At P w K mg base 3 "_law_anything" g2 d2 ["_law_pen_here"] rP):aR P w K mg base CX0 4 f fd ["_law_pen_here","_law_thing_here"] wC:=by
  refine F.ok scBent (fun vs H Q E h=> ?_) (fun cdv A outer s H vs Q E hr h=> ?_)
  · obtain⟨p,a,xs,n,m,rfl,_⟩:=h;rfl
  · obtain⟨p,a,xs,n,m,rfl,hp,ha,hx,h1,hm,hm2,q⟩:=h
    have nd:=scBent.nd
    have r1:Room 1 _:=hr.mono (by decide)
    have hu:(A.deeper (envOfC "_law_bent" (aQ oS) s.heap.objs.size f cdv)).units+1<cLine:=iL hr
    refine⟨_,aW (B0u (i:=2) (j:=3) (k:=4) rfl nd rfl rfl rfl (by decide) (by decide) (by decide) rfl rfl rfl (bQ (aX a1.ok r1 rfl a1.nm a1.kp a1.bd .nil bA (aG (pv 0) (bS aL aF))) (bQ (aX a1.ok r1 rfl a1.nm a1.kp a1.bd .nil bA (aG (pv 0) (fV (bJ fX (bB eR rfl T.len PySem.boot_len (aG (pv 1) aF)) aL) aF))) (bQ (aX a2.ok hr rfl a2.nm a2.kp a2.bd .nil bA (aG (pv 0) aF)) aF))) rfl)<|
      aW (bU (bP dG (pv 2) aL (nomark _)) (aV (aZ (bJ iK (bJ iK (fF gG (pv 1) fM (fA (pv 3))) (dF (aG (pv 4) aF))) (fF gG (pv 1) (fA (pv 3)) fM)))) bT)<|
      aW (bU (bP dG (pv 2) aL (nomark _)) (aV (aZ (bJ iK (fF gG (pv 1) fM (fA (pv 3))) (fF gG (pv 1) (fA (bJ fX (pv 3) aL)) fM)))) bT)<|
      aW (bU (PW.pt (jA (bP dG (pv 2) aL (nomark _)) (kG (bP (A7t hu) (pv 1) (dF aF) (nomark _)))))
        (aW (dR (i:=5) nd rfl (Or.inl rfl) (aX a1.ok r1 rfl a1.nm a1.kp a1.bd .nil bA (aG (pv 0) (bQ (bB eR rfl T.len PySem.boot_len (aG (pv 1) aF)) aF))))<|
         aW (oF (i:=6) (j:=3) rfl nd rfl rfl (by decide) rfl rfl (bQ (fS A08 rfl T.list boot_list (aG (pv 1) aF)) (fV (bJ jR (pv 3) (bB eR rfl T.len PySem.boot_len (aG (pv 1) aF))) aF)) rfl)<|
         aW (pM (dF (eF (bR cG (pv 6) (pv 3) (fun _ _=>rfl)) (eF (bR cG (pv 6) (pv 5) (fun _ _=>rfl)) aF))) (gX rfl (cK (rB (pv 6) (pv 5) rY) (cK (rB (pv 6) (pv 3) rY) gJ))))<|
         aV (aZ (fS kK rfl T.tuple boot_tuple (aG (pv 6) aF)))) bT)<|
      aW (bU (bP dG (pv 2) aL (nomark _)) (aV (aZ (fS A08 rfl T.list boot_list (aG (pv 1) aF)))) bT)<|
      aV (aZ (bJ iK (bJ iK (fF gG (pv 1) fM (fA (pv 3))) (dF (aG (pv 4) aF))) (fF gG (pv 1) (fA (bJ fX (pv 3) aL)) fM))),?_⟩
    have hap:a≠p:=hp.ne ha (by intro z;simp)
    refine⟨_,rfl,p,6,rfl,hp,by decide,by decide,fun way H1 w0 w1 st1=> ?_⟩
    refine⟨_,rfl,_,rfl,a,xs,rfl,.inr (SqT.of (st1.keep a _ hap ha)),_,_,rfl,rfl,p,(xs.length:Int)+1,rfl,st1.pen,by omega,by omega,fun at' H2 b0 b1 st2=> ?_⟩
    have st12:=st1.trans st2
    refine⟨_,rfl,p,rfl,st12.pen,fun odd H3 st3 hodd0=> ?_⟩
    have hodd:=hodd0.same (uQ st12.pen)
    have st:=st12.trans st3
    have ha3:=st.keep a _ hap ha
    have hx3:∀x∈xs,Dp (wo p H3) n 3 x:=fun x h=>(hx x h).same st.wo
    have hsl:∀lo hi,(cO xs lo hi).length<=100:=fun lo hi=>by have:=iW xs lo hi;omega
    refine⟨_,_,_,rfl,?_⟩
    have mid:∀(Hc:Hp)(c1:Addr)(lo2:Int),Same H3 Hc->Hc c1=some (.tup (cO xs none (some at')))->∀c2:Addr,Hc c2=none->
        ∀(c3:Addr)(H5:Hp),Same (upd Hc c2 (.tup [odd])) H5->H5 c3=some (.tup (cO xs none (some at')++[odd]))->∀(c4:Addr)(H6:Hp),Same H5 H6->H6 c4=some (.tup (cO xs (some lo2) none))->
        ∀(c5:Addr)(H7:Hp),Same H6 H7->H7 c5=some (.tup (cO xs none (some at')++[odd]++cO xs (some lo2) none))->Q (.ref c5) H7:=fun Hc c1 lo2 s1 e1 c2 e2 c3 H5 s2 e3 c4 H6 s3 e4 c5 H7 s4 e5=>by
      have sA:=(((s1.trans (aJ (o:=.tup [odd]) e2)).trans s2).trans s3).trans s4
      refine q _ _ (st.same sA) ?_
      exact xR (st.same sA).pen e5 (fun x h=>(hx3 x h).same sA.wo) (hodd.same sA.wo) hm hm2
    refine⟨_,rfl,rfl,_,rfl,cW (fun _=> ?_) fun _=> ?_⟩
    · refine⟨_,rfl,_,rfl,_,rfl,a,xs,rfl,ha3,fun c1 H4 s1 e1=> ?_⟩
      refine⟨_,rfl,by show 1<=sizeLine;decide,fun c2 e2=> ?_⟩
      have z1:=hsl none (some at')
      have z2:=hsl (some at') none
      refine⟨c1,c2,_,_,rfl,rfl,aJ e2 _ _ e1,aI,by rw [sizeLine_eq];show _+1<=_;omega,fun c3 H5 s2 e3=> ?_⟩
      have s15:=(s1.trans (aJ (o:=.tup [odd]) e2)).trans s2
      refine⟨_,rfl,_,rfl,_,rfl,a,xs,rfl,s15 _ _ ha3,fun c4 H6 s3 e4=> ?_⟩
      refine⟨c3,c4,_,_,rfl,rfl,s3 _ _ e3,e4,by rw [sizeLine_eq,List.length_append];show _+1+_<=_;omega,fun c5 H7 s4 e5=> ?_⟩
      exact mid H4 c1 at' s1 e1 c2 e2 c3 H5 s2 e3 c4 H6 s3 e4 c5 H7 s4 e5
    refine⟨_,rfl,rfl,_,rfl,cW (fun _=> ?_) fun _=> ?_⟩
    · refine⟨_,rfl,_,rfl,_,rfl,a,xs,rfl,ha3,fun c1 H4 s1 e1=> ?_⟩
      have z1:=hsl none (some at')
      have z2:=hsl (some (at'+1)) none
      refine⟨_,rfl,_,rfl,_,_,rfl,rfl,_,rfl,a,xs,rfl,s1 _ _ ha3,fun c4 H6 s3 e4=> ?_⟩
      refine⟨c1,c4,_,_,rfl,rfl,s3 _ _ e1,e4,by rw [sizeLine_eq];omega,fun c5 H7 s4 e5=> ?_⟩
      have sA:=(s1.trans s3).trans s4
      have l1:=iW xs none (some at')
      have l2:=iW xs (some (at'+1)) none
      refine q _ _ (st.same sA) ?_
      have hcp:c5≠p:=(st.same sA).pen.ne e5 (by intro z;simp)
      refine((Dp.tup (n:=n) (D:=3) (m:=2*m) (fL e5 hcp) (fun x h=> ?_) (by rw [List.length_append];omega)).mono (by omega) (by decide)).dt
      rcases List.mem_append.mp h with h|h
      · exact(hx3 x (nQ h)).same sA.wo
      · exact(hx3 x (nQ h)).same sA.wo
    refine⟨_,rfl,rfl,_,rfl,cW (fun _=> ?_) fun _=> ?_⟩
    · refine⟨_,rfl,by show 0<=sizeLine;decide,fun c0 e0=> ?_⟩
      have s0:=aJ (o:=.tup []) e0
      refine⟨a,c0,xs,rfl,rfl,s0 _ _ ha3,aI,(fun z=>by rw [z]at h1;simp at h1),_,rfl,bE ?_⟩
      have stB:=st.same s0
      refine⟨_,rfl,_,rfl,a,xs,rfl,.inr (SqT.of (s0 _ _ ha3)),p,(xs.length:Int),rfl,stB.pen,by omega,by omega,fun ot H4 o0 o1 st4=> ?_⟩
      have stC:=stB.trans st4
      have ha4:=st4.keep a _ hap (s0 _ _ ha3)
      refine⟨_,rfl,a,xs,rfl,.inr (SqT.of ha4),fun l hl=> ?_⟩
      have s5:=aJ (o:=.lst xs) hl
      refine⟨_,rfl,_,rfl,a,xs,rfl,.inr (SqT.of (s5 _ _ ha4)),_,_,rfl,rfl,(by show(0:Int)<xs.length;omega),?_⟩
      refine⟨_,_,rfl,?_⟩
      have hm0:0<=at'%(xs.length:Int):=Int.emod_nonneg _ (by omega)
      have hm1:at'%(xs.length:Int)<xs.length:=Int.emod_lt_of_pos _ (by omega)
      obtain⟨mn,emn⟩:=Int.eq_ofNat_of_zero_le hm0
      rw [emn]at hm1
      have ev:(fun i j:Int=>V.int (i%j)) at' (xs.length:Int)=V.int mn:=by show V.int (at'%(xs.length:Int))=_;rw [emn]
      rw [ev]
      obtain⟨on,rfl⟩:=Int.eq_ofNat_of_zero_le o0
      have hmn:mn<xs.length:=by omega
      have hon:on<xs.length:=by omega
      refine⟨_,rfl,_,rfl,l,xs,mn,xs[mn],rfl,rfl,SqL.of aI,bF (List.getElem?_eq_getElem hmn),?_⟩
      refine⟨_,rfl,_,rfl,l,xs,on,xs[on],rfl,rfl,SqL.of aI,bF (List.getElem?_eq_getElem hon),?_⟩
      refine⟨by show 2<=sizeLine;decide,fun t ht=> ?_⟩
      have s6:=aJ (o:=.tup [xs[mn],xs[on]]) ht
      have hl6:(upd (upd H4 l (.lst xs)) t (.tup [xs[mn],xs[on]])) l=some (.lst xs):=s6 _ _ aI
      refine⟨t,_,rfl,SqT.of aI,rfl,_,_,rfl,?_⟩
      refine⟨_,rfl,_,rfl,l,xs,on,on,rfl,rfl,hl6,zE (by omega) (by omega),?_⟩
      refine⟨_,_,rfl,_,rfl,_,rfl,l,xs.set on xs[mn],mn,mn,rfl,rfl,aI,zE (by omega) (by rw [List.length_set];omega),?_⟩
      refine⟨rfl,?_⟩
      have sF:=(((aJ (o:=.lst xs) hl).trans s6).put (o:=.lst (xs.set on xs[mn])) hl).put (o:=.lst ((xs.set on xs[mn]).set mn xs[on])) hl
      refine⟨_,rfl,l,(xs.set on xs[mn]).set mn xs[on],rfl,.inl ⟨SqL.of aI,fun tt htt=> ?_⟩⟩
      have sG:=sF.trans (aJ (o:=.tup ((xs.set on xs[mn]).set mn xs[on])) htt)
      have stD:=stC.same sG
      have hcp:tt≠p:=(stC.same sF).pen.fresh htt
      have sW:=(s0.wo (p:=p)).trans (st4.wo.trans sG.wo)
      refine q _ _ stD ((Dp.tup (n:=n) (D:=3) (m:=m) (fL aI hcp) (fun x h=> ?_) (by rw [List.length_set,List.length_set];exact hm)).mono ?_ (by decide)).dt
      · refine(hx3 x ?_).same sW
        rcases List.mem_or_eq_of_mem_set h with z|z
        · rcases List.mem_or_eq_of_mem_set z with z|z
          · exact z
          · rw [z];exact List.getElem_mem _
        · rw [z];exact List.getElem_mem _
      · have:m*(n+1)<=2*m*(n+1):=Nat.mul_le_mul_right _ (by omega)
        omega
    refine⟨_,rfl,rfl,_,rfl,cW (fun _=> ?_) fun _=> ?_⟩
    · refine⟨_,rfl,a,xs,rfl,.inr (SqT.of ha3),fun l hl=> ?_⟩
      have s5:=aJ (o:=.lst xs) hl
      have hlp:=st.pen.fresh hl
      refine q _ _ (st.same s5) ((Dt.lst (m:=m) (fL aI hlp) (fun x h=>(hx3 x h).same s5.wo) hm).mono ?_ (by decide))
      have:m*(n+1)<=2*m*(n+1):=Nat.mul_le_mul_right _ (by omega)
      omega
    · refine⟨_,rfl,_,rfl,_,rfl,a,xs,rfl,ha3,fun c1 H4 s1 e1=> ?_⟩
      refine⟨_,rfl,by show 1<=sizeLine;decide,fun c2 e2=> ?_⟩
      have z1:=hsl none (some at')
      have z2:=hsl (some (at'+1)) none
      refine⟨c1,c2,_,_,rfl,rfl,aJ e2 _ _ e1,aI,by rw [sizeLine_eq];show _+1<=_;omega,fun c3 H5 s2 e3=> ?_⟩
      have s15:=(s1.trans (aJ (o:=.tup [odd]) e2)).trans s2
      refine⟨_,rfl,_,rfl,_,_,rfl,rfl,_,rfl,a,xs,rfl,s15 _ _ ha3,fun c4 H6 s3 e4=> ?_⟩
      refine⟨c3,c4,_,_,rfl,rfl,s3 _ _ e3,e4,by rw [sizeLine_eq,List.length_append];show _+1+_<=_;omega,fun c5 H7 s4 e5=> ?_⟩
      exact mid H4 c1 (at'+1) s1 e1 c2 e2 c3 H5 s2 e3 c4 H6 s3 e4 c5 H7 s4 e5
end
section
variable {P:Program}{w:World}{K:W.Frag}{mg:Str->Option Value}{base:Heap}
theorem scAny:bH ["_law_pen_here","_law_odd_here"] ["_law_pen_here"] (aQ fT):=by ac_rfl
theorem A4k {f:Addr}{cdv:Value}{A:Around}{outer:List Env}{s:Shared}{E:XK}{H:Hp}{p:Addr}(hp:PenAt H p):∃t,PSq (cN CX0 P w K mg base ["_law_pen_here","_law_odd_here"] "_law_anything" (aQ fT) f cdv A outer s H E).nox ((bX fT).getD 0 (.Pass ⟨0,0,0,0⟩)) t/\
  ∀D:cQ,(∀l xs H',Same H H'->H' l=some (.lst xs)->l≠p->1<=xs.length->xs.length<=1000->(∀v∈xs,Dt (nw H H') 150 3 v)->D.nx [some (.ref p),some (.ref l)] H')->t D [some (.ref p),none] H:=by
 have nd:=scAny.nd
 refine⟨_,(vD (i:=1) nd rfl (Or.inl rfl) (wS (oY (oY (eJ (eJ (jG (tupq bY) (eY (lstq bY) (A1r dq0 (yP (zO yI aL) (kH (bJ rS aL aL) (cJ (cJ (jG (tupq (cJ bY)) (eY (lstq (cJ bY)) (jG (tupq (jG (tupq bY) bY)) (jG (tupq (cJ (cJ (cJ bY)))) (A1r dq1 (jG (tupq (cJ (cJ bY))) bY))))))))))))))))))),fun D hD=> ?_⟩
 refine⟨by show 0<=sizeLine;decide,fun t0 ht0=> ⟨by show 0<=sizeLine;decide,fun l0 hl0=>fun d0 hd0=> ?_⟩⟩
 have s1:=aJ (o:=.tup []) ht0
 have s2:=s1.trans (aJ (o:=.lst []) hl0)
 have s3:=s2.trans (aJ (o:=.dK []) hd0)
 generalize hH3:upd (upd (upd H t0 (.tup [])) l0 (.lst [])) d0 (.dK [])=H3 at s3⊢
 have f0:H3 t0=some (.tup []):=by rw [←hH3];exact aJ hd0 _ _ (aJ hl0 _ _ aI)
 have f1:H3 l0=some (.lst []):=by rw [←hH3];exact aJ hd0 _ _ aI
 have f2:H3 d0=some (.dK []):=by rw [←hH3];exact aI
 have n0:=ht0
 have n1:=s1.back hl0
 have n2:=s2.back hd0
 clear hH3 ht0 hl0 hd0 s1 s2
 refine⟨_,rfl,_,_,rfl,rfl,⟨by decide,by decide,by decide⟩,by show 1<=sizeLine;decide,fun t1 ht1=> ⟨by show 1<=sizeLine;decide,fun l1 hl1=> ⟨by show 0<=sizeLine;decide,fun t2 ht2=> ⟨by show 1<=sizeLine;decide,fun t3 ht3=> ⟨by show 3<=sizeLine;decide,fun t4 ht4=> ?_⟩⟩⟩⟩⟩
 have s4:=s3.trans (aJ (o:=.tup [.int 0]) ht1)
 have s5:=s4.trans (aJ (o:=.lst [.int 0]) hl1)
 have s6:=s5.trans (aJ (o:=.tup []) ht2)
 have s7:=s6.trans (aJ (o:=.tup [.ref t2]) ht3)
 have s8:=s7.trans (aJ (o:=.tup [.int 0,.int 1,.int 2]) ht4)
 have n3:=s3.back ht1
 have n4:=s4.back hl1
 have n5:=s5.back ht2
 have n6:=s6.back ht3
 have n7:=s7.back ht4
 generalize hH8:upd (upd (upd (upd (upd H3 t1 (.tup [.int 0])) l1 (.lst [.int 0])) t2 (.tup [])) t3 (.tup [.ref t2])) t4 (.tup [.int 0,.int 1,.int 2])=H8 at s8⊢
 have e38:Same H3 H8:=by rw [←hH8];exact((((aJ ht1).trans (aJ hl1)).trans (aJ ht2)).trans (aJ ht3)).trans (aJ ht4)
 have f3:H8 t1=some (.tup [.int 0]):=by rw [←hH8];exact aJ ht4 _ _ (aJ ht3 _ _ (aJ ht2 _ _ (aJ hl1 _ _ aI)))
 have f4:H8 l1=some (.lst [.int 0]):=by rw [←hH8];exact aJ ht4 _ _ (aJ ht3 _ _ (aJ ht2 _ _ aI))
 have f5:H8 t2=some (.tup []):=by rw [←hH8];exact aJ ht4 _ _ (aJ ht3 _ _ aI)
 have f6:H8 t3=some (.tup [.ref t2]):=by rw [←hH8];exact aJ ht4 _ _ aI
 have f7:H8 t4=some (.tup [.int 0,.int 1,.int 2]):=by rw [←hH8];exact aI
 clear hH8 ht1 hl1 ht2 ht3 ht4 s4 s5 s6 s7
 intro d1' hd1
 refine⟨aI,[(Sum.inl 0,.int 0)],rfl,by decide,?_⟩
 have n8:=s8.back hd1
 have e8:Same H8 (upd (upd H8 d1' (.dK [])) d1' (.dK (iR [] [(Sum.inl 0,.int 0)]))):=(aJ hd1).put hd1
 have f8:(upd (upd H8 d1' (.dK [])) d1' (.dK (iR [] [(Sum.inl 0,.int 0)]))) d1'=some (.dK [(Sum.inl 0,.int 0)]):=aI
 generalize upd (upd H8 d1' (.dK [])) d1' (.dK (iR [] [(Sum.inl 0,.int 0)]))=H9 at e8 f8⊢
 refine⟨by show 2<=sizeLine;decide,fun t5 ht5=> ⟨by show 18<=sizeLine;decide,fun l2 hl2=> ?_⟩⟩
 have e9:=aJ (o:=.tup [.int 0,.int 0]) ht5
 have f9:(upd H9 t5 (.tup [.int 0,.int 0])) t5=some (.tup [.int 0,.int 0]):=aI
 have n9:=(s8.trans e8).back ht5
 generalize upd H9 t5 (.tup [.int 0,.int 0])=HA at e9 f9 hl2⊢
 have sA:Same H HA:=(s8.trans e8).trans e9
 have e8A:Same H8 HA:=e8.trans e9
 have eB:=aJ (o:=.lst [.non,.bl true,.bl false,.str "",.str "0",.ref t0,.ref l0,.ref d0,.int (-1),.int (10^39),.int 0,.int 7,.ref t1,.ref l1,.ref t3,.ref t4,.ref d1',.ref t5]) hl2
 have nB:=(hp.same sA).fresh hl2
 have sB:=sA.trans eB
 refine hD l2 _ _ sB aI nB (by show 1<=18;decide) (by show 18<=1000;decide) fun v hv=>Dt.same (H:=nw H HA) ?_ eB.nw
 have i0:∀x∈([.int 0]:List V),Dp (nw H HA) 7 0 x:=fun x hx=>by rw [List.mem_singleton.mp hx];exact Dp.num 0 (by decide)
 simp only [List.mem_cons,List.not_mem_nil,or_false]at hv
 rcases hv with rfl|rfl|rfl|rfl|rfl|rfl|rfl|rfl|rfl|rfl|rfl|rfl|rfl|rfl|rfl|rfl|rfl|rfl
 ·exact Dp.non.dt
 ·exact(Dp.bl true).dt
 ·exact(Dp.bl false).dt
 ·exact(Dp.str "" (by decide +kernel) (by decide)).dt
 ·exact(Dp.str "0" (by decide +kernel) (by decide)).dt
 ·exact((Dp.tup (n:=7) (D:=0) (m:=0) (fZ (e8A _ _ (e38 _ _ f0)) n0) (fun x hx=>by cases hx) (Nat.le_refl _)).mono (by decide) (by decide)).dt
 ·exact(Dt.lst (n:=7) (D:=0) (m:=0) (fZ (e8A _ _ (e38 _ _ f1)) n1) (fun x hx=>by cases hx) (Nat.le_refl _)).mono (by decide) (by decide)
 ·exact(Dt.dict0 (n:=0) (D:=0) (fZ (e8A _ _ (e38 _ _ f2)) n2)).mono (by decide) (by decide)
 ·exact((Dp.num (-1) (by decide)).mono (by decide) (by decide:0<=3)).dt
 ·exact((Dp.big (10^39) (by decide +kernel)).mono (by decide) (by decide:0<=3)).dt
 ·exact((Dp.num 0 (by decide)).mono (by decide) (by decide:0<=3)).dt
 ·exact((Dp.num 7 (by decide)).mono (by decide) (by decide:0<=3)).dt
 ·exact((Dp.tup (m:=1) (fZ (e8A _ _ f3) n3) i0 (Nat.le_refl _)).mono (by decide) (by decide)).dt
 ·exact(Dt.lst (m:=1) (fZ (e8A _ _ f4) n4) i0 (Nat.le_refl _)).mono (by decide) (by decide)
 ·refine((Dp.tup (n:=0) (D:=1) (m:=1) (fZ (e8A _ _ f6) n6) (fun x hx=> ?_) (Nat.le_refl _)).mono (by decide) (by decide)).dt
  rw [List.mem_singleton.mp hx]
  exact(Dp.tup (n:=7) (D:=0) (m:=0) (fZ (e8A _ _ f5) n5) (fun x hx=>by cases hx) (Nat.le_refl _)).mono (by decide) (by decide)
 ·refine((Dp.tup (n:=7) (D:=0) (m:=3) (fZ (e8A _ _ f7) n7) (fun x hx=> ?_) (Nat.le_refl _)).mono (by decide) (by decide)).dt
  simp only [List.mem_cons,List.not_mem_nil,or_false]at hx
  rcases hx with rfl|rfl|rfl<;>exact Dp.num _ (by decide)
 ·exact(Dt.dict1 (D:=0) (fZ (e9 _ _ f8) n8) (Nat.le_refl 2)).mono (by decide) (by decide)
 ·refine((Dp.tup (n:=7) (D:=0) (m:=2) (fZ f9 n9) (fun x hx=> ?_) (Nat.le_refl _)).mono (by decide) (by decide)).dt
  simp only [List.mem_cons,List.not_mem_nil,or_false]at hx
  rcases hx with rfl|rfl<;>exact Dp.num _ (by decide)
theorem A5p {f g1:Addr}{fd d1:FuncData}(F:Fun K "_law_anything" "_law_anything" fT f fd)(a1:At P w K mg base 2 "_law_pick" g1 d1 ["_law_pen_here","_law_things"] kE):aR P w K mg base CX0 3 f fd ["_law_pen_here"] rP:=by
 refine F.ok scAny (fun vs H Q E h=> ?_) (fun cdv A outer s H vs Q E hr h=> ?_)
 ·obtain⟨p,rfl,_⟩:=h;rfl
 ·obtain⟨p,rfl,hp,q⟩:=h
  have h2:∃t,PSs (cN CX0 P w K mg base ["_law_pen_here","_law_odd_here"] "_law_anything" (aQ fT) f cdv A outer s H E).nox ((bX fT).drop 1) t/\∀l xs H',Same H H'->H' l=some (.lst xs)->l≠p->1<=xs.length->xs.length<=1000->(∀v∈xs,Dt (nw H H') 150 3 v)->
    t {nx:=fun _ H'=>Q .non H',rt:=Q} [some (.ref p),some (.ref l)] H':=by
   refine⟨_,(aV (aZ (aX a1.ok hr rfl a1.nm a1.kp a1.bd .nil bA (aG (pv 0) (aG (pv 1) aF))))),fun l xs H' sH hl hlp h1 hz hx=> ?_⟩
   refine⟨_,rfl,_,rfl,p,l,xs,rfl,hp.same sH,hlp,hl,h1,hz,fun v H2 hv st=> ?_⟩
   exact q v H2 (((Stp.refl hp).same sH).trans st) ((hx v hv).same (st.nw hp))
  obtain⟨t1,h1,r1⟩:=A4k (P:=P) (w:=w) (K:=K) (mg:=mg) (base:=base) (f:=f) (cdv:=cdv) (A:=A) (outer:=outer) (s:=s) (E:=E) hp
  obtain⟨t2,h2,r2⟩:=h2
  have eb:bX fT=(bX fT).getD 0 (.Pass ⟨0,0,0,0⟩)::(bX fT).drop 1:=rfl
  rw [eb]
  generalize (bX fT).getD 0 (.Pass ⟨0,0,0,0⟩)=S0 at h1
  generalize (bX fT).drop 1=S1 at h2
  exact⟨_,wI h1 h2,r1 _ fun l xs H' a b c d e f=>r2 l xs H' a b c d e f⟩
end
end M04
namespace L2
open PySem PySem.Spec PyProof.Rows
theorem oV {X:Cx}{es:List Expr}{te:TE}{t:TA}{x pos}(he:PE X (.Name x pos) te)(hr:PAq X es t):PA X (.Name x pos::es) (cF te t):=aG he (lU hr)
theorem A1t {X:Cx}{a b:Expr}{op:Operator}{pos:Pos}{ta tb:TE}{R:R2}(ho:OpR X (binaryOp op) R)(ha:PE X a ta)(hb:PEq X b tb):PE X (.BinOp a op b pos) (tOp R ta tb):=by unfold PEq at hb;exact bJ ho ha hb
end L2
namespace M04
open PySem L2 PyProof.Rows
theorem A1p {H:Hp}{b:Addr}{c:C3}(h:H b=some (.tup [.int c.1,.int c.2.1,.int c.2.2]))(hn:qB c):Dp H 24 1 (.ref b):=by
 refine Dp.tup (n:=7) (D:=0) (m:=3) h (fun x hx=> ?_) (by show 3<=3;decide)
 unfold qB at hn
 simp only [List.mem_cons,List.not_mem_nil,or_false]at hx
 rcases hx with rfl|rfl|rfl<;>exact Dp.num _ (by omega)
theorem A1g {H:Hp}{p:Addr}(hp:PenAt H p){bs:List Addr}{cl:List C3}(hC:ClP H bs cl):ClP (wo p H) bs cl:=Paired.mapP hC fun _ _ e=>fL e (hp.ne e (by intro z;simp))
theorem yK {H:Hp}{bs:List Addr}{cl:List C3}(hC:ClP H bs cl)(hn:∀c∈cl,qB c):∀x∈bs.map V.ref,Dp H 24 1 x:=fun x hx=>by
 obtain⟨b,hb,rfl⟩:=List.mem_map.mp hx
 obtain⟨i,hi⟩:=List.getElem?_of_mem hb
 obtain⟨c,hc,he⟩:=hC.get hi
 exact A1p he (hn c (List.mem_of_getElem? hc))
def nH:Sp:=fun vs H Q _=> ∃p kd c cs,vs=[.ref p,.str kd,.ref c]/\PenAt H p/\hZ H c cs/\fY cs/\(kd= "holder" \/kd= "claims" \/kd= "custom" \/kd= "claim")/\∀v H',Stp p H H'->Dt (wo p H') 1000 30 v->Q v H'
section
variable {P:Program}{w:World}{K:W.Frag}{mg:Str->Option Value}{base:Heap}
abbrev A4m:List Str:=["_law_pen_here","_law_kind","_law_custom_here","_law_claims_here","_law_far","_law_good"]
theorem scThing:bH A4m ["_law_pen_here","_law_kind","_law_custom_here"] (aQ mX):=by ac_rfl
theorem A8f {f gC gP gO gB gA:Addr}{fd dC dP dO dB dA:FuncData}(F:Fun K "_law_thing" "_law_thing" mX f fd)(T:Txt mg)(aC:At P w K mg base 3 "_law_claims" gC dC ["_law_pen_here","_law_custom_here","_law_holders_here"] sL)
  (aP:At P w K mg base 2 "_law_pick" gP dP ["_law_pen_here","_law_things"] kE)(aT:At P w K mg base 2 "_law_pick" gP dP ["_law_pen_here","_law_things"] wG)(aO:At P w K mg base 3 "_law_odd" gO dO ["_law_pen_here","_law_least","_law_greatest"] vF)
  (aB:At P w K mg base 4 "_law_bent" gB dB ["_law_pen_here","_law_thing_here"] wC)(aA:At P w K mg base 3 "_law_anything" gA dA ["_law_pen_here"] rP):aR P w K mg base CX0 5 f fd ["_law_pen_here","_law_kind","_law_custom_here"] nH:=by
 refine F.ok scThing (fun vs H Q E h=> ?_) (fun cdv A outer s H vs Q E hr h=> ?_)
 ·obtain⟨p,kd,c,cs,rfl,_⟩:=h;rfl
 ·obtain⟨p,kd,c,cs,rfl,hp,hc,Gc,hk,q⟩:=h
  have nd:=scThing.nd
  have hu:(A.deeper (envOfC "_law_thing" (aQ mX) s.heap.objs.size f cdv)).units+1<cLine:=iL hr
  have r2:Room 2 _:=hr.mono (by decide)
  have r3:Room 3 _:=hr.mono (by decide)
  refine⟨_,aW (dR (i:=3) nd rfl (Or.inl rfl) (aX aC.ok r3 rfl aC.nm aC.kp aC.bd .nil bA (aG (pv 0) (oV (pv 2) (eY (lstq (cJ (cJ (cJ bY)))) bY)))))<|
   aW (xG (bP dG (pv 1) cX (nomark _)) (pX (aV (aZ (aX aP.ok r2 rfl aP.nm aP.kp aP.bd .nil bA (oV (pv 0) (eY (lstq (cJ (cJ (cJ (cJ (nA (aX aO.ok r3 rfl aO.nm aO.kp aO.bd .nil bA (aG (pv 0) (bS aL (bS aL aF)))) bY)))))) bY)))))) (pX bT))<|
   aW (xG (bP dG (pv 1) cX (nomark _)) (pX (aW (dR (i:=4) nd rfl (Or.inl rfl) (fS kK rfl T.tuple boot_tuple (bQ (bB wZ rfl T.sorted lS (fV (A1t iK (pv 3) (tupq (jG (tupq (cJ (cJ (cJ bY)))) bY))) aF)) aF)))
    (aV (aZ (aX aP.ok r2 rfl aP.nm aP.kp aP.bd .nil bA (oV (pv 0) (eY (lstq (iU (pv 3) (iU (pv 3) (iU (pv 3) (iU (pv 4) (nA (aX aB.ok hr rfl aB.nm aB.kp aB.bd .nil bA (aG (pv 0) (aG (pv 3) aF))) (nA (aX aA.ok r3 rfl aA.nm aA.kp aA.bd .nil bA (aG (pv 0) aF)) bY))))))) bY))))))) (pX bT))<|
   aW (dR (i:=5) nd rfl (Or.inl rfl) (A8x hu (A02 (wB cX (pv 2) (wB cX (aX aT.ok r2 rfl aT.nm aT.kp aT.bd .nil bA (aG (pv 0) (aG (pv 3) aF))) A04)) rfl rfl (by simp) (by simp)) (pv 1) (fun _ _=>rfl)))<|
   aV (aZ (aX aP.ok r2 rfl aP.nm aP.kp aP.bd .nil bA (oV (pv 0) (eY (lstq (iU (pv 5) (iU (pv 5) (iU (pv 5) (nA (aX aB.ok hr rfl aB.nm aB.kp aB.bd .nil bA (aG (pv 0) (aG (pv 5) aF))) (nA (aX aA.ok r3 rfl aA.nm aA.kp aA.bd .nil bA (aG (pv 0) aF))
    (kH (bJ iK (bJ iK (fF gG (pv 5) fM (fA aL)) (dF (bS eZ aF))) (fF gG (pv 5) (fA aL) fM)) bY))))))) bY)))),?_⟩
  have hcp:c≠p:=hp.ne hc (by intro z;simp)
  refine⟨_,rfl,_,rfl,by show 3<=sizeLine;decide,fun l0 hl0=> ?_⟩
  have s0:=aJ (o:=.lst [.int 0,.int 1,.int 2]) hl0
  refine⟨p,c,l0,cs,[0,1,2],rfl,hp.same s0,s0 _ _ hc,Gc,hp.fresh hl0,aI,⟨by decide,by decide,by decide⟩,fun a cl H1 st1 hA G hU=> ?_⟩
  have st:=(Stp.refl hp).same s0|>.trans st1
  have hc1:=st.keep c _ hcp hc
  obtain⟨bs,ha,hC⟩:=hA
  have hl:bs.length=cl.length:=Paired.length hC
  have hap:a≠p:=st.pen.ne ha (by intro z;simp)
  have l1:=G.l1
  have l12:=G.l12
  have zb:(bs.map V.ref).length<=12:=by rw [List.length_map];omega
  clear st1 s0 hl0
  have hne:∀x y:Str,x≠y->(V.str x=V.str y)->False:=fun x y h e=>h (V.str.inj e)
  refine⟨_,rfl,rfl,_,rfl,cW (fun z=> ?_) fun z=> ?_⟩
  ·
   refine⟨_,rfl,_,rfl,p,0,3,rfl,st.pen,⟨by decide,by decide⟩,⟨by decide,by decide⟩,fun odd H2 st2 ho=> ?_⟩
   have st:=st.trans st2
   refine⟨by show 5<=sizeLine;decide,fun l hl2=> ?_⟩
   have sl:=aJ (o:=.lst [.int 0,.int 1,.int 2,.int 3,odd]) hl2
   refine⟨p,l,_,rfl,st.pen.same sl,st.pen.fresh hl2,aI,by show 1<=5;decide,by show 5<=1000;decide,fun v H3 hv st3=> ?_⟩
   refine q v H3 ((st.same sl).trans st3) (Dt.same (H:=wo p H2) ?_ (sl.wo.trans st3.wo))
   simp only [List.mem_cons,List.not_mem_nil,or_false]at hv
   rcases hv with rfl|rfl|rfl|rfl|rfl
   ·exact((Dp.num 0 (by decide)).mono (by decide) (by decide:0<=30)).dt
   ·exact((Dp.num 1 (by decide)).mono (by decide) (by decide:0<=30)).dt
   ·exact((Dp.num 2 (by decide)).mono (by decide) (by decide:0<=30)).dt
   ·exact((Dp.num 3 (by decide)).mono (by decide) (by decide:0<=30)).dt
   ·exact ho.mono (by decide) (by decide)
  refine⟨_,rfl,rfl,_,rfl,cW (fun z2=> ?_) fun z2=> ?_⟩
  ·
   refine⟨_,rfl,by show 3<=sizeLine;decide,fun t1 ht1=> ⟨by show 1<=sizeLine;decide,fun t2 ht2=> ?_⟩⟩
   have s1:=aJ (o:=.tup [.int 3,.int 5,.int 1]) ht1
   have s2:=aJ (o:=.tup [.ref t1]) ht2
   refine⟨a,t2,_,_,rfl,rfl,s2 _ _ (s1 _ _ ha),aI,by rw [sizeLine_eq];show _+1<=_;omega,fun u H4 s4 hu4=> ?_⟩
   have sA:=(s1.trans s2).trans s4
   have ht1':H4 t1=some (.tup [.int 3,.int 5,.int 1]):=s4 _ _ (s2 _ _ aI)
   obtain⟨zs,z1,z2,z3⟩:=oK (hC.ext sA.ext)
   have hzl:=congrArg List.length z1
   rw [List.length_map]at hzl
   refine⟨u,zs++[(t1,[3,5,1])],rfl,SqT.of (by rw [hu4,List.map_append,←z1,List.map_map];rfl),fun z hz=> ?_,by rw [List.length_append];show zs.length+1<64;omega,fun l2 zs' hl3 hs2=> ?_⟩
   ·rcases List.mem_append.mp hz with y|y
    ·exact z3 z y
    ·rw [List.mem_singleton.mp y]
     exact⟨ht1',by simp⟩
   have s5:=aJ (o:=.lst (zs'.map fun z=>V.ref z.1)) hl3
   refine⟨l2,_,rfl,.inl ⟨SqL.of aI,fun a' ha'=> ?_⟩⟩
   have s6:=aJ (o:=.tup (zs'.map fun z=>V.ref z.1)) ha'
   have s16:=(sA.trans s5).trans s6
   have hfar:(upd (upd H4 l2 (.lst (zs'.map fun z=>V.ref z.1))) a' (.tup (zs'.map fun z=>V.ref z.1))) a'=some (.tup (zs'.map fun z=>V.ref z.1)):=aI
   have hT:∀z∈zs',Dp (wo p (upd (upd H4 l2 (.lst (zs'.map fun z=>V.ref z.1))) a' (.tup (zs'.map fun z=>V.ref z.1)))) 24 1 (.ref z.1):=fun z hz=>by
    have hpn:=(st.same sA).pen
    refine Dp.same ?_ ((s5.trans s6).wo (p:=p))
    rcases List.mem_append.mp (hs2.1.mem_iff.mp hz)with y|y
    ·have hm:V.ref z.1∈bs.map V.ref:=by rw [←z1,List.map_map];exact List.mem_map_of_mem (f:=V.ref∘fun x:Addr×List Int=>x.1) y
     exact yK (A1g hpn (hC.ext sA.ext)) G.num _ hm
    ·rw [List.mem_singleton.mp y]
     exact A1p (c:=(3,5,1)) (fL ht1' (hpn.ne ht1' (by intro z;simp))) (by unfold qB;decide)
   have hz'l:zs'.length<=13:=by
    have:=hs2.1.length_eq
    rw [List.length_append]at this
    have e:zs'.length=zs.length+1:=this
    omega
   generalize (upd (upd H4 l2 (.lst (zs'.map fun z=>V.ref z.1))) a' (.tup (zs'.map fun z=>V.ref z.1)))=H6 at s16 hfar hT⊢
   have st:=st.same s16
   have ha6:=s16 _ _ ha
   have hC6:=hC.ext s16.ext
   have hitems:=yK (A1g st.pen hC6) G.num
   refine⟨_,rfl,_,rfl,_,rfl,_,rfl,_,rfl,_,rfl,_,rfl,p,a,_,24,12,rfl,st.pen,ha6,fun x hx=>(hitems x hx).mono (Nat.le_refl _) (by decide),by rw [List.length_map];omega,zb,by decide,fun be H7 st7 hbe=> ?_⟩
   have stB:=st.trans st7
   refine⟨_,rfl,p,rfl,stB.pen,fun an H8 st8 han=> ?_⟩
   have stC:=stB.trans st8
   refine⟨by show 6<=sizeLine;decide,fun l hl2=> ?_⟩
   have sl:=aJ (o:=.lst [.ref a,.ref a,.ref a,.ref a',be,an]) hl2
   refine⟨p,l,_,rfl,stC.pen.same sl,stC.pen.fresh hl2,aI,by show 1<=6;decide,by show 6<=1000;decide,fun v H9 hv st9=> ?_⟩
   refine q v H9 ((stC.same sl).trans st9) (Dt.same (H:=wo p H8) ?_ (sl.wo.trans st9.wo))
   have w68:Same (wo p H6) (wo p H8):=st7.wo.trans st8.wo
   have hA8:Dt (wo p H8) 1000 30 (.ref a):=((Dp.tup (n:=24) (D:=1) (m:=12) (fL ha6 hap) hitems zb).mono (by decide) (by decide)).dt.same w68
   simp only [List.mem_cons,List.not_mem_nil,or_false]at hv
   rcases hv with rfl|rfl|rfl|rfl|rfl|rfl
   ·exact hA8
   ·exact hA8
   ·exact hA8
   ·refine((Dp.tup (n:=24) (D:=1) (m:=13) (fL hfar (st.pen.ne hfar (by intro z;simp))) (fun x hx=> ?_) (by rw [List.length_map];exact hz'l)).mono (by decide) (by decide)).dt.same w68
    obtain⟨z,hz,rfl⟩:=List.mem_map.mp hx
    exact hT z hz
   ·exact(hbe.same st8.wo).mono (by decide) (by decide)
   ·exact(han.same (uQ stB.pen)).mono (by decide) (by decide)
  intro pd hpd
  have sd:=aJ (o:=.dK []) hpd
  have hpp:pd≠p:=st.pen.fresh hpd
  have std:=st.same sd
  refine⟨_,rfl,_,rfl,_,rfl,p,a,_,rfl,std.pen,sd _ _ ha,by rw [List.length_map];omega,by omega,fun g H2 hg st2=> ?_⟩
  have stA:=std.trans st2
  have hd2:H2 pd=some (.dK []):=st2.keep pd _ hpp aI
  refine⟨hd2,[(Sum.inr "custom",.ref c),(Sum.inr "claim",g)],rfl,by show 2<=15;decide,?_⟩
  have em:iR [] [((Sum.inr "custom":Key),V.ref c),(Sum.inr "claim",g)]=([(Sum.inr "custom",V.ref c),(Sum.inr "claim",g)]:List (Key×V)):=rfl
  rw [em]
  have keep2:∀b xs,H2 b=some (.tup xs)->(upd H2 pd (.dK [(Sum.inr "custom",V.ref c),(Sum.inr "claim",g)])) b=some (.tup xs):=fun b xs e=>by
   rw [aS (fun z=>by rw [z,hd2]at e;cases e)];exact e
  have hD:(upd H2 pd (.dK [(Sum.inr "custom",V.ref c),(Sum.inr "claim",g)])) pd=some (.dK [(Sum.inr "custom",V.ref c),(Sum.inr "claim",g)]):=aI
  have stB:Stp p H (upd H2 pd (.dK [(Sum.inr "custom",V.ref c),(Sum.inr "claim",g)])):=by
   refine⟨?_,fun b o hb e=> ?_⟩
   ·obtain⟨x,f,e⟩:=stA.pen
    exact⟨x,f,by rw [aS hpp.symm];exact e⟩
   ·have e2:=stA.keep b o hb e
    rw [aS (fun z=>by subst z;exact absurd (st.keep b o hb e) (by rw [hpd];simp))];exact e2
  obtain⟨b,is,v,hv,rfl,hb,i1,i6,ib⟩:∃(b:Addr)(is:List Int)(v:V),qO (upd H2 pd (.dK [(Sum.inr "custom",V.ref c),(Sum.inr "claim",g)])) pd (.str kd) (some v)/\v= .ref b/\(upd H2 pd (.dK [(Sum.inr "custom",V.ref c),(Sum.inr "claim",g)])) b=some (.tup (is.map V.int))/\1<=is.length/\is.length<=6/\∀x∈is,x.natAbs<128:=by
   rcases hk with rfl|rfl|rfl|rfl
   ·exact absurd rfl z
   ·exact absurd rfl z2
   ·refine⟨c,cs,.ref c,.inl ⟨_,Sum.inr "custom",.inl hD,rfl,rfl⟩,rfl,keep2 _ _ (st2.keep c _ hcp (sd _ _ hc1)),Gc.l1,Gc.l6,fun x hx=> ?_⟩
    have:=Gc.num x hx
    omega
   ·obtain⟨b,hb,rfl⟩:=List.mem_map.mp hg
    obtain⟨i,hi⟩:=List.getElem?_of_mem hb
    obtain⟨y,hy,he⟩:=hC.get hi
    have hn:=G.num y (List.mem_of_getElem? hy)
    refine⟨b,[y.1,y.2.1,y.2.2],.ref b,.inl ⟨_,Sum.inr "claim",.inl hD,rfl,rfl⟩,rfl,keep2 _ _ (st2.keep b _ (st.pen.ne he (by intro z;simp)) (sd _ _ he)),by show 1<=3;decide,by show 3<=6;decide,fun x hx=> ?_⟩
    simp only [List.mem_cons,List.not_mem_nil,or_false]at hx
    rcases hx with rfl|rfl|rfl<;>omega
  generalize upd H2 pd (.dK [(Sum.inr "custom",V.ref c),(Sum.inr "claim",g)])=HG at stB hv hb⊢
  refine⟨_,rfl,pd,_,rfl,hv,?_⟩
  have hbp:b≠p:=stB.pen.ne hb (by intro z;simp)
  have hit:∀x∈is.map V.int,Dp (wo p HG) 7 0 x:=fun x hx=>by
   obtain⟨y,hy,rfl⟩:=List.mem_map.mp hx
   exact Dp.num y (ib y hy)
  have zi:(is.map V.int).length<=6:=by rw [List.length_map];exact i6
  refine⟨_,rfl,_,rfl,_,rfl,_,rfl,_,rfl,_,rfl,p,b,_,7,6,rfl,stB.pen,hb,fun x hx=>(hit x hx).mono (Nat.le_refl _) (by decide),by rw [List.length_map];exact i1,zi,by decide,fun be H3 st3 hbe=> ?_⟩
  have stC:=stB.trans st3
  refine⟨_,rfl,p,rfl,stC.pen,fun an H4 st4 han=> ?_⟩
  have stD:=stC.trans st4
  have hb4:=st4.keep b _ hbp (st3.keep b _ hbp hb)
  refine⟨_,rfl,_,rfl,b,_,rfl,hb4,fun u1 H5 s5 e5=> ?_⟩
  refine⟨by show 1<=sizeLine;decide,fun t2 ht2=> ?_⟩
  have s6:=aJ (o:=.tup [.bl true]) ht2
  have zc:∀lo hi,(cO (is.map V.int) lo hi).length<=6:=fun lo hi=>by have:=iW (is.map V.int) lo hi;omega
  have zc1:=zc none (some 1)
  have zc2:=zc (some 2) none
  refine⟨u1,t2,_,_,rfl,rfl,s6 _ _ e5,aI,by rw [sizeLine_eq];show _+1<=_;omega,fun u3 H7 s7 e7=> ?_⟩
  have s57:=(s5.trans s6).trans s7
  refine⟨_,rfl,_,rfl,b,_,rfl,s57 _ _ hb4,fun u4 H8 s8 e8=> ?_⟩
  refine⟨u3,u4,_,_,rfl,rfl,s8 _ _ e7,e8,by rw [sizeLine_eq,List.length_append];show _+1+_<=_;omega,fun u5 H9 s9 e9=> ?_⟩
  have s59:=(s57.trans s8).trans s9
  have stE:=stD.same s59
  refine⟨by show 6<=sizeLine;decide,fun l hl2=> ?_⟩
  have sl:=aJ (o:=.lst [.ref b,.ref b,.ref b,be,an,.ref u5]) hl2
  refine⟨p,l,_,rfl,stE.pen.same sl,stE.pen.fresh hl2,aI,by show 1<=6;decide,by show 6<=1000;decide,fun v HZ hv stZ=> ?_⟩
  refine q v HZ ((stE.same sl).trans stZ) (Dt.same (H:=wo p H9) ?_ (sl.wo.trans stZ.wo))
  have w39:Same (wo p H3) (wo p H9):=st4.wo.trans s59.wo
  have wG9:Same (wo p HG) (wo p H9):=st3.wo.trans w39
  have hB:Dt (wo p H9) 1000 30 (.ref b):=((Dp.tup (n:=7) (D:=0) (m:=6) (fL hb hbp) hit zi).mono (by decide) (by decide)).dt.same wG9
  simp only [List.mem_cons,List.not_mem_nil,or_false]at hv
  rcases hv with rfl|rfl|rfl|rfl|rfl|rfl
  ·exact hB
  ·exact hB
  ·exact hB
  ·exact(hbe.same w39).mono (by decide) (by decide)
  ·exact((han.same (uQ stC.pen)).same s59.wo).mono (by decide) (by decide)
  ·have hi9:∀x∈is.map V.int,Dp (wo p H9) 7 3 x:=fun x hx=>((hit x hx).same wG9).mono (Nat.le_refl _) (by decide)
   exact(xR (n:=7) (m:=6) stE.pen e9 hi9 ((Dp.bl true).dt) zi (by decide)).mono (by decide) (by decide)
end
end M04
namespace L2
open PySem PySem.Spec PyProof.Rows
def B2c (X:Cx)(CX:CXT)(E:XK)(f:Addr)(vs:List V)(H:Hp)(Q:VK):Prop:=∃(k:Nat)(fd:FuncData)(ps:List Str)(sp:Sp),aR X.prog X.w X.K X.mg X.base CX k f fd ps sp/\Room k X.A/\Binds X.K fd ps []/\sp vs H Q E
theorem A0a {X:Cx}{CX:CXT}{E:XK}{a b:Expr}{p pos:Pos}{e:Expr}{es:List Expr}{tf:TE}{t:TA}(hp:iB CX X E)(hf:PE X (.Subscript a b p) tf)(ha:PA X (e::es) t)(he:starEach (e::es) X.env=(false,eval e X.env)::starEach es X.env:=by rfl)(hpl:(backTo pos (starEach es X.env)).any (·.1)=false:=by rfl):
  PE X (.Call (.Subscript a b p) (e::es) [] pos) (fun σ H Q=>tf σ H fun x H1=> ∃f,x= .ref f/\W.keepIn X.K (.ref f)=true/\t σ H1 fun vs H2=>B2c X CX E f vs H2 Q):=by
 intro pins s σ H Q I h
 show wpAny _ _ (eval (.Subscript a b p) X.env>>=fun f=>callWith pos f [] (backTo pos (starEach (e::es) X.env)) (backToKw pos (keywordEach [] X.env))) _ _ _
 refine wpAny_bind (thn (hf pins s σ H _ I h) fun v s1 ⟨x,H1,I1,r1,q1⟩=> ?_)
 obtain⟨f,rfl,hk,q1⟩:=q1
 cases (show v=Value.ref f from r1)
 refine W.callWith_K (h₀:=X.base) I1.ok.mod.kin hk (thn (ha pos pins s1 σ H1 _ I1 q1) fun us s2 ⟨vs,H2,I2,r,q⟩=> ⟨I2.kIn,?_⟩) he hpl
 obtain⟨k,fd,ps,sp,F,hr,hb,q⟩:=q
 have:=A03 (dvs:=[]) (ds:=[]) F hr hb .nil hp I2 r (by rw [List.append_nil];exact q)
 exact this
end L2
namespace M04
open PySem L2 PyProof.Rows
def cZ (H:Hp):Nat->List V->Option Nat
 |0,[v]=>if bV H v=true then none else some 5
 |1,[u,v,x]=>cS H u v x
 |2,[u,v,x]=>cS H u v x
 |3,[v,u]=>cV H v u
 |4,[v,u]=>cV H v u
 |5,[v,x,y]=>dI H v x y
 |_,_=>none
def nX:Nat->List Nat|3=> [7]|4=> [8,5]|_=> []
def sJ:Nat->Bool|3=>true|5=>true|_=>false
def lV:Nat->Nat|0=>1|1=>3|2=>3|3=>2|4=>2|_=>3
def oA (c:Nat->Addr):Sp:=fun vs H Q E=> ∃(n:Nat)(l:Addr)(xs:List V),vs=[.int n,.ref l]/\n<6/\H l=some (.lst xs)/\xs.length=lV n/\(∀x∈xs,Kn H 3 x)/\Out c (cZ H n xs) (nX n) (sJ n) H Q E
theorem Out.at {c:Nat->Addr}{due:Option Nat}{may:List Nat}{many:Bool}{H H1:Hp}{Q:VK}{E:XK}(o:Out c due may many H Q E)(s:Same H H1):Out c due may many H1 Q E:=
 ⟨fun j h H' s'=>o.1 j h H' (s.trans s'),fun h=>let ⟨a,b,d⟩:=o.2 h;⟨fun v H' s'=>a v H' (s.trans s'),fun j hj H' s'=>b j hj H' (s.trans s'),fun hm dd m n H' s'=>d hm dd m n H' (s.trans s')⟩⟩
theorem B06 {H H':Hp}(s:Same H H'){c cl:V}(k2:Kn H 1 c)(k3:Kn H 2 cl):unV H' c cl=unV H c cl:=by
 unfold unV
 rw [s.tupOf (k3.le (by decide)),A8p s k2]
 cases z2:tupOf H cl with
 |none=>rfl
 |some ys=>
  obtain⟨b,rfl,hb⟩:=eX z2
  obtain⟨_,hy⟩:=k3.items hb
  dsimp only
  rw [Bool.eq_iff_iff,List.all_eq_true,List.all_eq_true]
  have e2:∀x∈ys,s2V H' x=s2V H x:=fun x hm=>by unfold s2V;rw [s.tupOf ((hy x hm).le (by decide))]
  exact⟨fun h x hm=>by rw [←e2 x hm];exact h x hm,fun h x hm=>by rw [e2 x hm];exact h x hm⟩
theorem uY {H H':Hp}(s:Same H H'){v u:V}(k:Kn H 2 v):jM H' v u=jM H v u:=by
 unfold jM
 cases u<;>try rfl
 dsimp only
 rw [s.tupOf (k.le (by decide))]
 cases z2:tupOf H v with
 |none=>rfl
 |some ys=>
  obtain⟨b,rfl,hb⟩:=eX z2
  obtain⟨_,hy⟩:=k.items hb
  dsimp only
  rw [Bool.eq_iff_iff,List.any_eq_true,List.any_eq_true]
  have e2:∀x∈ys,h1V H' x=h1V H x:=fun x hm=>by unfold h1V;rw [s.tupOf ((hy x hm).le (by decide))]
  exact⟨fun⟨x,hm,h⟩=> ⟨x,hm,by rw [←e2 x hm];exact h⟩,fun⟨x,hm,h⟩=> ⟨x,hm,by rw [e2 x hm];exact h⟩⟩
theorem pF {H H':Hp}(s:Same H H'){u v x:V}(ku:Kn H 2 u)(kv:Kn H 3 v):cS H' u v x=cS H u v x:=by
 unfold cS eO
 rw [A0l s (ku.le (by decide)),jT s kv,B06 s (ku.le (by decide)) (kv.le (by decide)),uY s (kv.le (by decide))]
theorem pZ {H H':Hp}(s:Same H H'){v u:V}(kv:Kn H 3 v)(ku:Kn H 2 u):cV H' v u=cV H v u:=by
 unfold cV
 rw [jT s kv,jN s (ku.le (by decide))]
theorem B1y {H H':Hp}(s:Same H H'){v x y:V}(kv:Kn H 3 v):dI H' v x y=dI H v x y:=by
 unfold dI
 rw [jT s kv,uY s (kv.le (by decide)),uY s (kv.le (by decide))]
section
variable {P:Program}{w:World}{K:W.Frag}{mg:Str->Option Value}{base:Heap}
theorem A9e:bH ["_law_way","_law_some"] ["_law_way","_law_some"] (aQ oX):=by ac_rfl
theorem A8d {f g0 g1 g2 g3 g4 g5:Addr}{c:Nat->Addr}{fd d0 d1 d2 d3 d4 d5:FuncData}(F:Fun K "_law_call" "_law_call" oX f fd)(a0:AtD P w K mg base 6 "holders_of" g0 d0 ["claims"] (sS c))(a1:AtD P w K mg base 7 "count_of" g1 d1 ["custom","claims","holder"] (pI c))(a2:AtD P w K mg base 8 "share_of" g2 d2 ["custom","claims","holder"] (tW c))
  (a3:AtD P w K mg base 6 "laid" g3 d3 ["claims","claim"] (uN c))(a4:AtD P w K mg base 6 "denied" g4 d4 ["claims","claim"] (uU c))(a5:AtD P w K mg base 6 "joined" g5 d5 ["claims","one","other"] (vA c)):aR P w K mg base (CXD P w) 9 f fd ["_law_way","_law_some"] (oA c):=by
 refine F.okD A9e (fun vs H Q E h=> ?_) (fun cdv A outer s H vs Q E hr h=> ?_)
 ·obtain⟨n,l,xs,rfl,_⟩:=h;rfl
 ·obtain⟨n,l,xs,rfl,hn,hl,hx,kx,o⟩:=h
  have r6:Room 6 _:=hr.mono (by decide)
  have r7:Room 7 _:=hr.mono (by decide)
  refine⟨_,aW (bU (bP dG (pv 0) aL (nomark _)) (aV (aZ (aX a0.ok r6 rfl a0.nm a0.kp a0.bd .nil dY (eF (bR cG (pv 1) aL (fun _ _=>rfl)) aF)))) bT)<|
   aW (bU (bP mV (pv 0) aL (nomark _)) (aV (aZ (A0a dY (bR cG (fC (aG (bZ (v:=.ref g1) rfl a1.nm rfl) (aG (bZ (v:=.ref g2) rfl a2.nm rfl) aF))) (bJ nY (pv 0) aL) (fun _ _=>rfl)) (eF (bR cG (pv 1) aL (fun _ _=>rfl)) (eF (bR cG (pv 1) aL (fun _ _=>rfl)) (eF (bR cG (pv 1) aL (fun _ _=>rfl)) aF)))))) bT)<|
   aW (bU (bP mV (pv 0) aL (nomark _)) (aV (aZ (A0a dY (bR cG (fC (aG (bZ (v:=.ref g3) rfl a3.nm rfl) (aG (bZ (v:=.ref g4) rfl a4.nm rfl) aF))) (bJ nY (pv 0) aL) (fun _ _=>rfl)) (eF (bR cG (pv 1) aL (fun _ _=>rfl)) (eF (bR cG (pv 1) aL (fun _ _=>rfl)) aF))))) bT)<|
   aV (aZ (aX a5.ok r6 rfl a5.nm a5.kp a5.bd .nil dY (eF (bR cG (pv 1) aL (fun _ _=>rfl)) (eF (bR cG (pv 1) aL (fun _ _=>rfl)) (eF (bR cG (pv 1) aL (fun _ _=>rfl)) aF))))),?_⟩
  match n,hn,xs,hx,kx,o,hl with
  |0,_,[v],_,kx,o,hl=>
   refine⟨_,rfl,rfl,_,rfl,bE ?_⟩
   exact⟨_,rfl,l,_,0,v,rfl,rfl,SqL.of (hl),bF (j:=0) rfl,v,rfl,kx v (by simp),o⟩
  |1,_,[u,v,x],_,kx,o,hl=>
   refine⟨_,rfl,rfl,_,rfl,aY ?_⟩
   refine⟨_,rfl,_,_,rfl,rfl,_,rfl,bE ?_⟩
   refine⟨by show 2<=sizeLine;decide,fun p hp=> ⟨_,rfl,_,_,rfl,rfl,p,_,_,.ref g1,rfl,rfl,SqL.of aI,bF (j:=0) rfl,g1,rfl,a1.kp,?_⟩⟩
   have sp:=aJ (o:=.lst [.ref g1,.ref g2]) hp
   refine⟨_,rfl,l,_,0,u,rfl,rfl,SqL.of (sp _ _ hl),bF (j:=0) rfl,_,rfl,l,_,1,v,rfl,rfl,SqL.of (sp _ _ hl),bF (j:=1) rfl,_,rfl,l,_,2,x,rfl,rfl,SqL.of (sp _ _ hl),bF (j:=2) rfl,?_⟩
   have ku:=kx u (by simp)
   have kv:=kx v (by simp)
   have kX:=kx x (by simp)
   have o':=o.at sp
   rw [show cZ H 1 [u,v,x]=cS (upd H p (.lst [.ref g1,.ref g2])) u v x from(pF sp (ku.le (by decide)) kv).symm]at o'
   exact⟨7,d1,_,_,a1.ok,r7,a1.bd,u,v,x,rfl,(ku.le (by decide)).ext sp.ext,kv.ext sp.ext,(kX.le (by decide)).ext sp.ext,o'.1,fun z _ _ _ _ _ _ _ _ _ _ _ _ _ H' s'=>(o'.2 z).1 _ H' s'⟩
  |2,_,[u,v,x],_,kx,o,hl=>
   refine⟨_,rfl,rfl,_,rfl,aY ?_⟩
   refine⟨_,rfl,_,_,rfl,rfl,_,rfl,bE ?_⟩
   refine⟨by show 2<=sizeLine;decide,fun p hp=> ⟨_,rfl,_,_,rfl,rfl,p,_,_,.ref g2,rfl,rfl,SqL.of aI,bF (j:=1) rfl,g2,rfl,a2.kp,?_⟩⟩
   have sp:=aJ (o:=.lst [.ref g1,.ref g2]) hp
   refine⟨_,rfl,l,_,0,u,rfl,rfl,SqL.of (sp _ _ hl),bF (j:=0) rfl,_,rfl,l,_,1,v,rfl,rfl,SqL.of (sp _ _ hl),bF (j:=1) rfl,_,rfl,l,_,2,x,rfl,rfl,SqL.of (sp _ _ hl),bF (j:=2) rfl,?_⟩
   have ku:=kx u (by simp)
   have kv:=kx v (by simp)
   have kX:=kx x (by simp)
   have o':=o.at sp
   rw [show cZ H 2 [u,v,x]=cS (upd H p (.lst [.ref g1,.ref g2])) u v x from(pF sp (ku.le (by decide)) kv).symm]at o'
   exact⟨8,d2,_,_,a2.ok,hr,a2.bd,u,v,x,rfl,(ku.le (by decide)).ext sp.ext,kv.ext sp.ext,(kX.le (by decide)).ext sp.ext,o'⟩
  |3,_,[v,u],_,kx,o,hl=>
   refine⟨_,rfl,rfl,_,rfl,aY ?_⟩
   refine⟨_,rfl,_,_,rfl,rfl,_,rfl,aY ?_⟩
   refine⟨_,rfl,_,_,rfl,rfl,_,rfl,bE ?_⟩
   refine⟨by show 2<=sizeLine;decide,fun p hp=> ⟨_,rfl,_,_,rfl,rfl,p,_,_,.ref g3,rfl,rfl,SqL.of aI,bF (j:=0) rfl,g3,rfl,a3.kp,?_⟩⟩
   have sp:=aJ (o:=.lst [.ref g3,.ref g4]) hp
   refine⟨_,rfl,l,_,0,v,rfl,rfl,SqL.of (sp _ _ hl),bF (j:=0) rfl,_,rfl,l,_,1,u,rfl,rfl,SqL.of (sp _ _ hl),bF (j:=1) rfl,?_⟩
   have ku:=kx u (by simp)
   have kv:=kx v (by simp)
   have o':=o.at sp
   rw [show cZ H 3 [v,u]=cV (upd H p (.lst [.ref g3,.ref g4])) v u from(pZ sp kv (ku.le (by decide))).symm]at o'
   exact⟨6,d3,_,_,a3.ok,r6,a3.bd,v,u,rfl,kv.ext sp.ext,(ku.le (by decide)).ext sp.ext,o'⟩
  |4,_,[v,u],_,kx,o,hl=>
   refine⟨_,rfl,rfl,_,rfl,aY ?_⟩
   refine⟨_,rfl,_,_,rfl,rfl,_,rfl,aY ?_⟩
   refine⟨_,rfl,_,_,rfl,rfl,_,rfl,bE ?_⟩
   refine⟨by show 2<=sizeLine;decide,fun p hp=> ⟨_,rfl,_,_,rfl,rfl,p,_,_,.ref g4,rfl,rfl,SqL.of aI,bF (j:=1) rfl,g4,rfl,a4.kp,?_⟩⟩
   have sp:=aJ (o:=.lst [.ref g3,.ref g4]) hp
   refine⟨_,rfl,l,_,0,v,rfl,rfl,SqL.of (sp _ _ hl),bF (j:=0) rfl,_,rfl,l,_,1,u,rfl,rfl,SqL.of (sp _ _ hl),bF (j:=1) rfl,?_⟩
   have ku:=kx u (by simp)
   have kv:=kx v (by simp)
   have o':=o.at sp
   rw [show cZ H 4 [v,u]=cV (upd H p (.lst [.ref g3,.ref g4])) v u from(pZ sp kv (ku.le (by decide))).symm]at o'
   exact⟨6,d4,_,_,a4.ok,r6,a4.bd,v,u,rfl,kv.ext sp.ext,(ku.le (by decide)).ext sp.ext,o'⟩
  |5,_,[v,x,y],_,kx,o,hl=>
   refine⟨_,rfl,rfl,_,rfl,aY ?_⟩
   refine⟨_,rfl,_,_,rfl,rfl,_,rfl,aY ?_⟩
   refine⟨_,rfl,_,_,rfl,rfl,_,rfl,aY ?_⟩
   refine⟨_,rfl,l,_,0,v,rfl,rfl,SqL.of (hl),bF (j:=0) rfl,_,rfl,l,_,1,x,rfl,rfl,SqL.of (hl),bF (j:=1) rfl,_,rfl,l,_,2,y,rfl,rfl,SqL.of (hl),bF (j:=2) rfl,?_⟩
   exact⟨v,x,y,rfl,kx v (by simp),(kx x (by simp)).le (by decide),(kx y (by simp)).le (by decide),o⟩
  |n+6,hn,_,_,_,_,_=>exact absurd hn (by omega)
end
end M04
namespace L2
open PySem PyProof.Rows
theorem tV {J:It}{S:Hp->Prop}{l:Addr}{xs:List V}{tt:TT}{H0:Hp}{rest:St}{Q:St->Hp->Prop}(p:V->Bool)(W:Wk J xs S)(hS:∀H',Same H0 H'->S H')(hl:H0 l=none)(hz:xs.length<=1000)
  (test:∀x H' Q',x∈xs->Same H0 H'->(∀H2,Same H' H2->Q' (p x) H2)->tt (some x::rest) H' Q')(hQ:∀σ H',Same H0 H'->H' l=some (.lst (xs.filter p))->Q σ H'):
  eN J (dJ 0) (eG tt (eL l (fD 0))) (eC Q) (none::rest) (upd H0 l (.lst [])):=by
 have s0:Same H0 (upd H0 l (.lst [])):=aJ hl
 refine W (fun i σ H'=>(∃o,σ=o::rest)/\Same H0 H'/\H' l=some (.lst ((xs.take i).filter p))) ⟨⟨_,rfl⟩,s0,by rw [aI];rfl⟩ (fun i σ H' _ h=>hS _ h.2.1) ?_ ?_
 ·rintro i x σ H' hx ⟨⟨o,rfl⟩,hs,hl'⟩
  show eG tt (eL l (fD 0)) _ (some x::rest) H'
  have et:(xs.take (i+1)).filter p=(xs.take i).filter p++(if p x=true then [x]else []):=by
   rw [List.take_succ,hx,List.filter_append]
   congr 1
   cases h:p x<;>simp [h]
  refine test x H' _ (List.mem_of_getElem? hx) hs fun H2 h2=> ?_
  refine dQ (fun hp=> ?_) fun hp=> ?_
  ·refine⟨_,rfl,_,h2 _ _ hl',?_,⟨_,rfl⟩,fun b u e=> ?_,?_⟩
   ·have:=List.length_filter_le p (xs.take i)
    rw [List.length_take]at this
    exact eW (by omega)
   ·rw [aS (cB e hl)];exact h2 _ _ (hs _ _ e)
   ·rw [aI,et,if_pos hp]
  ·refine⟨⟨_,rfl⟩,hs.trans h2,?_⟩
   rw [et,if_neg (by rw [hp];decide),List.append_nil];exact h2 _ _ hl'
 ·rintro σ H' ⟨_,hs,hl'⟩
  rw [List.take_of_length_le (Nat.le_refl _)]at hl'
  exact hQ σ H' hs hl'
theorem rN {H:Hp}{p q:Addr}{xs:List V}{Q:VK}(h1:H p=some (.lst xs))(h2:H q=some (.lst []))(hq:Q (.bl (!xs.isEmpty)) H):pT 0 not (.ref p) (.ref q) H Q:=by
 refine⟨p,q,xs,[],rfl,rfl,h1,h2,?_⟩
 cases xs with
 |nil=>exact .inr ⟨[],trivial,hq⟩
 |cons x xs=>exact .inl ⟨by simp,hq⟩
end L2
namespace M04
open PySem L2 PyProof.Rows Set4
def qJ:Option Nat->V|none=> .non|some j=> .str (wd j)
def qR:Sp:=fun vs H Q _=> ∃(n:Nat)(l:Addr)(xs:List V),vs=[.int n,.ref l]/\n<6/\H l=some (.lst xs)/\xs.length=lV n/\(∀x∈xs,Kn H 3 x)/\∀H',Same H H'->Q (qJ (cZ H n xs)) H'
abbrev tN:List Str:=["_law_way","_law_some","_law_at","_law_claims_here","_law_holders_here","_law_bad"]
theorem A54:(["_law_one","_law_some"]:List Str).Nodup:=by decide +kernel
theorem A8h:(["_law_one","_law_claims_here"]:List Str).Nodup:=by decide +kernel
def eQ (cl:List C3)(x:V):Bool:=!(dS cl x)
theorem A2p {cl:List C3}(G:gQ cl){i:Int}(h:bG 0 3 (.int i)=true):∃ks,(∀H n,E3 (EqD H n) ((mem4 (holdS cl)).map fun k:Nat=>V.int (k:Int)) (((mem4 (holdS cl)).map fun k:Nat=>V.int (k:Int)).map fun _=>V.int i) ks)/\ks.any id=hX cl i:=by
 refine⟨(mem4 (holdS cl)).map fun k:Nat=>decide ((k:Int)=i),fun H n=> ?_,?_⟩
 ·generalize mem4 (holdS cl)=ks
  induction ks with
  |nil=>exact trivial
  |cons k ks ih=>exact⟨EqD.int _ _ _,ih⟩
 ·rw [List.any_map,Bool.eq_iff_iff,List.any_eq_true]
  simp only [bG,Bool.and_eq_true,decide_eq_true_eq]at h
  have key:∀k:Nat,k<4->(k∈mem4 (holdS cl)↔holdS cl k=true):=fun k hk=>by
   unfold mem4 L
   match k,hk with
   |0,_=>cases holdS cl 0<;>cases holdS cl 1<;>cases holdS cl 2<;>cases holdS cl 3<;>decide
   |1,_=>cases holdS cl 0<;>cases holdS cl 1<;>cases holdS cl 2<;>cases holdS cl 3<;>decide
   |2,_=>cases holdS cl 0<;>cases holdS cl 1<;>cases holdS cl 2<;>cases holdS cl 3<;>decide
   |3,_=>cases holdS cl 0<;>cases holdS cl 1<;>cases holdS cl 2<;>cases holdS cl 3<;>decide
  obtain⟨m,rfl⟩:=Int.eq_ofNat_of_zero_le h.1
  constructor
  ·rintro⟨k,hk,e⟩
   have e':(k:Int)=(m:Int):=of_decide_eq_true e
   obtain rfl:k=m:=by omega
   exact(key k (by omega)).mp hk
  ·intro hh
   exact⟨m,(key m (by omega)).mpr hh,decide_eq_true rfl⟩
theorem A2j {cl:List C3}(G:gQ cl)(x:V):eQ cl x=(!(bG 0 3 x)|| !(dS cl x)):=by
 unfold eQ
 cases x with
 |int i=>
  cases h:hX cl i with
  |false=>simp [dS,h]
  |true=>
   have:bG 0 3 (.int i)=true:=by
    unfold hX at h
    obtain⟨c,hc,e⟩:=List.any_eq_true.mp h
    have:=(G.num c hc).1
    have e:=of_decide_eq_true e
    simp only [bG,Bool.and_eq_true,decide_eq_true_eq]
    omega
   rw [this];simp [dS,h]
 |_=>rfl
section
variable {P:Program}{w:World}{K:W.Frag}{mg:Str->Option Value}{base:Heap}
theorem scDue:bH tN ["_law_way","_law_some"] (aQ jW):=by ac_rfl
theorem A3p {f gU gC gK gN gH:Addr}{fd dU dC dK dN dH:FuncData}(F:Fun K "_law_due" "_law_due" jW f fd)(T:Txt mg)(aU:At P w K mg base 2 "_law_is_custom" gU dU ["_law_thing_here"] lH)(aC:At P w K mg base 3 "_law_are_claims" gC dC ["_law_thing_here"] lW)
  (aK:At P w K mg base 2 "_law_is_claim" gK dK ["_law_thing_here"] jD)(aN:At P w K mg base 1 "_law_number" gN dN lR kO)(aH:At P w K mg base 1 "_law_holders" gH dH ["_law_claims_here"] rO):aR P w K mg base CX0 4 f fd ["_law_way","_law_some"] qR:=by
 refine F.ok scDue (fun vs H Q E h=> ?_) (fun cdv A outer s H vs Q E hr h=> ?_)
 ·obtain⟨n,l,xs,rfl,_⟩:=h;rfl
 ·obtain⟨n,l,xs,rfl,hn,hl,hx,kx,q⟩:=h
  have nd:=scDue.nd
  have r1:Room 1 _:=hr.mono (by decide)
  have r2:Room 2 _:=hr.mono (by decide)
  have hu:(A.deeper (envOfC "_law_due" (aQ jW) s.heap.objs.size f cdv)).units+0+1<cLine:=iL hr
  refine⟨_,aW (dR (i:=2) nd rfl (Or.inl rfl) (fS wL rfl T.int boot_int (bD (jJ (tL 0 hu) (pv 0) (dF (bS aL (bS aL aF))) rfl) aF)))<|
   aW (bU (PW.pt (jA (bP dG (pv 2) aL (nomark _)) (kG (cY (cU (aX aU.ok r2 rfl aU.nm aU.kp aU.bd .nil bA (eF (bR cG (pv 1) aL (fun _ _=>rfl)) aF))))))) (aV (aZ cX)) bT)<|
   aW (dR (i:=3) nd rfl (Or.inr rfl) (bR cG (pv 1) (pv 2) (fun _ _=>rfl)))<|
   aW (bU (cY (cU (aX aC.ok hr rfl aC.nm aC.kp aC.bd .nil bA (aG (pv 3) aF)))) (aV (aZ cX)) bT)<|
   aW (bU (PW.pt (jA (bP dG (pv 2) aL (nomark _)) (kG (bP (wJ 0 hu) (dL (aQ jW).names tN ["_law_one"] [("_law_some",1)] rfl (eV (pv 3)) rfl rfl rfl (by decide +kernel)
    (fun Z=>bL (i:=0) A54 rfl (Or.inl rfl)) (fun Z=>iI (bP yV (bR fU (pv 0) aL (fun _ _=>rfl)) (bB eR rfl T.len PySem.boot_len (eF (bR cG (pv 1) aL (fun _ _=>rfl)) aF)) (nomark _))) (fun Z=>pv 0)) (fC aF) (nomark _))))) (aV (aZ cX)) bT)<|
   aW (bU (bP (tL 0 hu) (pv 0) (dF (bS aL (bS aL aF))) rfl) (aV (aZ (vJ (cU (aX aK.ok r2 rfl aK.nm aK.kp aK.bd .nil bA (eF (bR cG (pv 1) aL (fun _ _=>rfl)) aF))) mY cX))) bT)<|
   aW (dR (i:=4) nd rfl (Or.inl rfl) (vJ (bP dG (pv 0) aL (nomark _)) (fC aF) (fF vQ (pv 1) (fA (bJ fX (pv 2) aL)) fM)))<|
   aW (rW (i:=5) (aQ jW).names tN ["_law_one"] [("_law_claims_here",3)] rfl nd rfl rfl (lA (pv 4)) rfl rfl rfl (by decide +kernel)
    (fun Z=>bL (i:=0) A8h rfl (Or.inl rfl)) (fun Z=>iI (PW.pt (gL (cY (cU (aX aN.ok r1 rfl aN.nm aN.kp aN.bd .nil bA (aG (pv 0) (bS aL (bS aL aF)))))) (iM (bP (qA 0 hu) (pv 0) (aX aH.ok r1 rfl aH.nm aH.kp aH.bd .nil bA (aG (pv 1) aF)) rfl))))) (fun Z=>pv 0))<|
   aV (aZ (vJ (PW.pt (gL (bP (wJ 0 hu) (pv 5) (fC aF) (nomark _)) (iM (PW.pt (jA (bP dG (pv 0) aL (nomark _)) (kG (bP dG (bR cG (pv 4) aL (fun _ _=>rfl)) (bR cG (pv 4) aL (fun _ _=>rfl)) (nomark _)))))))) cX mY)),?_⟩
  refine⟨_,rfl,by show 2<=sizeLine;decide,fun t1 ht1=> ?_⟩
  have s1:=aJ (o:=.tup [.int 1,.int 2]) ht1
  refine⟨t1,_,[decide ((1:Int)=n),decide ((2:Int)=n)],rfl,.inl aI,⟨EqD.int _ _ _,EqD.int _ _ _,trivial⟩,?_⟩
  have tst:∀(a:Addr)(cl:List C3)(x:V)(H':Hp)(Q':Bool->Hp->Prop),ClT H a cl->gQ cl->Kn H 1 x->Same H H'->(∀H2,Same H' H2->Q' (eQ cl x) H2)->
    tOr (A15 (tB (sO kO [] E0 (cF (fD 0) (cF (tC (.int 0)) (cF (tC (.int 3)) lP)))))) (tB (tOp (tH 0 not) (fD 0) (sO rO [] E0 (cF (fD 1) lP)))) [some x,some (.ref a)] H' Q':=fun a cl x H' Q' hA G kx sH hq=>by
   refine⟨_,rfl,x,0,3,rfl,kx.ext sH.ext,_,rfl,?_⟩
   cases hn:bG 0 3 x with
   |false=>
    refine bE ?_
    have:=hq H' (Same.refl _)
    rw [A2j G,hn]at this
    exact this
   |true=>
    refine aY ?_
    obtain⟨i,rfl⟩:=nO hn
    refine⟨_,rfl,_,rfl,a,cl,rfl,hA.ext sH.ext,G,fun lh H3 s3 hlh=> ?_⟩
    obtain⟨ks,hE,hk⟩:=A2p G hn
    refine⟨lh,_,ks,rfl,.inr hlh,hE _ _,_,rfl,?_⟩
    have:=hq H3 s3
    rw [A2j G,hn]at this
    rw [hk]
    exact this
  have e1:∀{v:V},Kn H 3 v->bV (upd H t1 (.tup [.int 1,.int 2])) v=bV H v:=fun k=>jT s1 k
  match n,hn,xs,hx,kx,q,hl with
  |0,_,[v],_,kx,q,hl=>
   have kv:=kx v (by simp)
   refine .inr ⟨_,rfl,?_⟩
   refine⟨_,rfl,rfl,_,rfl,aY (aY ?_)⟩
   refine⟨_,rfl,_,rfl,l,_,0,v,rfl,rfl,SqL.of (s1 _ _ hl),bF (j:=0) rfl,?_⟩
   refine⟨_,rfl,v,rfl,kv.ext s1.ext,fun H2 s2=> ⟨_,rfl,?_⟩⟩
   rw [e1 kv]
   cases hc:bV H v with
   |false=>
    refine bE ?_
    have:=q H2 (s1.trans s2)
    rw [show cZ H 0 [v]=some 5 by show(if bV H v=true then none else some 5)=_;rw [hc];rfl]at this
    exact this
   |true=>
    refine aY ?_
    obtain⟨a,cl,rfl,hA,G⟩:=jH hc
    have sA:=s1.trans s2
    refine⟨_,rfl,rfl,_,rfl,aY (aY ?_)⟩
    refine⟨_,rfl,by show 2<=sizeLine;decide,fun t2 ht2=> ?_⟩
    have s3:=aJ (o:=.tup [.int 3,.int 4]) ht2
    refine⟨t2,_,[decide ((3:Int)=0),decide ((4:Int)=0)],rfl,.inl aI,⟨EqD.int _ _ _,EqD.int _ _ _,trivial⟩,_,rfl,aY ?_⟩
    refine⟨_,rfl,rfl,_,rfl,bE ?_⟩
    refine⟨by show 0<=sizeLine;decide,fun h hh=> ?_⟩
    have s4:=aJ (o:=.lst []) hh
    refine⟨_,rfl,h,rfl,⟨_,SqL.of aI⟩,fun Z b hb=> ?_⟩
    refine tV (fun x=>eQ cl x) oE (fun H' hs=>SqL.of (hs _ _ aI)) hb (by show 0<=1000;decide) (fun x H' Q' hm=>by cases hm) fun σ H5 s5 hb5=> ?_
    refine⟨_,rfl,by show 0<=sizeLine;decide,fun e he=> ?_⟩
    have s6:=aJ (o:=.lst []) he
    refine rN (s6 _ _ hb5) aI ⟨_,rfl,aY ?_⟩
    refine⟨_,rfl,rfl,_,rfl,aY (aY ?_)⟩
    have:=q _ ((((sA.trans s3).trans s4).trans s5).trans s6)
    rw [show cZ H 0 [.ref a]=none by show(if bV H (.ref a)=true then none else some 5)=_;rw [hc];rfl]at this
    exact this
  |1,_,[u,v,x],_,kx,q,hl|2,_,[u,v,x],_,kx,q,hl=>
   have q:∀H',Same H H'->Q (qJ (cS H u v x)) H':=q
   have ku:=kx u (by simp)
   have kv:=kx v (by simp)
   have kX:=kx x (by simp)
   refine .inr ⟨_,rfl,?_⟩
   refine⟨_,rfl,rfl,_,rfl,bE ?_⟩
   refine⟨_,rfl,l,_,0,u,rfl,rfl,SqL.of (s1 _ _ hl),bF (j:=0) rfl,u,rfl,(ku.le (by decide)).ext s1.ext,fun H2 s2=> ⟨_,rfl,?_⟩⟩
   rw [A0l s1 (ku.le (by decide))]
   cases hU:cuV H u with
   |false=>
    refine bE ?_
    have:=q H2 (s1.trans s2)
    rw [show cS H u v x=some 3 by unfold cS eO;rw [hU];rfl]at this
    exact this
   |true=>
   refine aY ?_
   have s12:=s1.trans s2
   refine⟨_,rfl,_,rfl,l,_,1,v,rfl,rfl,SqL.of (s12 _ _ hl),bF (j:=1) rfl,?_⟩
   refine⟨_,rfl,v,rfl,kv.ext s12.ext,fun H3 s3=> ⟨_,rfl,?_⟩⟩
   rw [jT s12 kv]
   have s13:=s12.trans s3
   cases hc:bV H v with
   |false=>
    refine bE ?_
    have:=q H3 s13
    rw [show cS H u v x=some 5 by unfold cS eO;rw [hU,hc];rfl]at this
    exact this
   |true=>
   refine aY ?_
   obtain⟨c,cs,rfl,hcu,Gc⟩:=yO hU
   obtain⟨a,cl,rfl,hA,G⟩:=jH hc
   have eo:=lL hA x
   obtain⟨bs,ha,hC⟩:=id hA
   have hlb:bs.length=cl.length:=Paired.length hC
   have h12:=G.l12
   have eU:unV H (.ref c) (.ref a)=cl.all fun y=>decide (y.2.1<(cs.length:Int)):=by
    rw [sM ha hC];unfold iZ;rw [jB hcu];simp
   refine⟨_,rfl,rfl,_,rfl,bE ?_⟩
   refine⟨_,rfl,a,rfl,⟨_,SqT.of (s13 _ _ ha)⟩,fun Z b hb=> ?_⟩
   refine nF (rest:=[some (.ref l)]) (fun y=>decide ((cs.length:Int)<=y.2.1)) gZ (fun H' hs=>SqT.of (hs _ _ (s13 _ _ ha))) (hC.ext s13.ext) hb (by omega) (fun b' y H' Q' he hs hq=> ?_) fun σ H4 bs' s4 hb4 hC4=> ?_
   ·refine⟨_,rfl,b',_,1,.int y.2.1,rfl,rfl,SqT.of he,bF (j:=1) rfl,_,rfl,l,_,0,.ref c,rfl,rfl,SqL.of (hs _ _ (s13 _ _ hl)),bF (j:=0) rfl,c,_,rfl,.inr (SqT.of (hs _ _ (s13 _ _ hcu))),_,_,rfl,rfl,_,rfl,?_⟩
    rw [List.length_map]
    exact hq _ (Same.refl _)
   refine⟨by show 0<=sizeLine;decide,fun e he=> ?_⟩
   have s5:=aJ (o:=.lst []) he
   have s15:=(s13.trans s4).trans s5
   have hbl:=Paired.length hC4
   refine rN (s5 _ _ hb4) aI ⟨_,rfl,?_⟩
   cases hUn:unV H (.ref c) (.ref a)with
   |false=>
    have hne:(bs'.map V.ref).isEmpty=false:=by
     rw [eU]at hUn
     rw [List.all_eq_false]at hUn
     obtain⟨y,hy,e⟩:=hUn
     have hm:y∈cl.filter fun y=>decide ((cs.length:Int)<=y.2.1):=List.mem_filter.mpr ⟨hy,by simp at e⊢;omega⟩
     have:=List.length_pos_of_mem hm
     cases bs' with
     |nil=>rw [List.length_nil]at hbl;omega
     |cons _ _=>rfl
    rw [hne]
    refine bE ?_
    have:=q _ s15
    rw [show cS H (.ref c) (.ref a) x=some 5 by unfold cS eO;rw [hU,hc,hUn];rfl]at this
    exact this
   |true=>
   have hne:(bs'.map V.ref).isEmpty=true:=by
    rw [eU]at hUn
    have e0:(cl.filter fun y=>decide ((cs.length:Int)<=y.2.1))=[]:=by
     rw [List.filter_eq_nil_iff]
     intro y hy z
     have:=List.all_eq_true.mp hUn y hy
     simp at this z
     omega
    rw [e0]at hbl
    cases bs' with
    |nil=>rfl
    |cons _ _=>cases hbl
   rw [hne]
   refine aY ?_
   have eD:eO H (.ref c) (.ref a)=none:=by unfold eO;rw [hU,hc,hUn];rfl
   refine⟨_,rfl,by show 2<=sizeLine;decide,fun t2 ht2=> ?_⟩
   have s6:=aJ (o:=.tup [.int 3,.int 4]) ht2
   refine⟨t2,_,[_,_],rfl,.inl aI,⟨EqD.int _ _ _,EqD.int _ _ _,trivial⟩,_,rfl,aY ?_⟩
   refine⟨_,rfl,rfl,_,rfl,aY ?_⟩
   have s16:=s15.trans s6
   refine⟨_,rfl,_,rfl,_,_,rfl,rfl,_,rfl,l,_,rfl,SqL.of (s16 _ _ hl),fun h hh=> ?_⟩
   have hcut:∀k:Int,k=1->cO [.ref c,.ref a,x] (some (k+1)) none=[x]:=fun k e=>by subst e;rfl
   rw [hcut];rotate_left;rfl
   have s7:=aJ (o:=.lst [x]) hh
   have s17:=s16.trans s7
   refine⟨_,rfl,h,rfl,⟨_,SqL.of aI⟩,fun Z b2 hb2=> ?_⟩
   refine tV (rest:=[some (.ref a)]) (fun x=>eQ cl x) oE (fun H' hs=>SqL.of (hs _ _ aI)) hb2 (by show 1<=1000;decide) (fun y H' Q' hm hs hq=> ?_) fun σ H8 s8 hb8=> ?_
   ·rw [List.mem_singleton.mp hm]at hq⊢
    exact tst a cl x H' Q' hA G (kX.le (by decide)) (s17.trans hs) hq
   refine⟨_,rfl,by show 0<=sizeLine;decide,fun e2 he2=> ?_⟩
   have s9:=aJ (o:=.lst []) he2
   refine rN (s9 _ _ hb8) aI ⟨_,rfl,?_⟩
   have fin:=q _ ((s17.trans s8).trans s9)
   cases hb:dS cl x with
   |false=>
    rw [show([x].filter fun x=>eQ cl x)=[x] by unfold eQ;simp [hb]]
    refine bE (bE ?_)
    rw [show cS H (.ref c) (.ref a) x=some 6 by unfold cS;rw [eD];dsimp only;rw [eo,hb];rfl]at fin
    exact fin
   |true=>
    rw [show([x].filter fun x=>eQ cl x)=[] by unfold eQ;simp [hb]]
    refine aY ?_
    refine⟨_,rfl,rfl,_,rfl,aY (aY ?_)⟩
    rw [show cS H (.ref c) (.ref a) x=none by unfold cS;rw [eD];dsimp only;rw [eo,hb];rfl]at fin
    exact fin
  |3,_,[v,u],_,kx,q,hl|4,_,[v,u],_,kx,q,hl=>
   have q:∀H',Same H H'->Q (qJ (cV H v u)) H':=q
   have ku:=kx u (by simp)
   have kv:=kx v (by simp)
   refine .inr ⟨_,rfl,?_⟩
   refine⟨_,rfl,rfl,_,rfl,aY (aY ?_)⟩
   refine⟨_,rfl,_,rfl,l,_,0,v,rfl,rfl,SqL.of (s1 _ _ hl),bF (j:=0) rfl,?_⟩
   refine⟨_,rfl,v,rfl,kv.ext s1.ext,fun H2 s2=> ⟨_,rfl,?_⟩⟩
   rw [e1 kv]
   cases hc:bV H v with
   |false=>
    refine bE ?_
    have:=q H2 (s1.trans s2)
    rw [show cV H v u=some 5 by unfold cV;rw [hc];rfl]at this
    exact this
   |true=>
   refine aY ?_
   have sA:=s1.trans s2
   refine⟨_,rfl,rfl,_,rfl,aY (aY ?_)⟩
   refine⟨_,rfl,by show 2<=sizeLine;decide,fun t2 ht2=> ?_⟩
   have s3:=aJ (o:=.tup [.int 3,.int 4]) ht2
   refine⟨t2,_,[_,_],rfl,.inl aI,⟨EqD.int _ _ _,EqD.int _ _ _,trivial⟩,_,rfl,bE ?_⟩
   have sB:=sA.trans s3
   refine⟨_,rfl,l,_,1,u,rfl,rfl,SqL.of (sB _ _ hl),bF (j:=1) rfl,u,rfl,(ku.le (by decide)).ext sB.ext,_,rfl,?_⟩
   rw [jN sB (ku.le (by decide))]
   have fin:=q _ sB
   cases hk:clV H u with
   |false=>
    refine aY ?_
    rw [show cV H v u=some 4 by unfold cV;rw [hc,hk];rfl]at fin
    exact fin
   |true=>
    refine bE ?_
    rw [show cV H v u=none by unfold cV;rw [hc,hk];rfl]at fin
    exact fin
  |5,_,[v,x,y],_,kx,q,hl=>
   have kv:=kx v (by simp)
   have kX:=kx x (by simp)
   have kY:=kx y (by simp)
   refine .inr ⟨_,rfl,?_⟩
   refine⟨_,rfl,rfl,_,rfl,aY (aY ?_)⟩
   refine⟨_,rfl,_,rfl,l,_,0,v,rfl,rfl,SqL.of (s1 _ _ hl),bF (j:=0) rfl,?_⟩
   refine⟨_,rfl,v,rfl,kv.ext s1.ext,fun H2 s2=> ⟨_,rfl,?_⟩⟩
   rw [e1 kv]
   have ed:cZ H 5 [v,x,y]=dI H v x y:=rfl
   cases hc:bV H v with
   |false=>
    refine bE ?_
    have:=q H2 (s1.trans s2)
    rw [ed,show dI H v x y=some 5 by unfold dI;rw [hc];rfl]at this
    exact this
   |true=>
   refine aY ?_
   have sA:=s1.trans s2
   obtain⟨a,cl,rfl,hA,G⟩:=jH hc
   have eo:=lL hA x
   have eo2:=lL hA y
   refine⟨_,rfl,rfl,_,rfl,aY (aY ?_)⟩
   refine⟨_,rfl,by show 2<=sizeLine;decide,fun t2 ht2=> ?_⟩
   have s3:=aJ (o:=.tup [.int 3,.int 4]) ht2
   refine⟨t2,_,[decide ((3:Int)=5),decide ((4:Int)=5)],rfl,.inl aI,⟨EqD.int _ _ _,EqD.int _ _ _,trivial⟩,_,rfl,aY ?_⟩
   have s16:=sA.trans s3
   refine⟨_,rfl,rfl,_,rfl,aY ?_⟩
   refine⟨_,rfl,_,rfl,_,_,rfl,rfl,_,rfl,l,_,rfl,SqL.of (s16 _ _ hl),fun h hh=> ?_⟩
   have hcut:cO [.ref a,x,y] (some ((if id ([decide ((1:Int)=((5:Nat):Int)),decide ((2:Int)=((5:Nat):Int))].any id)=true then(1:Int)else 0)+1)) none=[x,y]:=rfl
   rw [hcut]
   have s7:=aJ (o:=.lst [x,y]) hh
   have s17:=s16.trans s7
   refine⟨_,rfl,h,rfl,⟨_,SqL.of aI⟩,fun Z b2 hb2=> ?_⟩
   refine tV (rest:=[some (.ref a)]) (fun x=>eQ cl x) oE (fun H' hs=>SqL.of (hs _ _ aI)) hb2 (by show 2<=1000;decide) (fun z H' Q' hm hs hq=> ?_) fun σ H8 s8 hb8=> ?_
   ·have kz:Kn H 3 z:=by
     simp only [List.mem_cons,List.not_mem_nil,or_false]at hm
     rcases hm with rfl|rfl
     ·exact kX
     ·exact kY
    exact tst a cl z H' Q' hA G (kz.le (by decide)) (s17.trans hs) hq
   refine⟨_,rfl,by show 0<=sizeLine;decide,fun e2 he2=> ?_⟩
   have s9:=aJ (o:=.lst []) he2
   have hh9:=s9 _ _ (s8 _ _ (aI (H:=_) (a:=h) (o:=.lst [x,y])))
   refine rN (s9 _ _ hb8) aI ⟨_,rfl,?_⟩
   have fin:=q _ ((s17.trans s8).trans s9)
   cases hbx:dS cl x with
   |false=>
    have hf:(!([x,y].filter fun x=>eQ cl x).isEmpty)=true:=by unfold eQ;simp [hbx]
    rw [hf]
    refine bE (bE ?_)
    rw [ed,show dI H (.ref a) x y=some 6 by unfold dI;rw [hc,eo,hbx];rfl]at fin
    exact fin
   |true=>
   cases hby:dS cl y with
   |false=>
    have hf:(!([x,y].filter fun x=>eQ cl x).isEmpty)=true:=by unfold eQ;simp [hbx,hby]
    rw [hf]
    refine bE (bE ?_)
    rw [ed,show dI H (.ref a) x y=some 6 by unfold dI;rw [hc,eo,eo2,hbx,hby];rfl]at fin
    exact fin
   |true=>
   have hf:(!([x,y].filter fun x=>eQ cl x).isEmpty)=false:=by unfold eQ;simp [hbx,hby]
   rw [hf]
   refine aY ?_
   refine⟨_,rfl,rfl,_,rfl,bE ?_⟩
   obtain⟨i,rfl,_⟩:=jU hbx
   obtain⟨j,rfl,_⟩:=jU hby
   refine⟨_,rfl,h,_,0,.int i,rfl,rfl,SqL.of hh9,bF (j:=0) rfl,_,rfl,h,_,1,.int j,rfl,rfl,SqL.of hh9,bF (j:=1) rfl,rfl,_,rfl,cW (fun z=> ?_) fun z=> ?_⟩
   ·rw [ed,show dI H (.ref a) (.int i) (.int j)=some 6 by unfold dI;rw [hc,eo,eo2,hbx,hby];simp [dif,V.int.inj z]]at fin
    exact fin
   ·have hij:i≠j:=fun e=>z (by rw [e])
    rw [ed,show dI H (.ref a) (.int i) (.int j)=none by unfold dI;rw [hc,eo,eo2,hbx,hby];simp [dif,hij]]at fin
    exact fin
  |n+6,hn,_,_,_,_,_=>exact absurd hn (by omega)
end
end M04
namespace L2
open PySem PySem.Spec PyProof.Rows
section
variable {P:Program}{w:World}{H:Hp}{h:Heap}
mutual
theorem pL (ok:HOk P w H h):∀(d:PyData)(v:V)(u:Value),RdA H d v->RelV v u->∃as,Reads h u d as/\∀x∈as,H x≠none
 | .none,_,_,e,r=>by
  simp only [RdA]at e;subst e
  cases (show _=Value.none from r)
  exact⟨[],.none,fun _ z=>by cases z⟩
 | .bool b,_,_,e,r=>by
  simp only [RdA]at e;subst e
  cases (show _=Value.bool b from r)
  exact⟨[],.bool b,fun _ z=>by cases z⟩
 | .int i,_,_,e,r=>by
  simp only [RdA]at e;subst e
  obtain⟨t,rfl⟩:=(show∃t,_=Value.int i t from r)
  exact⟨[],.int i t,fun _ z=>by cases z⟩
 | .str x,_,_,e,r=>by
  simp only [RdA]at e;subst e
  obtain⟨t,rfl⟩:=(show∃t,_=Value.str x t from r)
  exact⟨[],.str x t,fun _ z=>by cases z⟩
 | .list ds,_,_,e,r=>by
  simp only [RdA]at e
  obtain⟨a,xs,rfl,ha,hx⟩:=e
  cases (show _=Value.ref a from r)
  obtain⟨_,its,n,rv,ho⟩:=(show ObjOk P w H h a (.lst xs)from ok _ _ ha)
  obtain⟨as,h1,h2⟩:=uD ok ds xs its hx rv
  refine⟨a::as,.list ho rfl rfl h1,fun x z=> ?_⟩
  rcases List.mem_cons.mp z with rfl|z
  ·rw [ha];simp
  ·exact h2 x z
 | .tuple ds,_,_,e,r=>by
  simp only [RdA]at e
  obtain⟨a,xs,rfl,ha,hx⟩:=e
  cases (show _=Value.ref a from r)
  obtain⟨_,its,rv,o,ho,hc,n,hd⟩:=(show ObjOk P w H h a (.tup xs)from ok _ _ ha)
  obtain⟨as,h1,h2⟩:=uD ok ds xs its hx rv
  exact⟨as,.tuple ho hc hd h1,h2⟩
 | .dict kvs,_,_,e,r=>by
  simp only [RdA]at e
  obtain⟨a,ks,rfl,ha,hx⟩:=e
  cases (show _=Value.ref a from r)
  obtain⟨_,hs,vs,hk,o,es,ep,ho,hex,hd,_,hp,_⟩:=(show ObjOk P w H h a (.dK ks)from ok _ _ ha)
  obtain⟨as,bs,h1,h2,h3,h4⟩:=zQ ok kvs ks es.toList hx (A12 hk hp)
  refine⟨a::as++bs,.dict ho hex.1 hd h1 h2,fun x z=> ?_⟩
  rw [List.cons_append,List.mem_cons,List.mem_append]at z
  rcases z with rfl|z|z
  ·rw [ha];simp
  ·exact h3 x z
  ·exact h4 x z
theorem uD (ok:HOk P w H h):∀(ds:List PyData)(xs:List V)(us:List Value),RdAs H ds xs->Vals xs us->∃as,ReadsAll h us ds as/\∀x∈as,H x≠none
 | [],_,_,e,r=>by
  simp only [RdAs]at e;subst e
  cases r
  exact⟨[],.nil,fun _ z=>by cases z⟩
 |d::ds,_,_,e,r=>by
  simp only [RdAs]at e
  obtain⟨y,ys,rfl,h1,h2⟩:=e
  cases r with
  |cons r1 r2=>
   obtain⟨as,g1,g2⟩:=pL ok d y _ h1 r1
   obtain⟨bs,g3,g4⟩:=uD ok ds ys _ h2 r2
   refine⟨as++bs,.cons g1 g3,fun x z=> ?_⟩
   rcases List.mem_append.mp z with z|z
   ·exact g2 x z
   ·exact g4 x z
theorem zQ (ok:HOk P w H h):∀(ds:List (PyData×PyData))(xs:List (Key×V))(es:List DictEntry),RdKv H ds xs->Paired (fun(p:Key×V) (e:DictEntry)=>RelV (kV p.1) e.key/\RelV p.2 e.val) xs es->
  ∃as bs,ReadsAll h (es.map (·.key)) (ds.map (·.1)) as/\ReadsAll h (es.map (·.val)) (ds.map (·.2)) bs/\(∀x∈as,H x≠none)/\∀x∈bs,H x≠none
 | [],_,_,e,r=>by
  simp only [RdKv]at e;subst e
  cases r
  exact⟨[],[],.nil,.nil,fun _ z=>absurd z (by simp),fun _ z=>absurd z (by simp)⟩
 | (k,d)::ds,_,_,e,r=>by
  simp only [RdKv]at e
  obtain⟨j,y,ys,rfl,h0,h1,h2⟩:=e
  cases r with
  |cons r1 r2=>
   obtain⟨as,g1,g2⟩:=pL ok k _ _ h0 r1.1
   obtain⟨bs,g3,g4⟩:=pL ok d y _ h1 r1.2
   obtain⟨as',bs',g5,g6,g7,g8⟩:=zQ ok ds ys _ h2 r2
   refine⟨as++as',bs++bs',.cons g1 g5,.cons g3 g6,fun x z=> ?_,fun x z=> ?_⟩
   ·rcases List.mem_append.mp z with z|z
    ·exact g2 x z
    ·exact g7 x z
   ·rcases List.mem_append.mp z with z|z
    ·exact g4 x z
    ·exact g8 x z
end
end
section
variable {X:Cx}
theorem A1n (hM:∃o,X.base.get? sysModules=some o)(hg:X.A.guards=some [])(hu:X.A.units+64<cLine):dX X (.builtin "repr") (fun xs H Q=> ∃a ds,xs=[.ref a]/\RdA H (.list ds) (.ref a)/\Gd 100000 40 (.list ds)/\Q (.str (PyData.list ds).shown) H):=by
 intro pins s σ H xs us Q I r h
 obtain⟨a,ds,rfl,hr,hS,q⟩:=h
 obtain⟨u,rfl,rx⟩:=eT r
 have hfit:=hS.fits (Nat.le_refl _)
 have hdp:=hS.dp
 obtain⟨o,ho⟩:=hM
 have h1:H sysModules=none:=(I.bs _ _ ho).2
 cases (show _=Value.ref a from rx)
 obtain⟨as,g1,g2⟩:=pL I.hok _ _ _ hr rx
 refine repr_of_reads' g1 hS.sh (fun _ z=>g2 _ z h1) hg (by omega) (fun _ _ e=>e) (fun h' u' tk hk=> ?_) hfit
 exact⟨.str (PyData.list ds).shown,H,I.kept hk,⟨u',rfl⟩,q⟩
end
theorem Inv.melt {X:Cx}{pins pins1:List (Addr×Obj)}{σ σ1:St}{H H1:Hp}{s s1:Shared}{r:Addr}{o:Obj}{xs:List V}(I:Inv X pins σ H s)(hr:H r=some (.lst xs))(I1:Inv X pins1 σ1 H1 s1)(h1:H1 r=some (.frz o (.lst xs))):Inv X pins1 σ1 (upd H1 r (.lst xs)) s1:=by
 have hn:∀b,H1 b=none->b≠r:=fun b n z=>by rw [z,h1]at n;cases n
 refine⟨I1.ok,I1.os,I1.bare,⟨I1.base.keep,I1.base.slot,fun b ob q n hx=> ?_,I1.base.there,fun b ys q=> ?_,fun b ob u q=> ?_,fun b ps q=> ?_⟩,I1.loc,I1.cell,?_,fun x c q=> ?_,fun p hp=> ?_,fun b v q=> ?_,I1.len⟩
 ·have:=I1.base.free b ob q n hx
  rw [aS (hn b this)];exact this
 ·have:=I1.base.tups b ys q
  rw [aS (fun z=>by rw [z,h1]at this;cases this)];exact this
 ·have e:=I.base.frzs b ob u q
  rw [aS (fun z=>by rw [z,hr]at e;cases e)];exact I1.base.frzs b ob u q
 ·obtain⟨m,e⟩:=I1.base.tbls b ps q
  exact⟨m,by rw [aS (fun z=>by rw [z,h1]at e;cases e)];exact e⟩
 ·rw [aS (hn _ I1.free)];exact I1.free
 ·rw [aS (hn _ (I1.freeC x c q))];exact I1.freeC x c q
 ·obtain⟨a,b,c⟩:=I1.pin p hp
  exact⟨a,by rw [aS (hn _ b)];exact b,c⟩
 ·have st:∀c w',ObjOk X.prog X.w H1 s1.heap c w'->ObjOk X.prog X.w (upd H1 r (.lst xs)) s1.heap c w':=fun c w' x=>
   x.stay (fun _ _ _ q=>q) (fun b q=>by rw [aS (fun z=>by rw [z,h1]at q;cases q)];exact q) fun b xs q=>by rw [aS (fun z=>by rw [z,h1]at q;cases q)];exact q
  by_cases hb:b=r
  ·subst hb
   rw [aI]at q;cases q
   exact st _ _ (show ObjOk X.prog X.w H1 s1.heap b (.frz o (.lst xs))from I1.hok b _ h1).2
  ·rw [aS hb]at q
   exact st _ _ (I1.hok _ _ q)
def A40 (te:TE):TE:=fun σ H Q=> ∃r xs,H r=some (.lst xs)/\∀o,te σ (upd H r (.frz o (.lst xs))) fun v H'=>H' r=some (.frz o (.lst xs))/\Q v (upd H' r (.lst xs))
theorem B19 {X:Cx}{e:Expr}{te:TE}(he:PE X e te):PE X e (A40 te):=by
 intro pins s σ H Q I h
 obtain⟨r,xs,hr,k⟩:=h
 obtain⟨_,its,n,_,ho⟩:=(show ObjOk X.prog X.w H s.heap r (.lst xs)from I.hok r _ hr)
 have I':=I.freeze (by rw [hr];trivial) hr ho
 refine thn (he pins s σ _ _ I' (k _)) fun v s1 ⟨x,H1,I1,r1,q1,q2⟩=> ?_
 exact⟨x,_,I.melt hr I1 q1,r1,q2⟩
def A33:HO->Prop| .lst _=>True| .tup _=>True| .dK _=>True|_=>False
def Spl (H H':Hp):Prop:=∀b u,H b=some u->A33 u->H' b=some u
mutual
theorem RdA.spl {H H':Hp}(s:Spl H H'):∀{d:PyData}{v:V},RdA H d v->RdA H' d v
 | .none,_,h=>by simp only [RdA]at h⊢;exact h
 | .bool _,_,h=>by simp only [RdA]at h⊢;exact h
 | .int _,_,h=>by simp only [RdA]at h⊢;exact h
 | .str _,_,h=>by simp only [RdA]at h⊢;exact h
 | .list ds,_,h=>by
  simp only [RdA]at h⊢
  obtain⟨a,xs,e,ha,hx⟩:=h
  exact⟨a,xs,e,s _ _ ha trivial,RdAs.spl s hx⟩
 | .tuple ds,_,h=>by
  simp only [RdA]at h⊢
  obtain⟨a,xs,e,ha,hx⟩:=h
  exact⟨a,xs,e,s _ _ ha trivial,RdAs.spl s hx⟩
 | .dict kvs,_,h=>by
  simp only [RdA]at h⊢
  obtain⟨a,xs,e,ha,hx⟩:=h
  exact⟨a,xs,e,s _ _ ha trivial,RdKv.spl s hx⟩
theorem RdAs.spl {H H':Hp}(s:Spl H H'):∀{ds:List PyData}{xs:List V},RdAs H ds xs->RdAs H' ds xs
 | [],_,h=>by simp only [RdAs]at h⊢;exact h
 |d::ds,_,h=>by
  simp only [RdAs]at h⊢
  obtain⟨y,ys,e,h1,h2⟩:=h
  exact⟨y,ys,e,RdA.spl s h1,RdAs.spl s h2⟩
theorem RdKv.spl {H H':Hp}(s:Spl H H'):∀{ds:List (PyData×PyData)}{xs:List (Key×V)},RdKv H ds xs->RdKv H' ds xs
 | [],_,h=>by simp only [RdKv]at h⊢;exact h
 | (k,d)::ds,_,h=>by
  simp only [RdKv]at h⊢
  obtain⟨y,z,ys,e,h0,h1,h2⟩:=h
  exact⟨y,z,ys,e,RdA.spl s h0,RdA.spl s h1,RdKv.spl s h2⟩
end
theorem Dt.spl {H H':Hp}{n D:Nat}{v:V}(h:Dt H n D v)(s:Spl H H'):Dt H' n D v:=let ⟨d,h1,h2⟩:=h;⟨d,RdA.spl s h1,h2⟩
theorem Dt.list {H:Hp}{n D m:Nat}{a:Addr}{xs:List V}(ha:H a=some (.lst xs))(h:∀x∈xs,Dt H n D x)(hm:xs.length<=m):∃ds,RdA H (.list ds) (.ref a)/\Gd (m*(n+1)) (D+1) (.list ds):=by
 have go:∀ys:List V,(∀x∈ys,Dt H n D x)->∃ds,RdAs H ds ys/\ds.length=ys.length/\∀d∈ds,Gd n D d:=fun ys=>by
  induction ys with
  |nil=>intro _;exact⟨[],by simp only [RdAs],rfl,fun d hd=>by cases hd⟩
  |cons y ys ih=>
   intro hy
   obtain⟨ds,h1,h2,h3⟩:=ih fun x hx=>hy x (List.mem_cons_of_mem _ hx)
   obtain⟨d,g1,g2,_⟩:=hy y List.mem_cons_self
   refine⟨d::ds,by simp only [RdAs];exact⟨y,ys,rfl,g1,h1⟩,by rw [List.length_cons,List.length_cons,h2],fun d' hd=> ?_⟩
   rcases List.mem_cons.mp hd with rfl|hd
   ·exact g2
   ·exact h3 d' hd
 obtain⟨ds,h1,h2,h3⟩:=go xs h
 exact⟨ds,by simp only [RdA];exact⟨a,xs,rfl,ha,h1⟩,Gd.lst h3 (by omega)⟩
theorem TabI.same {H H1:Hp}{T:Addr}{ps:Array Value}{qual:Str}{poss:List Pos}(h:TabI H T ps qual poss)(s:Same H H1):TabI H1 T ps qual poss:=
 ⟨s _ _ h.at',h.tr,fun pos hp=>(h.cd pos hp).imp id fun⟨c',e1,e2⟩=> ⟨c',e1,s _ _ e2⟩⟩
theorem TabI.stp {p:Addr}{H H1:Hp}{T:Addr}{ps:Array Value}{qual:Str}{poss:List Pos}(h:TabI H T ps qual poss)(hp:PenAt H p)(s:Stp p H H1):TabI H1 T ps qual poss:=by
 obtain⟨x,y,e⟩:=hp
 refine⟨s.keep _ _ (fun z=>by rw [←z,h.at']at e;cases e) h.at',h.tr,fun pos hp=>(h.cd pos hp).imp id fun⟨c',e1,e2⟩=> ⟨c',e1,s.keep _ _ (fun z=> ?_) e2⟩⟩
 rw [←z,e2]at e;cases e
theorem Fun.okC {P:Program}{w:World}{K:W.Frag}{mg:Str->Option Value}{base:Heap}{x qual:Str}{st:Stmt}{f c:Addr}{fd:FuncData}{N ps:List Str}{k:Nat}{sp:Sp}(F:Fun K x qual st f fd)(S:bH N ps (aQ st))(hc:fd.code= .ref c)(len:∀vs H Q E,sp vs H Q E->vs.length=ps.length)
  (hbody:∀(A:Around)(outer:List Env)(s:Shared)(H:Hp)(vs:List V)(Q:VK)(E:XK),Room k (A.deeper (envOfC qual (aQ st) s.heap.objs.size f (.ref c)))->sp vs H Q E->
   ∃t,PSs (cN CX0 P w K mg base N qual (aQ st) f (.ref c) A outer s H E).nox (bX st) t/\t {nx:=fun _ H'=>Q .non H',rt:=Q} (start N vs) H):aR P w K mg base CX0 (k+1) f fd ps sp:=by
 obtain⟨oc,od,kV,doc,pm,an,cdv,ct,osl,rfl,lk,hcd⟩:=F.ex
 have e:cdv= .ref c:=hc
 subst e
 refine uW lk hcd S len fun A outer s H vs Q E hr hsp=> ?_
 obtain⟨t,h,q⟩:=hbody A outer s H vs Q E hr hsp
 exact⟨t,h.nox,q⟩
end L2
namespace M04
open PySem L2 PyProof.Rows
abbrev uG:List Str:=["_law_script","_law_forms","_law_cell_here","_law_pen_here","_law_custom_here","_law_kinds","_law_kept","_law_due_here","_law_told","_law_some","_law_way"]
def A13 (s:Stmt):List Stmt:=match s with| .For _ _ b _ _=>b|_=> []
abbrev lawFor:List Stmt:=A13 ((bX cR).getD 2 (.Pass ⟨0,0,0,0⟩))
abbrev inFor:List Stmt:=A13 (lawFor.getD 2 (.Pass ⟨0,0,0,0⟩))
theorem scLaw:bH uG ["_law_script"] (aQ cR):=by ac_rfl
abbrev XL (P:Program)(w:World)(K:W.Frag)(mg:Str->Option Value)(base:Heap)(f:Addr)(cdv:Value)(A:Around)(outer:List Env)(s:Shared)(H0:Hp)(E:XK):Cx:=(cN CX0 P w K mg base uG "law" (aQ cR) f cdv A outer s H0 E).nox
def B1i (s:Stmt):Expr:=match s with| .Assign _ (.Call _ (l::_) _ _) _=>l|_=> .Constant .none 0 ⟨0,0,0,0⟩
def A8n (e:Expr)(d:Arguments):Arguments:=match e with| .Lambda a _ _ _=>a|_=>d
def A47 (e:Expr):Expr:=match e with| .Lambda _ b _ _=>b|e=>e
def A0b (e:Expr):Scope:=match e with| .Lambda _ _ s _=>s|_=>aQ cR
def xK (e:Expr):Pos:=match e with| .Lambda _ _ _ p=>p|_=> ⟨0,0,0,0⟩
abbrev lJ:Expr:=B1i (inFor.getD 2 (.Pass ⟨0,0,0,0⟩))
abbrev iS:List Pos:=[xK lJ]
abbrev qL:Str:="law.<locals>.<lambda>"
def Kpt (p T:Addr)(H H':Hp):Prop:=∀b u,b≠p->b≠T->H b=some u->H' b=some u
theorem Kpt.tr {p T:Addr}{H H1 H2:Hp}(a:Kpt p T H H1)(b:Kpt p T H1 H2):Kpt p T H H2:=fun x u n m e=>b x u n m (a x u n m e)
theorem Kpt.gr {p T:Addr}{H H1:Hp}(a:jX T H H1):Kpt p T H H1:=fun x u _ m e=>a x u m e
theorem Kpt.st {p T:Addr}{H H1:Hp}(a:Stp p H H1):Kpt p T H H1:=fun x u n _ e=>a.keep x u n e
theorem Kpt.sm {p T:Addr}{H H1:Hp}(a:Same H H1):Kpt p T H H1:=fun x u _ _ e=>a x u e
theorem A5d {p T:Addr}{H H1:Hp}{ps:Array Value}(g:jX T H H1)(hT:H T=some (.tbl ps))(hp:PenAt H p):PenAt H1 p:=by
 obtain⟨x,y,e⟩:=hp
 exact⟨x,y,g p _ (fun z=>by rw [z,hT]at e;cases e) e⟩
theorem A0z {p T:Addr}{H:Hp}{ps:Array Value}(hT:H T=some (.tbl ps))(hp:PenAt H p):p≠T:=fun z=>by
 obtain⟨x,y,e⟩:=hp
 rw [z,hT]at e;cases e
section
variable {P:Program}{w:World}{K:W.Frag}{mg:Str->Option Value}{base:Heap}{f c T:Addr}{A:Around}{outer:List Env}{s:Shared}{H0:Hp}{E:XK}
theorem ys1:∀y∈(["_law_some","_law_way"]:List Str),(A0b lJ).names.lookup y=some .free/\(aQ cR).names.lookup y=some .cell:=by decide +kernel
theorem lt1 (C:W.CodeHd base c T)(B:fR mg base):A2f (XL P w K mg base f (.ref c) A outer s H0 E) c T qL iS (A8n lJ (jO cR)) (A47 lJ) (A0b lJ) (xK lJ) ["_law_some","_law_way"]where
 hs:=rfl
 hf:=rfl
 hfn:=rfl
 hcode:=rfl
 C:=C
 bm:=B
 hpos:=List.mem_cons_self
 hap:=by decide +kernel
 hq:=by first|rfl|kernel_rfl
 hdef:=rfl
 hbind:=fun _ _ _ _=>rfl
 hco:=rfl
 hgen:=rfl
 hk:=rfl
 hcell:=by decide +kernel
 hfree:=by decide +kernel
 hys:=ys1
structure Cls (K:W.Frag)(c:Nat->Addr)(cE:Addr):Prop where
 w:∀j,(3<=j/\j<=8)\/j=15->hV K c cE (c j) j
 tm:TM K (c 15)
def zL (H:Hp)(due:Option Nat)(n:Nat)(t:Addr):Prop:=
 (∃j,due=some j/\H t=some (.tup [.str "no",.str (wd j)]))\/(due=none/\∃v,H t=some (.tup [.str "told",v]))\/
 (due=none/\∃j∈nX n,H t=some (.tup [.str "no",.str (wd j)]))\/(due=none/\sJ n=true/\∃i j,H t=some (.tup [.str "no",.str "many",.int i,.int j]))
theorem wH {H H':Hp}(s:Same H H'){n:Nat}{xs:List V}(kx:∀x∈xs,Kn H 3 x):cZ H' n xs=cZ H n xs:=by
 unfold cZ
 split
 ·rw [jT s (kx _ (by simp))]
 ·exact pF s ((kx _ (by simp)).le (by decide)) (kx _ (by simp))
 ·exact pF s ((kx _ (by simp)).le (by decide)) (kx _ (by simp))
 ·exact pZ s (kx _ (by simp)) ((kx _ (by simp)).le (by decide))
 ·exact pZ s (kx _ (by simp)) ((kx _ (by simp)).le (by decide))
 ·exact B1y s (kx _ (by simp))
 ·rfl
theorem A7f {H:Hp}{n:Nat}{xs:List V}{j:Nat}(h:cZ H n xs=some j):3<=j/\j<=8:=by
 unfold cZ at h
 split at h
 ·split at h<;>cases h;decide
 ·unfold cS eO at h;repeat' split at h
  all_goals (first|cases h;decide|skip)
  all_goals (rename_i z;repeat' split at z)
  all_goals (first| (cases z;cases h;decide)|cases z|cases h)
 ·unfold cS eO at h;repeat' split at h
  all_goals (first|cases h;decide|skip)
  all_goals (rename_i z;repeat' split at z)
  all_goals (first| (cases z;cases h;decide)|cases z|cases h)
 ·unfold cV at h;repeat' split at h
  all_goals (cases h;try decide)
 ·unfold cV at h;repeat' split at h
  all_goals (cases h;try decide)
 ·unfold dI at h;repeat' split at h
  all_goals (cases h;try decide)
 ·cases h
theorem B04 {gC gM cE:Addr}{dC dM:FuncData}{cc:Nat->Addr}(hr:Room 11 (XL P w K mg base f (.ref c) A outer s H0 E).A)(C:W.CodeHd base c T)(B:fR mg base)(Z:Cls K cc cE)
  (nC:mg "_law_came" =some (.ref gC))(kC:W.keepIn K (.ref gC)=true)(bC:L2.Binds K dC ["_law_call_here"] [])(oC:jY P w K mg base 11 gC dC ["_law_call_here"] (mI P w K mg base cc cE))
  (aM:AtD P w K mg base 9 "_law_call" gM dM ["_law_way","_law_some"] (oA cc)):
  ∃tt,PS (XL P w K mg base f (.ref c) A outer s H0 E) (inFor.getD 2 (.Pass ⟨0,0,0,0⟩)) tt/\
  ∀(D:cQ)(ps:Array Value)(o0 o1 o2 o3 o4 o5 o6 o7 o8:Option V)(l:Addr)(n:Nat)(xs:List V)(H:Hp),TabI H T ps qL iS->n<6->H l=some (.lst xs)->xs.length=lV n->(∀x∈xs,KnA (wo T H) x)->
   (∀t ps' H1 H2,jX T H H1->Same H1 H2->TabI H2 T ps' qL iS->zL H2 (cZ H n xs) n t->D.nx [o0,o1,o2,o3,o4,o5,o6,o7,some (.ref t),some (.ref l),some (.int n)] H2)->tt D [o0,o1,o2,o3,o4,o5,o6,o7,o8,some (.ref l),some (.int n)] H:=by
 have nd:=scLaw.nd
 refine⟨_,dR (i:=8) nd rfl (Or.inl rfl) (A6v oC hr rfl nC kC bC (lt1 C B)),?_⟩
 intro D ps o0 o1 o2 o3 o4 o5 o6 o7 o8 l n xs H hT hn hl hx kx hD
 refine⟨ps,[.ref l,.int n],hT,rfl,fun j y v e1 e2=> ?_,fun g ps' H1 h gr T1 R=> ?_⟩
 ·match j with
  |0=>cases e1;cases e2;exact⟨9,rfl,rfl⟩
  |1=>cases e1;cases e2;exact⟨10,rfl,rfl⟩
  |j+2=>cases e1
 obtain⟨fa,hn',hfr,c',cls,run⟩:=R
 have hlT:l≠T:=fun z=>by rw [z,hT.at']at hl;cases hl
 have hl1:=gr l _ hlT hl
 have sT:Same (wo T H) H1:=fun b u e=>by
  have hb:b≠T:=fun z=>by unfold wo at e;rw [if_pos z]at e;cases e
  exact gr b u hb (rH T H b u e)
 have kx1:∀x∈xs,Kn H1 3 x:=fun x hm=>(kx x hm 3).ext sT.ext
 have ed:cZ H n xs=cZ H1 n xs:=(wH (rH T H) fun x hm=>kx x hm 3).trans (wH sT fun x hm=>kx x hm 3).symm
 rw [ed]at hD
 have step:∀t H2,Same H1 H2->zL H2 (cZ H1 n xs) n t->D.nx [o0,o1,o2,o3,o4,o5,o6,o7,some (.ref t),some (.ref l),some (.int n)] H2:=fun t H2 s2 hc=>hD t ps' H1 H2 gr s2 (T1.same s2) hc
 refine⟨g,fun v H'=>Same H1 H'/\cZ H1 n xs=none,rfl,fa,hn',hfr,fun A' outer' s' Q' E' hr' e0 keep hv hE=> ?_,?_⟩
 ·refine run A' outer' s' Q' E' 9 hr' e0 keep ⟨_,aX aM.ok (hr'.deeper _) rfl aM.nm aM.kp aM.bd .nil B1m (aG (pv 1) (aG (pv 0) aF)),?_⟩
  refine⟨_,rfl,_,rfl,n,l,xs,rfl,hn,hl1,hx,kx1,fun j hj H' s'=> ?_,fun hd=> ⟨fun v H' s'=>hv _ _ ⟨s',hd⟩,fun j hj H' s'=> ?_,fun hm d i k H' s' hd'=> ?_⟩⟩
  ·have hb:=A7f hj
   exact hE _ _ _ ⟨cc j,j,rfl,Z.w j (.inl hb),.inr ⟨by omega,fun t H2 s2 ht=>step t H2 (s'.trans s2) (.inl ⟨j,hj,ht⟩)⟩⟩
  ·have hb:(3<=j/\j<=8):=by
    unfold nX at hj
    split at hj<;>simp at hj<;>omega
   exact hE _ _ _ ⟨cc j,j,rfl,Z.w j (.inl hb),.inr ⟨by omega,fun t H2 s2 ht=>step t H2 (s'.trans s2) (.inr (.inr (.inl ⟨hd,j,hj,ht⟩)))⟩⟩
  ·exact hE _ _ _ ⟨cc 15,15,rfl,Z.w 15 (.inr rfl),.inl ⟨rfl,Z.tm,d,i,k,rfl,hd',fun t H2 s2 ht=>step t H2 (s'.trans s2) (.inr (.inr (.inr ⟨hd,hm,i,k,ht⟩)))⟩⟩
 ·rintro v H' ⟨s',hd⟩ t ht
  have s2:=aJ (o:=.tup [.str "told",v]) ht
  exact step t _ (s'.trans s2) (.inr (.inl ⟨hd,v,aI⟩))
end
def tU (k:Str):Prop:=k= "holder" \/k= "claims" \/k= "custom" \/k= "claim"
theorem zK:bootBuiltins "repr" =some (.builtin "repr"):=by decide +kernel
theorem A4s:(["_law_kind","_law_pen_here","_law_custom_here"]:List Str).Nodup:=by decide +kernel
section
variable {P:Program}{w:World}{K:W.Frag}{mg:Str->Option Value}{base:Heap}{f c T:Addr}{A:Around}{outer:List Env}{s:Shared}{H0:Hp}{E:XK}{cdv:Value}
theorem A57 {gT:Addr}{dT:FuncData}(hr:Room 11 (XL P w K mg base f cdv A outer s H0 E).A)(aT:At P w K mg base 5 "_law_thing" gT dT ["_law_pen_here","_law_kind","_law_custom_here"] nH):
  ∃tt,PS (XL P w K mg base f cdv A outer s H0 E) (inFor.getD 0 (.Pass ⟨0,0,0,0⟩)) tt/\
  ∀(D:cQ)(o0 o1 o2 o6 o7 o8 o9 o10:Option V)(p cu kl:Addr)(cs:List Int)(ks:List Str)(H:Hp),PenAt H p->hZ H cu cs->fY cs->kl≠p->H kl=some (.lst (ks.map V.str))->ks.length<=3->(∀k∈ks,tU k)->
   (∀l xs H',H l=none->Stp p H H'->H' l=some (.lst xs)->xs.length=ks.length->(∀x∈xs,Dt (wo l (wo p H')) 1000 30 x)->D.nx [o0,o1,o2,some (.ref p),some (.ref cu),some (.ref kl),o6,o7,o8,some (.ref l),o10] H')->tt D [o0,o1,o2,some (.ref p),some (.ref cu),some (.ref kl),o6,o7,o8,o9,o10] H:=by
 have nd:=scLaw.nd
 have r5:Room 5 (XL P w K mg base f cdv A outer s H0 E).A:=hr.mono (by decide)
 refine⟨_,dR (i:=9) nd rfl (Or.inr rfl) (dL (aQ cR).names uG ["_law_kind"] [("_law_pen_here",3),("_law_custom_here",4)] rfl (lA (pv 5)) rfl rfl rfl (by decide +kernel)
  (fun Z=>bL (i:=0) A4s rfl (Or.inl rfl)) (fun Z=>fJ) (fun Z=>B19 (aX aT.ok r5 rfl aT.nm aT.kp aT.bd .nil bA (aG (pv 1) (aG (pv 0) (aG (pv 2) aF)))))),?_⟩
 intro D o0 o1 o2 o6 o7 o8 o9 o10 p cu kl cs ks H hp hcu Gc hklp hkl hk3 hkk hD
 refine⟨_,rfl,kl,rfl,⟨_,SqL.of hkl⟩,fun Z r hr'=> ?_⟩
 have hrp:=hp.fresh hr'
 refine qV (K:=K) (a:=kl) (xs:=ks.map V.str) (fun i σ H'=>(∃o,σ=[o,some (.ref p),some (.ref cu)])/\Stp p H H'/\∃vs:List V,H' r=some (.lst vs)/\vs.length=i/\∀v∈vs,Dt (wo r (wo p H')) 1000 30 v)
  ⟨⟨none,rfl⟩,(Stp.refl hp).updL hr' hp,[],aI,rfl,fun b h=>by cases h⟩ (fun i σ H' _ h=>SqL.of (h.2.1.keep kl _ hklp hkl)) ?_ ?_
 ·rintro i x σ H' hx ⟨⟨o,rfl⟩,st,vs,hl',hn,hv⟩
  rw [List.getElem?_map]at hx
  cases hki:ks[i]? with
  |none=>rw [hki]at hx;cases hx
  |some k=>
  rw [hki]at hx;cases hx
  have hi:i<ks.length:=(List.getElem?_eq_some_iff.mp hki).1
  refine pU ?_
  refine⟨r,vs,hl',fun ob=> ?_⟩
  have stf:Stp p H (upd H' r (.frz ob (.lst vs))):=st.updO hr' hp
  refine⟨_,rfl,_,rfl,_,rfl,p,k,cu,cs,rfl,stf.pen,stf.keep cu _ (hp.ne hcu (by intro z;simp)) hcu,Gc,hkk k (List.mem_of_getElem? hki),fun v H4 st4 dv=> ?_⟩
  have hr4:H4 r=some (.frz ob (.lst vs)):=st4.keep r _ hrp aI
  refine⟨hr4,?_⟩
  refine⟨_,aI,eW (by omega),⟨_,rfl⟩,(((stf.trans st4).updO hr' hp).updO hr' hp),vs++[v],aI,by rw [List.length_append,hn];rfl,fun x hx=> ?_⟩
  rcases List.mem_append.mp hx with h|h
  ·refine(hv x h).same fun b u e=> ?_
   have hbr:b≠r:=fun z=>by unfold wo at e;rw [if_pos z]at e;cases e
   have hbp:b≠p:=fun z=>by unfold wo at e;rw [if_neg hbr,if_pos z]at e;cases e
   have e':H' b=some u:=by unfold wo at e;rw [if_neg hbr,if_neg hbp]at e;exact e
   unfold wo;rw [if_neg hbr,if_neg hbp,aS hbr,aS hbr]
   exact st4.keep b u hbp (by rw [aS hbr];exact e')
  ·rw [List.mem_singleton.mp h]
   refine dv.spl fun b u e hf=> ?_
   have hbp:b≠p:=fun z=>by unfold wo at e;rw [if_pos z]at e;cases e
   have e':H4 b=some u:=by unfold wo at e;rw [if_neg hbp]at e;exact e
   have hbr:b≠r:=fun z=>by rw [z,hr4]at e';cases e';exact hf
   unfold wo;rw [if_neg hbr,if_neg hbp,aS hbr,aS hbr]
   exact e'
 ·rintro σ H' ⟨⟨o,rfl⟩,st,vs,hl',hn,hv⟩
  rw [List.length_map]at hn
  exact hD r vs H' hr' st hl' hn hv
theorem A7s {gT gD gC gM cE:Addr}{dT dD dC dM:FuncData}{cc:Nat->Addr}(TX:Txt mg)(SM:∃o,base.get? sysModules=some o)(hr:Room 11 (XL P w K mg base f (.ref c) A outer s H0 E).A)(C:W.CodeHd base c T)(B:fR mg base)(Z:Cls K cc cE)
  (aT:At P w K mg base 5 "_law_thing" gT dT ["_law_pen_here","_law_kind","_law_custom_here"] nH)(aD:At P w K mg base 4 "_law_due" gD dD ["_law_way","_law_some"] qR)
  (nC:mg "_law_came" =some (.ref gC))(kC:W.keepIn K (.ref gC)=true)(bC:L2.Binds K dC ["_law_call_here"] [])(oC:jY P w K mg base 11 gC dC ["_law_call_here"] (mI P w K mg base cc cE))
  (aM:AtD P w K mg base 9 "_law_call" gM dM ["_law_way","_law_some"] (oA cc)):
  ∃tt,PSs (XL P w K mg base f (.ref c) A outer s H0 E) inFor tt/\
  ∀(D:cQ)(ps:Array Value)(o0 o1 o2 o6 o7 o8 o9:Option V)(p cu kl:Addr)(n:Nat)(cs:List Int)(ks:List Str)(H:Hp),TabI H T ps qL iS->n<6->PenAt H p->hZ H cu cs->fY cs->kl≠p->H kl=some (.lst (ks.map V.str))->ks.length=lV n->(∀k∈ks,tU k)->
   (∀o6 o7 o8 o9 ps' H',Kpt p T H H'->PenAt H' p->TabI H' T ps' qL iS->D.nx [o0,o1,o2,some (.ref p),some (.ref cu),some (.ref kl),o6,o7,o8,o9,some (.int n)] H')->tt D [o0,o1,o2,some (.ref p),some (.ref cu),some (.ref kl),o6,o7,o8,o9,some (.int n)] H:=by
 have nd:=scLaw.nd
 have r4:Room 4 (XL P w K mg base f (.ref c) A outer s H0 E).A:=hr.mono (by decide)
 have hg:=hr.gd
 have hu:=hr.units
 have hu1:(XL P w K mg base f (.ref c) A outer s H0 E).A.units+0+1<cLine:=by omega
 obtain⟨t0,h0,k0⟩:=A57 (P:=P) (w:=w) (K:=K) (mg:=mg) (base:=base) (f:=f) (cdv:=.ref c) (A:=A) (outer:=outer) (s:=s) (H0:=H0) (E:=E) hr aT
 obtain⟨t2,h2,k2⟩:=B04 (P:=P) (w:=w) (K:=K) (mg:=mg) (base:=base) (f:=f) (c:=c) (T:=T) (A:=A) (outer:=outer) (s:=s) (H0:=H0) (E:=E) hr C B Z nC kC bC oC aM
 have e:inFor=[inFor.getD 0 (.Pass ⟨0,0,0,0⟩),inFor.getD 1 (.Pass ⟨0,0,0,0⟩),inFor.getD 2 (.Pass ⟨0,0,0,0⟩),inFor.getD 3 (.Pass ⟨0,0,0,0⟩),inFor.getD 4 (.Pass ⟨0,0,0,0⟩)]:=rfl
 rw [e]
 generalize inFor.getD 0 (.Pass ⟨0,0,0,0⟩)=q0 at h0⊢
 generalize inFor.getD 2 (.Pass ⟨0,0,0,0⟩)=q2 at h2⊢
 refine⟨_,aW h0<|
  aW (oF (i:=6) (j:=7) rfl nd rfl rfl (by decide) rfl rfl (bQ (bB (A1n SM hg hu) rfl TX.repr zK (aG (pv 9) aF)) (bQ (aX aD.ok r4 rfl aD.nm aD.kp aD.bd .nil bA (aG (pv 10) (aG (pv 9) aF))) aF)) rfl)<|
  aW h2<|
  aW (bU (PW.pt (gL (PW.pt (jA (bP A39 (pv 7) mY (nomark _)) (kG (bP (sZ 0 hu1) (pv 8) (dF (bS cX (aG (pv 7) aF))) (nomark _))))) (iM (bP uE (bB (A1n SM hg hu) rfl TX.repr zK (aG (pv 9) aF)) (pv 6) (nomark _))))) (aV (aZ eZ)) bT)<|
  aV (bU (PW.pt (jA (bP A4q (pv 7) mY (nomark _)) (jA (bP dG (bR fU (pv 8) aL (fun _ _=>rfl)) cX (nomark _)) (kG (PW.pt (gL (bP mV (pv 10) aL (nomark _)) (iM (bP (qA 0 hu1) (bR fU (pv 8) aL (fun _ _=>rfl)) (dF (bS cX (bS cX (bS cX (bS cX aF))))) rfl)))))))) (aV (aZ eZ)) bT),?_⟩
 intro D ps o0 o1 o2 o6 o7 o8 o9 p cu kl n cs ks H hT hn hp hcu Gc hklp hkl hks hkk hD
 have hk3:ks.length<=3:=by rw [hks];unfold lV;split<;>decide
 refine k0 _ _ _ _ _ _ _ _ _ p cu kl cs ks H hp hcu Gc hklp hkl hk3 hkk fun l xs H1 hl0 st1 hl hxl hx=> ?_
 rw [hks]at hxl
 have hlp:l≠p:=hp.fresh hl0
 have T1:=hT.stp hp st1
 have hpT:=A0z hT.at' hp
 have hlT:l≠T:=fun z=>by rw [z,hT.at']at hl0;cases hl0
 have hx1:∀x∈xs,Dt H1 1000 30 x:=fun x hm=>((hx x hm).same (rH l _)).same (rH p _)
 have hxl3:xs.length<=3:=by omega
 obtain⟨ds,rd,gd⟩:=Dt.list hl hx1 hxl3
 have gd':Gd 100000 40 (.list ds):=gd.mono (by decide) (by decide)
 refine⟨_,rfl,l,ds,rfl,rd,gd',?_⟩
 refine⟨_,rfl,_,rfl,n,l,xs,rfl,hn,hl,hxl,fun x hm=>(hx1 x hm).kn 3,fun H2 s2=> ?_⟩
 refine⟨_,_,rfl,?_⟩
 have T2:=T1.same s2
 have hx2:∀x∈xs,KnA (wo T H2) x:=fun x hm=>by
  refine(Dt.spl (hx x hm) (H':=wo T H2) fun b u e hu=> ?_).kn
  have hbl:b≠l:=fun z=>by unfold wo at e;rw [if_pos z]at e;cases e
  have hbp:b≠p:=fun z=>by unfold wo at e;rw [if_neg hbl,if_pos z]at e;cases e
  have e':H1 b=some u:=by unfold wo at e;rw [if_neg hbl,if_neg hbp]at e;exact e
  exact fL (s2 _ _ e') fun z=>by rw [z,T1.at']at e';cases e';exact hu
 have ed:cZ H2 n xs=cZ H1 n xs:=wH s2 fun x hm=>(hx1 x hm).kn 3
 refine k2 _ ps _ _ _ _ _ _ _ _ _ l n xs H2 T2 hn (s2 _ _ hl) hxl hx2 fun t ps' H3 H4 gr s4 T4 hc=> ?_
 rw [ed]at hc
 have kp:Kpt p T H H4:=((Kpt.st st1).tr (Kpt.sm s2)).tr ((Kpt.gr gr).tr (Kpt.sm s4))
 have hp4:PenAt H4 p:=(A5d gr T2.at' (st1.same s2).pen).same s4
 have spl:Spl H1 H4:=fun b u e hu=>by
  have hbT:b≠T:=fun z=>by rw [z,T1.at']at e;cases e;exact hu
  exact s4 _ _ (gr b u hbT (s2 _ _ e))
 have rd4:=rd.spl spl
 generalize hdv:qJ (cZ H1 n xs)=dv
 have done:∀H6,Same H4 H6->D.nx [o0,o1,o2,some (.ref p),some (.ref cu),some (.ref kl),some (.str (PyData.list ds).shown),some dv,some (.ref t),some (.ref l),some (.int n)] H6:=fun H6 s6=>hD _ _ _ _ ps' H6 (kp.tr (Kpt.sm s6)) (hp4.same s6) (T4.same s6)
 have sN:∀{x:Str},¬(V.str x=V.non):=fun z=>by cases z
 rcases hc with⟨j,hj,ht⟩| ⟨hd,v,ht⟩| ⟨hd,j,hj,ht⟩| ⟨hd,hm,i,k,ht⟩
 ·obtain rfl:dv= .str (wd j):=by rw [←hdv,hj];rfl
  refine⟨_,rfl,rfl,_,rfl,?_⟩
  rw [decide_eq_false sN]
  refine bE ?_
  refine⟨_,rfl,_,rfl,by show 2<=sizeLine;decide,fun t5 ht5=> ?_⟩
  have s5:=aJ (o:=.tup [.str "no",.str (wd j)]) ht5
  refine⟨t,t5,_,_,[decide (("no":Str)= "no"),decide (wd j=wd j)],rfl,rfl,.inl ⟨s5 _ _ ht,aI⟩,⟨.inr ⟨_,_,rfl,rfl,rfl⟩,.inr ⟨_,_,rfl,rfl,rfl⟩,trivial⟩,_,rfl,?_⟩
  rw [decide_eq_true rfl,decide_eq_true rfl]
  refine aY ?_
  refine⟨_,rfl,l,ds,rfl,rd4.same s5,gd',_,rfl,rfl,_,rfl,nR rfl ?_⟩
  refine⟨_,rfl,rfl,_,rfl,?_⟩
  rw [decide_eq_false sN]
  exact aY (aY (done _ s5))
 ·obtain rfl:dv= .non:=by rw [←hdv,hd];rfl
  refine⟨_,rfl,rfl,_,rfl,?_⟩
  rw [decide_eq_true rfl]
  refine aY (aY ?_)
  refine⟨_,rfl,l,ds,rfl,rd4,gd',_,rfl,rfl,_,rfl,nR rfl ?_⟩
  refine⟨_,rfl,rfl,_,rfl,?_⟩
  rw [decide_eq_true rfl]
  refine bE ?_
  exact⟨_,rfl,t,_,0,.str "told",rfl,rfl,SqT.of ht,bF (j:=0) rfl,rfl,_,rfl,cW (fun z=>absurd (V.str.inj z) (by decide)) fun _=>aY (done _ (Same.refl _))⟩
 ·obtain rfl:dv= .non:=by rw [←hdv,hd];rfl
  refine⟨_,rfl,rfl,_,rfl,?_⟩
  rw [decide_eq_true rfl]
  refine aY (aY ?_)
  refine⟨_,rfl,l,ds,rfl,rd4,gd',_,rfl,rfl,_,rfl,nR rfl ?_⟩
  refine⟨_,rfl,rfl,_,rfl,?_⟩
  rw [decide_eq_true rfl]
  refine bE ?_
  refine⟨_,rfl,t,_,0,.str "no",rfl,rfl,SqT.of ht,bF (j:=0) rfl,rfl,_,rfl,cW (fun _=> ?_) fun z=>absurd rfl z⟩
  have hn3:¬((n:Int)<3):=by
   unfold nX at hj
   split at hj
   ·decide
   ·decide
   ·cases hj
  refine⟨_,rfl,_,_,rfl,rfl,_,rfl,cW (fun z=>absurd z hn3) fun _=> ?_⟩
  refine⟨_,rfl,t,_,1,.str (wd j),rfl,rfl,SqT.of ht,bF (j:=1) rfl,by show 4<=sizeLine;decide,fun t5 ht5=> ?_⟩
  have s5:=aJ (o:=.tup [.str "there",.str "missing",.str "claims",.str "many"]) ht5
  refine⟨t5,_,[decide (("there":Str)=wd j),decide (("missing":Str)=wd j),decide (("claims":Str)=wd j),decide (("many":Str)=wd j)],rfl,.inl aI,⟨.inr ⟨_,_,rfl,rfl,rfl⟩,.inr ⟨_,_,rfl,rfl,rfl⟩,.inr ⟨_,_,rfl,rfl,rfl⟩,.inr ⟨_,_,rfl,rfl,rfl⟩,trivial⟩,_,rfl,?_⟩
  have hw:[decide (("there":Str)=wd j),decide (("missing":Str)=wd j),decide (("claims":Str)=wd j),decide (("many":Str)=wd j)].any id=true:=by
   unfold nX at hj
   split at hj
   ·rw [List.mem_singleton.mp hj];decide +kernel
   ·simp only [List.mem_cons,List.not_mem_nil,or_false]at hj
    rcases hj with rfl|rfl<;>decide +kernel
   ·cases hj
  rw [hw]
  exact aY (done _ s5)
 ·obtain rfl:dv= .non:=by rw [←hdv,hd];rfl
  refine⟨_,rfl,rfl,_,rfl,?_⟩
  rw [decide_eq_true rfl]
  refine aY (aY ?_)
  refine⟨_,rfl,l,ds,rfl,rd4,gd',_,rfl,rfl,_,rfl,nR rfl ?_⟩
  refine⟨_,rfl,rfl,_,rfl,?_⟩
  rw [decide_eq_true rfl]
  refine bE ?_
  refine⟨_,rfl,t,_,0,.str "no",rfl,rfl,SqT.of ht,bF (j:=0) rfl,rfl,_,rfl,cW (fun _=> ?_) fun z=>absurd rfl z⟩
  have hn3:¬((n:Int)<3):=by
   unfold sJ at hm
   split at hm
   ·decide
   ·decide
   ·cases hm
  refine⟨_,rfl,_,_,rfl,rfl,_,rfl,cW (fun z=>absurd z hn3) fun _=> ?_⟩
  refine⟨_,rfl,t,_,1,.str "many",rfl,rfl,SqT.of ht,bF (j:=1) rfl,by show 4<=sizeLine;decide,fun t5 ht5=> ?_⟩
  have s5:=aJ (o:=.tup [.str "there",.str "missing",.str "claims",.str "many"]) ht5
  refine⟨t5,_,[decide (("there":Str)= "many"),decide (("missing":Str)= "many"),decide (("claims":Str)= "many"),decide (("many":Str)= "many")],rfl,.inl aI,⟨.inr ⟨_,_,rfl,rfl,rfl⟩,.inr ⟨_,_,rfl,rfl,rfl⟩,.inr ⟨_,_,rfl,rfl,rfl⟩,.inr ⟨_,_,rfl,rfl,rfl⟩,trivial⟩,_,rfl,?_⟩
  have hw:[decide (("there":Str)= "many"),decide (("missing":Str)= "many"),decide (("claims":Str)= "many"),decide (("many":Str)= "many")].any id=true:=by decide +kernel
  rw [hw]
  exact aY (done _ s5)
end
def pE (K:W.Frag)(T:Addr):Sp:=fun vs H Q _=> ∃(a:Addr)(ns:List Int),vs=[.ref a]/\SqL K H a (ns.map V.int)/\H T=some (.tbl #[])/\ns.length<=63/\∀H',Q (.bl true) H'
def uH:List (List Str):=[["claims"],["custom","claims","holder"],["custom","claims","holder"],["claims","claim"],["claims","claim"],["claims","holder","holder"]]
theorem B0r:∀i ks,uH[i]?=some ks->i<6/\ks.length=lV i/\∀k∈ks,tU k:=fun i ks h=>by
 match i with
 |0=>cases h;exact⟨by decide,rfl,fun k hk=>by simp only [List.mem_cons,List.not_mem_nil,or_false]at hk;subst hk;exact .inr (.inl rfl)⟩
 |1=>cases h;exact⟨by decide,rfl,fun k hk=>by simp only [List.mem_cons,List.not_mem_nil,or_false]at hk;rcases hk with rfl|rfl|rfl;exact .inr (.inr (.inl rfl));exact .inr (.inl rfl);exact .inl rfl⟩
 |2=>cases h;exact⟨by decide,rfl,fun k hk=>by simp only [List.mem_cons,List.not_mem_nil,or_false]at hk;rcases hk with rfl|rfl|rfl;exact .inr (.inr (.inl rfl));exact .inr (.inl rfl);exact .inl rfl⟩
 |3=>cases h;exact⟨by decide,rfl,fun k hk=>by simp only [List.mem_cons,List.not_mem_nil,or_false]at hk;rcases hk with rfl|rfl;exact .inr (.inl rfl);exact .inr (.inr (.inr rfl))⟩
 |4=>cases h;exact⟨by decide,rfl,fun k hk=>by simp only [List.mem_cons,List.not_mem_nil,or_false]at hk;rcases hk with rfl|rfl;exact .inr (.inl rfl);exact .inr (.inr (.inr rfl))⟩
 |5=>cases h;exact⟨by decide,rfl,fun k hk=>by simp only [List.mem_cons,List.not_mem_nil,or_false]at hk;rcases hk with rfl|rfl|rfl;exact .inr (.inl rfl);exact .inl rfl;exact .inl rfl⟩
 |n+6=>simp [uH]at h
def wF (H:Hp)(fl:Addr)(kls:List Addr):Prop:=H fl=some (.lst (kls.map V.ref))/\Paired (fun(b:Addr) (ks:List Str)=>H b=some (.lst (ks.map V.str))) kls uH
structure Calls (P:Program)(w:World)(K:W.Frag)(mg:Str->Option Value)(base:Heap)(cc:Nat->Addr)(cE:Addr):Prop where
 cl:Cls K cc cE
 cell:∃g d,At P w K mg base 1 "_law_cell" g d ["_law_script","_law_k"] (tX K)
 pen:∃g d,At P w K mg base 1 "_law_pen" g d ["_law_cell_here"] wD
 custom:∃g d,At P w K mg base 3 "_law_custom" g d ["_law_pen_here"] rZ
 thing:∃g d,At P w K mg base 5 "_law_thing" g d ["_law_pen_here","_law_kind","_law_custom_here"] nH
 due:∃g d,At P w K mg base 4 "_law_due" g d ["_law_way","_law_some"] qR
 call:∃g d,AtD P w K mg base 9 "_law_call" g d ["_law_way","_law_some"] (oA cc)
 came:∃g d,mg "_law_came" =some (.ref g)/\W.keepIn K (.ref g)=true/\L2.Binds K d ["_law_call_here"] []/\jY P w K mg base 11 g d ["_law_call_here"] (mI P w K mg base cc cE)
theorem Paired.getP {α β:Type}{F:α->β->Prop}:∀{l₁:List α}{l₂:List β}{i:Nat}{a:α},Paired F l₁ l₂->l₁[i]?=some a->∃b,l₂[i]?=some b/\F a b
 |_,_,0,_,.cons r _,h=>by cases h;exact⟨_,rfl,r⟩
 |_,_,i+1,_,.cons _ t,h=>Paired.getP (i:=i) t (by simpa using h)
section
variable {P:Program}{w:World}{K:W.Frag}{mg:Str->Option Value}{base:Heap}{f c T:Addr}{A:Around}{outer:List Env}{s:Shared}{H0:Hp}{E:XK}{cc:Nat->Addr}{cE:Addr}
theorem A5y (TX:Txt mg)(SM:∃o,base.get? sysModules=some o)(hr:Room 11 (XL P w K mg base f (.ref c) A outer s H0 E).A)(C:W.CodeHd base c T)(B:fR mg base)(L:Calls P w K mg base cc cE):∃tt,PSs (XL P w K mg base f (.ref c) A outer s H0 E) lawFor tt/\
  ∀(D:cQ)(o0 o3 o4 o5 o6 o7 o8 o9 o10:Option V)(i:Int)(fl:Addr)(kls:List Addr)(ps:Array Value)(H:Hp),TabI H T ps qL iS->wF H fl kls->
   (∀o3 o4 o5 o6 o7 o8 o9 o10 ps' H',jX T H H'->TabI H' T ps' qL iS->D.nx [o0,some (.ref fl),some (.int i),o3,o4,o5,o6,o7,o8,o9,o10] H')->tt D [o0,some (.ref fl),some (.int i),o3,o4,o5,o6,o7,o8,o9,o10] H:=by
 have nd:=scLaw.nd
 have r1:Room 1 (XL P w K mg base f (.ref c) A outer s H0 E).A:=hr.mono (by decide)
 have r3:Room 3 (XL P w K mg base f (.ref c) A outer s H0 E).A:=hr.mono (by decide)
 obtain⟨gE,dE,aE⟩:=L.pen
 obtain⟨gU,dU,aU⟩:=L.custom
 obtain⟨_,_,aT⟩:=L.thing
 obtain⟨_,_,aD⟩:=L.due
 obtain⟨_,_,aM⟩:=L.call
 obtain⟨gN,dN,nN,kN,bN,oN⟩:=L.came
 obtain⟨tb,hb,kb⟩:=A7s (P:=P) (w:=w) (K:=K) (mg:=mg) (base:=base) (f:=f) (c:=c) (T:=T) (A:=A) (outer:=outer) (s:=s) (H0:=H0) (E:=E) TX SM hr C B L.cl aT aD nN kN bN oN aM
 refine⟨_,aW (dR (i:=3) nd rfl (Or.inr rfl) (aX aE.ok r1 rfl aE.nm aE.kp aE.bd .nil bA (aG (pv 2) aF)))<|
  aW (dR (i:=4) nd rfl (Or.inr rfl) (aX aU.ok r3 rfl aU.nm aU.kp aU.bd .nil bA (aG (pv 3) aF)))<|
  aV (qQ PassesOwn.never rfl (A4d rfl rfl TX.enumerate (aG (pv 1) aF)) (gX rfl (cK (bL (i:=10) nd rfl (Or.inr rfl)) (cK (bL (i:=5) nd rfl (Or.inl rfl)) gJ))) hb),?_⟩
 intro D o0 o3 o4 o5 o6 o7 o8 o9 o10 i fl kls ps H hT hF hD
 refine⟨_,rfl,i,rfl,fun p H1 hp0 s1 pn1=> ?_⟩
 refine⟨_,rfl,p,rfl,pn1,fun cu cs H2 st2 hcu Gc _=> ?_⟩
 have T2:=(hT.same s1).stp pn1 st2
 have hpT:=A0z T2.at' st2.pen
 obtain⟨hfl,hkl⟩:=hF
 have kp2:∀b u,H b=some u->H2 b=some u:=fun b u e=>st2.keep b u (fun z=>by rw [z,hp0]at e;cases e) (s1 _ _ e)
 have ne:∀{b:Addr}{xs:List V},H b=some (.lst xs)->b≠p/\b≠T:=fun{b xs} e=> ⟨(fun z=>by rw [z,hp0]at e;cases e),(fun z=>by rw [z,hT.at']at e;cases e)⟩
 have hcup:cu≠p/\cu≠T:=⟨st2.pen.ne hcu (by intro z;simp),fun z=>by have e:H2 cu=some (.tup (cs.map V.int)):=hcu;rw [z,T2.at']at e;cases e⟩
 refine⟨_,rfl,fl,_,rfl,SqL.of (kp2 _ _ hfl),?_⟩
 refine A5z (S:=fun H xs=>SqL K H fl xs) (xs:=kls.map V.ref) (fun j σ H'=>(∃o5 o6 o7 o8 o9 o10,σ=[o0,some (.ref fl),some (.int i),some (.ref p),some (.ref cu),o5,o6,o7,o8,o9,o10])/\Kpt p T H2 H'/\PenAt H' p/\∃ps',TabI H' T ps' qL iS)
  ⟨⟨_,_,_,_,_,_,rfl⟩,fun _ _ _ _ e=>e,st2.pen,ps,T2⟩ (fun j σ H' _ h=>SqL.of (h.2.1 fl _ (ne hfl).1 (ne hfl).2 (kp2 _ _ hfl))) ?_ ?_
 ·rintro j x pp σ H' hj ⟨⟨o5,o6,o7,o8,o9,o10,rfl⟩,kp,hp',ps',T'⟩ hpp
  rw [List.getElem?_map]at hj
  cases hb:kls[j]? with
  |none=>rw [hb]at hj;cases hj
  |some kl=>
  rw [hb]at hj;cases hj
  obtain⟨ks,hks,hk⟩:=Paired.getP hkl hb
  obtain⟨hj6,hlen,hkk⟩:=B0r j ks hks
  have sp:=aJ (o:=.tup [.int j,.ref kl]) hpp
  have hk':=sp _ _ (kp kl _ (ne hk).1 (ne hk).2 (kp2 _ _ hk))
  refine⟨pp,_,rfl,SqT.of aI,rfl,_,_,rfl,_,_,rfl,rfl,?_⟩
  refine kb _ ps' o0 (some (.ref fl)) (some (.int i)) o6 o7 o8 o9 p cu kl j cs ks _ (T'.same sp) hj6 (hp'.same sp) (sp _ _ (kp cu _ hcup.1 hcup.2 hcu)) Gc (ne hk).1 hk' hlen hkk fun o6 o7 o8 o9 ps2 H4 kp4 hp4 T4=> ?_
  exact⟨⟨_,_,_,_,_,_,rfl⟩,kp.tr ((Kpt.sm sp).tr kp4),hp4,ps2,T4⟩
 ·rintro σ H' ⟨⟨o5,o6,o7,o8,o9,o10,rfl⟩,kp,hp',ps',T'⟩
  refine hD _ _ _ _ _ _ _ _ ps' H' (fun z u nz ez=> ?_) T'
  exact kp z u (fun y=>by rw [y,hp0]at ez;cases ez) nz (kp2 z u ez)
end
section
variable {P:Program}{w:World}{K:W.Frag}{mg:Str->Option Value}{base:Heap}
theorem A2q {f:Addr}{cdv:Value}{A:Around}{outer:List Env}{s:Shared}{H0:Hp}{E:XK}:∃tt,PSq (XL P w K mg base f cdv A outer s H0 E) ((bX cR).getD 0 (.Pass ⟨0,0,0,0⟩)) tt/\
  ∀(D:cQ)(o0:Option V)(H:Hp),(∀l k0 k1 k2 k3 H',Same H H'->H' l=some (.lst [.ref k0,.ref k1,.ref k2,.ref k3])->H' k0=some (.lst [.str "claims"])->H' k1=some (.lst [.str "custom",.str "claims",.str "holder"])->H' k2=some (.lst [.str "custom",.str "claims",.str "holder"])->H' k3=some (.lst [.str "claims",.str "claim"])->
   D.nx [o0,some (.ref l),none,none,none,none,none,none,none,none,none] H')->tt D [o0,none,none,none,none,none,none,none,none,none,none] H:=by
 have nd:=scLaw.nd
 refine⟨_,vD (i:=1) nd rfl (Or.inl rfl) (eY (lstq (eJ bY)) (eY (lstq (eJ (eJ (eJ bY)))) (eY (lstq (eJ (eJ (eJ bY)))) (eY (lstq (eJ (eJ bY))) bY)))),?_⟩
 intro D o0 H hD
 refine⟨by show 1<=sizeLine;decide,fun k0 h0=> ⟨by show 3<=sizeLine;decide,fun k1 h1=> ⟨by show 3<=sizeLine;decide,fun k2 h2=> ⟨by show 2<=sizeLine;decide,fun k3 h3=> ⟨by show 4<=sizeLine;decide,fun l hl=> ?_⟩⟩⟩⟩⟩
 have s0:=aJ (o:=.lst [.str "claims"]) h0
 have s1:=aJ (o:=.lst [.str "custom",.str "claims",.str "holder"]) h1
 have s2:=aJ (o:=.lst [.str "custom",.str "claims",.str "holder"]) h2
 have s3:=aJ (o:=.lst [.str "claims",.str "claim"]) h3
 have s4:=aJ (o:=.lst [.ref k0,.ref k1,.ref k2,.ref k3]) hl
 exact hD l k0 k1 k2 k3 _ ((((s0.trans s1).trans s2).trans s3).trans s4) aI (s4 _ _ (s3 _ _ (s2 _ _ (s1 _ _ aI)))) (s4 _ _ (s3 _ _ (s2 _ _ aI))) (s4 _ _ (s3 _ _ aI)) (s4 _ _ aI)
theorem A7d {f:Addr}{cdv:Value}{A:Around}{outer:List Env}{s:Shared}{H0:Hp}{E:XK}:∃tt,PS (XL P w K mg base f cdv A outer s H0 E) ((bX cR).getD 1 (.Pass ⟨0,0,0,0⟩)) tt/\
  ∀(D:cQ)(o0:Option V)(l k0 k1 k2 k3:Addr)(H:Hp),H l=some (.lst [.ref k0,.ref k1,.ref k2,.ref k3])->(∀l' k4 k5 H',Same H H'->H' l'=some (.lst [.ref k0,.ref k1,.ref k2,.ref k3,.ref k4,.ref k5])->H' k4=some (.lst [.str "claims",.str "claim"])->H' k5=some (.lst [.str "claims",.str "holder",.str "holder"])->
   D.nx [o0,some (.ref l'),none,none,none,none,none,none,none,none,none] H')->tt D [o0,some (.ref l),none,none,none,none,none,none,none,none,none] H:=by
 have nd:=scLaw.nd
 refine⟨_,dR (i:=1) nd rfl (Or.inl rfl) (A1t kR (pv 1) (lstq (eY (lstq (eJ (eJ bY))) (eY (lstq (eJ (eJ (eJ bY)))) bY)))),?_⟩
 intro D o0 l k0 k1 k2 k3 H hl hD
 refine⟨_,rfl,by show 2<=sizeLine;decide,fun k4 h4=> ⟨by show 3<=sizeLine;decide,fun k5 h5=> ⟨by show 2<=sizeLine;decide,fun l2 hl2=> ?_⟩⟩⟩
 have s4:=aJ (o:=.lst [.str "claims",.str "claim"]) h4
 have s5:=aJ (o:=.lst [.str "claims",.str "holder",.str "holder"]) h5
 have s6:=aJ (o:=.lst [.ref k4,.ref k5]) hl2
 refine⟨l,l2,_,_,rfl,rfl,s6 _ _ (s5 _ _ (s4 _ _ hl)),aI,by show 4+2<=sizeLine;decide,fun l' hl'=> ?_⟩
 have s7:=aJ (o:=.lst ([.ref k0,.ref k1,.ref k2,.ref k3]++[.ref k4,.ref k5])) hl'
 exact hD l' k4 k5 _ (((s4.trans s5).trans s6).trans s7) aI (s7 _ _ (s6 _ _ (s5 _ _ aI))) (s7 _ _ (s6 _ _ aI))
theorem B2l {f c T cE:Addr}{cc:Nat->Addr}{fd:FuncData}(F:Fun K "law" "law" cR f fd)(hc:fd.code= .ref c)(TX:Txt mg)(SM:∃o,base.get? sysModules=some o)(C:W.CodeHd base c T)(B:fR mg base)(L:Calls P w K mg base cc cE):aR P w K mg base CX0 12 f fd ["_law_script"] (pE K T):=by
 refine F.okC scLaw hc (fun vs H Q E h=> ?_) (fun A outer s H vs Q E hr h=> ?_)
 ·obtain⟨a,ns,rfl,_⟩:=h;rfl
 ·obtain⟨a,ns,rfl,hS,hT,hlen,q⟩:=h
  have nd:=scLaw.nd
  have r1:Room 1 _:=hr.mono (by decide)
  obtain⟨_,_,aC⟩:=L.cell
  obtain⟨tb,hb,rb⟩:=A5y (P:=P) (w:=w) (K:=K) (mg:=mg) (base:=base) (f:=f) (c:=c) (T:=T) (A:=A) (outer:=outer) (s:=s) (H0:=H) (E:=E) TX SM hr C B L
  obtain⟨t0,h0,k0⟩:=A2q (P:=P) (w:=w) (K:=K) (mg:=mg) (base:=base) (f:=f) (cdv:=.ref c) (A:=A) (outer:=outer) (s:=s) (H0:=H) (E:=E)
  obtain⟨t1,h1,k1⟩:=A7d (P:=P) (w:=w) (K:=K) (mg:=mg) (base:=base) (f:=f) (cdv:=.ref c) (A:=A) (outer:=outer) (s:=s) (H0:=H) (E:=E)
  have e:bX cR=[(bX cR).getD 0 (.Pass ⟨0,0,0,0⟩),(bX cR).getD 1 (.Pass ⟨0,0,0,0⟩),(bX cR).getD 2 (.Pass ⟨0,0,0,0⟩),(bX cR).getD 3 (.Pass ⟨0,0,0,0⟩)]:=rfl
  have h23:∃t2,PSs (XL P w K mg base f (.ref c) A outer s H E) [(bX cR).getD 2 (.Pass ⟨0,0,0,0⟩),(bX cR).getD 3 (.Pass ⟨0,0,0,0⟩)] t2/\
    ∀(D:cQ)(a:Addr)(ns:List Int)(fl:Addr)(kls:List Addr)(H:Hp),SqL K H a (ns.map V.int)->H T=some (.tbl #[])->ns.length<=63->wF H fl kls->(∀H',D.rt (.bl true) H')->t2 D [some (.ref a),some (.ref fl),none,none,none,none,none,none,none,none,none] H:=by
   refine⟨_,aW (qQ PassesOwn.never rfl (lA (bJ kR (fC (bQ (aX aC.ok r1 rfl aC.nm aC.kp aC.bd .nil bA (aG (pv 0) (bS aL aF))) aF)) (fF vQ (pv 0) (fA aL) (fA aL)))) (bL (i:=2) nd rfl (Or.inl rfl)) hb)<|
    aV (aZ eZ),?_⟩
   intro D a ns fl kls H hS hT hlen hF q
   refine⟨_,rfl,a,ns,0,rfl,hS,by decide,fun c0=> ?_⟩
   refine⟨by show 1<=sizeLine;decide,fun l0 hl0=> ?_⟩
   have s0:=aJ (o:=.lst [.int c0]) hl0
   refine⟨_,rfl,_,rfl,_,rfl,a,_,rfl,s0.seq hS,fun l1 hl1=> ?_⟩
   have s1:=aJ (o:=.lst (cO (ns.map V.int) (some 1) (some 5))) hl1
   have hcl:=iW (ns.map V.int) (some 1) (some 5)
   rw [List.length_map]at hcl
   refine⟨l0,l1,_,_,rfl,rfl,s1 _ _ aI,aI,by rw [sizeLine_eq];show 1+_<=_;omega,fun lc hlc=> ?_⟩
   have s2:=aJ (o:=.lst ([.int c0]++cO (ns.map V.int) (some 1) (some 5))) hlc
   have s02:=(s0.trans s1).trans s2
   have hTc:=s02 _ _ hT
   have hlT:lc≠T:=fun z=>by
    have:=(s0.trans s1) _ _ hT
    rw [←z,hlc]at this;cases this
   obtain⟨hfl,hkl⟩:=hF
   have nT:∀{b:Addr}{xs:List V},H b=some (.lst xs)->b≠T:=fun{b xs} e z=>by rw [z,hT]at e;cases e
   refine⟨lc,rfl,⟨_,SqL.of aI⟩,?_⟩
   refine qV (K:=K) (a:=lc) (xs:=[.int c0]++cO (ns.map V.int) (some 1) (some 5)) (fun i σ H'=>(∃o2 o3 o4 o5 o6 o7 o8 o9 o10,σ=[some (.ref a),some (.ref fl),o2,o3,o4,o5,o6,o7,o8,o9,o10])/\H' lc=some (.lst ([.int c0]++cO (ns.map V.int) (some 1) (some 5)))/\wF H' fl kls/\∃ps,TabI H' T ps qL iS)
    ⟨⟨_,_,_,_,_,_,_,_,_,rfl⟩,aI,⟨s02 _ _ hfl,Paired.mapP hkl fun _ _ e=>s02 _ _ e⟩,#[],⟨hTc,True.intro,fun pos _=> .inl rfl⟩⟩ (fun i σ H' _ h=>SqL.of h.2.1) ?_ ?_
   ·rintro i y σ H' hi ⟨⟨o2,o3,o4,o5,o6,o7,o8,o9,o10,rfl⟩,hl,hF',ps,hTI⟩
    obtain⟨c,rfl⟩:∃c,y=V.int c:=by
     rcases List.mem_append.mp (List.mem_of_getElem? hi)with z|z
     ·exact⟨c0,List.mem_singleton.mp z⟩
     ·obtain⟨c,_,e⟩:=List.mem_map.mp (nQ z)
      exact⟨c,e.symm⟩
    have nT':∀{b:Addr}{xs:List V},H' b=some (.lst xs)->b≠T:=fun{b xs} e z=>by rw [z,hTI.at']at e;cases e
    exact rb _ (some (.ref a)) o3 o4 o5 o6 o7 o8 o9 o10 c fl kls ps H' hTI hF' fun o3 o4 o5 o6 o7 o8 o9 o10 ps' H2 kp T2=> ⟨⟨_,_,_,_,_,_,_,_,_,rfl⟩,kp _ _ hlT hl,⟨kp _ _ (nT' hF'.1) hF'.1,Paired.mapP hF'.2 fun _ _ e=>kp _ _ (nT' e) e⟩,ps',T2⟩
   ·rintro σ H' _
    exact q H'
  obtain⟨t2,h2,k2⟩:=h23
  rw [e]
  generalize (bX cR).getD 0 (.Pass ⟨0,0,0,0⟩)=q0 at h0⊢
  generalize (bX cR).getD 1 (.Pass ⟨0,0,0,0⟩)=q1 at h1⊢
  generalize (bX cR).getD 2 (.Pass ⟨0,0,0,0⟩)=q2 at h2⊢
  generalize (bX cR).getD 3 (.Pass ⟨0,0,0,0⟩)=q3 at h2⊢
  refine⟨_,wI h0 (aW h1 h2),?_⟩
  refine k0 _ (some (.ref a)) H fun l b0 b1 b2 b3 H1 s1 hl e0 e1 e2 e3=> ?_
  refine k1 _ (some (.ref a)) l b0 b1 b2 b3 H1 hl fun l' b4 b5 H2 s2 hl' e4 e5=> ?_
  have s12:=s1.trans s2
  exact k2 _ a ns l' [b0,b1,b2,b3,b4,b5] H2 (s12.seq hS) (s12 _ _ hT) hlen ⟨hl',.cons (s2 _ _ e0) (.cons (s2 _ _ e1) (.cons (s2 _ _ e2) (.cons (s2 _ _ e3) (.cons e4 (.cons e5 .nil)))))⟩ q
end
end M04
namespace L2
open PySem PySem.Spec PyProof.Rows PySem.W
theorem B1a {P:Program}{w:World}{K:W.Frag}{mg mb:Str->Option Value}{k:Nat}{fa a c T:Addr}{fd:FuncData}{x:Str}{sp:Sp}{s₁:Shared}{vs:List Value}{ns:List Int}
  (KX:K.In s₁.heap)(hns:s₁.heap.Ns mainGlobals mg)(hb:s₁.heap.Ns builtinsNs mb)(hbb:∀x:Str,x≠ "__name__"->mb x=bootBuiltins x)(hlim:s₁.heap.NoLimit)(hg:s₁.gens= #[])
  (ha:s₁.heap.get? a=some {cls:=.type "list",data:=.seq vs.toArray})(hi:IntsAre vs ns)(hl:ns.length<=sizeLine)(hr:Room k callerA)(hT:s₁.heap.get? T=some (tabObj #[]))(hKT:K.lookup T=none)(hC:CodeHd s₁.heap c T)(hBM:fR mg s₁.heap)(hSM:∃m,s₁.heap.Ns sysModules m)
  (F:∀base:Heap,K.In base->base.Ns mainGlobals mg->CodeHd base c T->fR mg base->(∃o,base.get? sysModules=some o)->aR P w K mg base CX0 k fa fd [x] sp)(hbind:∀(s:Shared)(u:Value),BindsTo s fd ⟨[u],[]⟩ [(x,u)])
  (hsp:∀H:Hp,H T=some (.tbl #[])->SqL K H a (ns.map V.int)->sp [.ref a] H (fun v _=>v= .bl true) fun _ _ _=>False):
  codeAny (model P w) callerA (.call (.ref fa) ⟨[.ref a],[]⟩) (fun r s'=>r= .ok (.ret (.bool true))/\OldK s₁.heap s'.heap/\s'.os=s₁.os/\AllBare s'.gens) s₁:=by
 have rv:=xP hi
 have lenV:=hi.length
 have hTa:T≠a:=fun z=>by rw [z,ha]at hT;cases hT
 have core:∀H:Hp,H T=some (.tbl #[])->(∀b,b≠T->H b=none\/ ∃o xs,H b=some (.frz o (.lst xs)))->SqL K H a (ns.map V.int)->HOk P w H s₁.heap->(∀b,H b≠none->b=a\/b=T)->(H a≠none->K.lookup a=none)->
   codeAny (model P w) callerA (.call (.ref fa) ⟨[.ref a],[]⟩) (fun r s'=>r= .ok (.ret (.bool true))/\OldK s₁.heap s'.heap/\s'.os=s₁.os/\AllBare s'.gens) s₁:=by
  intro H hHT hO hS hok hA hK
  have base_of:∀{b:Addr}{o:Obj},s₁.heap.get? b=some o->H b=none->(gY s₁.heap H).get? b=some o:=fun e n=>A83 e n
  have noH:∀{b:Addr}{o:Obj},s₁.heap.get? b=some o->o.cls≠ .type "list"->o.cls≠ .none->H b=none:=fun{b o} e d1 d2=>by
   cases q:H b with
   |none=>rfl
   |some u=>
    rcases hA b (by rw [q];simp)with e'|e'
    ·rw [e',ha]at e;cases e;exact absurd rfl d1
    ·rw [e',hT]at e;cases e;exact absurd rfl d2
  have noA:∀{b:Addr}{o:Obj}{es:Array DictEntry}{ep:Nat},s₁.heap.get? b=some o->o.data= .dict es ep->H b=none:=fun{b o es ep} e d=>by
   cases q:H b with
   |none=>rfl
   |some u=>
    rcases hA b (by rw [q];simp)with e'|e'
    ·rw [e',ha]at e;cases e;cases d
    ·rw [e',hT]at e;cases e;cases d
  have nsK:∀{b:Addr}{m:Str->Option Value},s₁.heap.Ns b m->(gY s₁.heap H).Ns b m:=fun{b m} ⟨o,es,ep,e,d,r⟩=> ⟨o,es,ep,base_of e (noA e d),d,r⟩
  have hKb:K.In (gY s₁.heap H):=fun b o e=>base_of (KX b o e) (by
   cases q:H b with
   |none=>rfl
   |some u=>
    rcases hA b (by rw [q];simp)with e'|e'
    ·subst e'
     rw [hK (by rw [q];simp)]at e;cases e
    ·rw [e',hKT]at e;cases e)
  have hM:Mod K mg (gY s₁.heap H):=⟨hKb,nsK hns,⟨mb,nsK hb,hbb⟩,let ⟨mc,h1,h2⟩:=hlim;⟨mc,nsK h1,h2⟩⟩
  have e0:Env0 P w K mg (gY s₁.heap H) callerA [] s₁ H:=⟨rfl,hM,fun b o e=>A7i e,Nat.le_of_eq (A61 _ _),trivial,fun b hb=>absurd (show b∈([]:List Addr)from hb) (by simp),hok,.of_eq hg⟩
  have hCb:CodeHd (gY s₁.heap H) c T:=by
   obtain⟨o,vs',file,tf,flags,tg,inF,text,tt,e1,e2,r⟩:=id hC
   exact⟨o,vs',file,tf,flags,tg,inF,text,tt,base_of e1 (noH e1 (by rw [e2];decide) (by rw [e2];decide)),e2,r⟩
  have hBb:fR mg (gY s₁.heap H):=by
   obtain⟨bm,ob,b1,b2,b3,b4,r⟩:=id hBM
   exact⟨bm,ob,b1,b2,base_of b3 (noH b3 (by rw [b4];decide) (by rw [b4];decide)),b4,r⟩
  refine codeAny_mono ((F _ hKb (nsK hns) hCb hBb (let ⟨m,z⟩:=hSM;let ⟨o,_,_,e,_⟩:=nsK z;⟨o,e⟩)).run callerA [] s₁ H ⟨[.ref a],[]⟩ [.ref a] [.ref a] _ _ hr e0 (hbind s₁ (.ref a)) (.cons rfl .nil) (hsp H hHT hS)) fun r s' h=> ?_
  cases r with
  |error e=>exact False.elim h
  |ok fl=>
   cases fl with
   |next=>exact False.elim h
   |brk=>exact False.elim h
   |cont=>exact False.elim h
   |ret u=>
    obtain⟨v,H',os,bare,un,hok',r',q⟩:=h
    have q':v= .bl true:=q
    subst q'
    obtain rfl:u=Value.bool true:=r'
    have keep:∀b o,b≠T->s₁.heap.get? b=some o->s'.heap.get? b=some o:=fun b o hbT e=>by
     cases q:H b with
     |none=>exact un.keep b o e q (by intro z;exact absurd (show b∈([]:List Addr)from z) (by simp)) (by simp)
     |some u=>
      rcases hO b hbT with z| ⟨ob,xs,z⟩
      ·rw [q]at z;cases z
      ·have z2:=un.frzs b ob _ z
       obtain⟨e1,_⟩:=hok b _ z
       obtain⟨e2,_⟩:=hok' b _ z2
       rw [e]at e1;cases e1
       exact e2
    obtain⟨more,hmore⟩:=un.tbls T _ hHT
    have hT':s'.heap.get? T=some {cls:=.none,data:=.fields (#[]++more)}:=hok' T _ hmore
    refine⟨rfl,⟨fun b o e=> ?_,fun b o e=> ?_⟩,os,bare⟩
    ·by_cases hbT:b=T
     ·subst hbT
      rw [hT]at e;cases e
      exact .inr (.inl ⟨(hC.tab hT).isCodeTable,rfl,#[],more,rfl,hT'⟩)
     ·exact .inl (keep b o hbT e)
    ·by_cases hbT:b=T
     ·exact⟨_,by rw [hbT];exact hT'⟩
     ·exact⟨o,keep b o hbT e⟩
 have okT:∀H:Hp,H T=some (.tbl #[])->(∀b,b≠T->∀u,H b=some u->ObjOk P w H s₁.heap b u)->HOk P w H s₁.heap:=fun H h1 h2 b u e=>by
  by_cases hbT:b=T
  ·rw [hbT,h1]at e;cases e
   rw [hbT];exact hT
  ·exact h2 b hbT u e
 cases hk:K.lookup a with
 |some o=>
  have e:=KX a o hk
  rw [ha]at e
  cases e
  refine core (fun b=>if b=T then some (.tbl #[])else none) (if_pos rfl) (fun b hb=> .inl (if_neg hb)) (.inr ⟨_,vs.toArray,_,hk,rfl,rfl,rfl,by rw [List.size_toArray,lenV];exact hl,by simpa using rv⟩) (okT _ (if_pos rfl) fun b hb u z=>by have z':=(if_neg hb).symm.trans z;cases z') (fun b z=> ?_) fun z=>absurd (if_neg hTa.symm) z
  by_cases hb:b=T
  ·exact .inr hb
  ·exact absurd (if_neg hb) z
 |none=>
  refine core (fun b=>if b=T then some (.tbl #[])else if b=a then some (.frz {cls:=.type "list",data:=.seq vs.toArray} (.lst (ns.map V.int)))else none) (if_pos rfl) (fun b hbT=> ?_) (.inl (.inr ⟨{cls:=.type "list",data:=.seq vs.toArray},(if_neg hTa.symm).trans (if_pos rfl)⟩)) (okT _ (if_pos rfl) fun b hbT u z=> ?_) (fun b z=> ?_) fun _=>hk
  ·by_cases hb:b=a
   ·exact .inr ⟨_,_,(if_neg hbT).trans (if_pos hb)⟩
   ·exact .inl ((if_neg hbT).trans (if_neg hb))
  ·have z1:=(if_neg hbT).symm.trans z
   by_cases hb:b=a
   ·have z':=(if_pos hb).symm.trans z1
    cases z'
    subst hb
    exact⟨ha,by rw [List.length_map];exact hl,vs,_,rv,ha⟩
   ·have z':=(if_neg hb).symm.trans z1
    cases z'
  ·by_cases hbT:b=T
   ·exact .inr hbT
   ·by_cases hb:b=a
    ·exact .inl hb
    ·exact absurd ((if_neg hbT).trans (if_neg hb)) z
theorem walk_ofS {l:W.OpenLaw}{n k:Nat}{q:Program}{loose:List Str}{XP:(Str->Option Value)->Heap->Prop}{YP:World->Heap->Prop}{d:DefRec}{K:Params->W.Frag}{sp:World->Sp}{x:Str}{c T:Addr}
  (hn:l.most=some n)(hn2:n<=sizeLine)(hdf:d.params.defaults=[])(hi:importsNone q=true)(hr:Room k callerA)
  (hY:∀(w:World)(h:Heap),YP w h->(K w.params).In h/\h.get? T=some (tabObj #[]))(hKT:∀w:World,(K w.params).lookup T=none)(hKC:∀w:World,codeHdIn (K w.params) c T=true)
  (F:∀(w:World)(mg:Str->Option Value)(fa:Addr)(h:Heap),(K w.params).In h->h.Ns mainGlobals mg->mg d.name=some (.ref fa)->
   ∃fd:FuncData,(∀(s:Shared)(u:Value),BindsTo s fd ⟨[u],[]⟩ [(x,u)])/\
    ∀base:Heap,(K w.params).In base->base.Ns mainGlobals mg->CodeHd base c T->fR mg base->(∃o,base.get? sysModules=some o)->aR l.prog w (K w.params) mg base CX0 k fa fd [x] (sp w))
  (hsp:∀(w:World)(H:Hp)(a:Addr)(ns:List Int),ns.length<=n->H T=some (.tbl #[])->SqL (K w.params) H a (ns.map V.int)->sp w [.ref a] H (fun v _=>v= .bl true) fun _ _ _=>False):
  W.WalkO q loose XP YP l.row.toRowW d [] (fun f vs=>PySem.call f vs):=by
 refine Att.attach_call hn hdf fun w s₀ s₁ mg mb fa o pm cd doc a vs ns G Y ho hd hcd hmg hobj hints hlen hg=> ?_
 obtain⟨KX,hT⟩:=hY w _ Y
 obtain⟨fd,hb,hF⟩:=F w mg fa _ KX G.T.g hmg
 exact B1a KX G.T.g G.T.b G.T.builtins G.T.nolimit hg hobj hints (Nat.le_trans hlen hn2) hr hT (hKT w) (codeHd_of_K KX (hKC w)) G.T.bmain (let ⟨m,z,_⟩:=(G.T.seer hi).mods;⟨m,z⟩) hF hb (fun H hO hS=>hsp w H a ns hlen hO hS)
end L2
namespace M04
open PySem L2 PyProof.Rows
theorem A9a {K:W.Frag}{D:Addr}{bm:List Value}{n:String}(h:oP K D bm n=true):ObK K D:=by
 unfold oP at h
 split at h
 ·rename_i e;exact⟨_,_,_,e⟩
 ·cases h
theorem jQ {K:W.Frag}{cP cE:Addr}(h1:W.subIn K (.ref cE) (.type "BaseException")=some true)(h2:W.kitOne K (.ref cP) (.ref cE)=some true)(h3:(Value.ref cP==Value.ref cE)=false):W.exmOne K (.ref cP) (.ref cE)=some true:=by
 unfold W.kitOne at h2
 rw [if_neg (by rw [h3];decide)]at h2
 unfold W.exmOne
 rw [h1,if_pos (by decide)]
 exact h2
def NI (K:W.Frag)(x:Str)(f:Addr):Prop:=W.nsIn K mainGlobals x=some (some (.ref f))
def LI (K:W.Frag)(f:Addr)(x:Str)(st:Stmt)(oc:Value)(od an:Option Addr)(kV dc pm cd ct:Value)(sl:Array (Option Value)):Prop:=K.lookup f=some ⟨oc,od,.func (W.fnOf x x (jO st) (bX st) (aQ st) .none kV dc pm an cd ct),sl⟩
def CI (K:W.Frag)(cd:Value)(x:Str):Prop:=W.codeIn K cd x=true
def KI (K:W.Frag)(f:Addr):Prop:=W.keepIn K (.ref f)=true
def OI (K:W.Frag)(f g:Addr):Prop:=W.kitOne K (.ref f) (.ref g)=some false
def ZI (K:W.Frag)(x:Str):Prop:=W.nsIn K mainGlobals x=some none
theorem jP {K:W.Frag}{c:Addr}:W.kitOne K (.ref c) (.ref c)=some true:=by unfold W.kitOne;rw [if_pos (by simp)]
theorem all_mk {l:W.OpenLaw}{w:World}{K:W.Frag}{h:Heap}{mg:Str->Option Value}{fa cE cL T fI C0 C1 C2 C3 C4 C5 C6 C7 C8 C9 C10 C11 C12 C13 C14 C15:Addr}{odI anI:Option Addr}{slI:Array (Option Value)}{ocI kVI dcI pmI cdI ctI:Value}{f0 f1 f2 f3 f4 f5 f6 f7 f8 f9 f10 f11 f12 f13 f14 f15 f16 f17 f18 f19 f20 f21 f22 f23 f24 f25 f26 f27 f28 f29 f30 f31 f32 f33 f34 f35 f36 f37 f38 f39 f40 f41 f42 f43:Addr}{od0 an0 od1 an1 od2 an2 od3 an3 od4 an4 od5 an5 od6 an6 od7 an7 od8 an8 od9 an9 od10 an10 od11 an11 od12 an12 od13 an13 od14 an14 od15 an15 od16 an16 od17 an17 od18 an18 od19 an19 od20 an20 od21 an21 od22 an22 od23 an23 od24 an24 od25 an25 od26 an26 od27 an27 od28 an28 od29 an29 od30 an30 od31 an31 od32 an32 od33 an33 od34 an34 od35 an35 od36 an36 od37 an37 od38 an38 od39 an39 od40 an40 od41 an41 od42 an42 od43 an43:Option Addr}{sl0 sl1 sl2 sl3 sl4 sl5 sl6 sl7 sl8 sl9 sl10 sl11 sl12 sl13 sl14 sl15 sl16 sl17 sl18 sl19 sl20 sl21 sl22 sl23 sl24 sl25 sl26 sl27 sl28 sl29 sl30 sl31 sl32 sl33 sl34 sl35 sl36 sl37 sl38 sl39 sl40 sl41 sl42 sl43:Array (Option Value)}{oc0 kV0 dc0 pm0 cd0 ct0 oc1 kV1 dc1 pm1 cd1 ct1 oc2 kV2 dc2 pm2 cd2 ct2 oc3 kV3 dc3 pm3 cd3 ct3 oc4 kV4 dc4 pm4 cd4 ct4 oc5 kV5 dc5 pm5 cd5 ct5 oc6 kV6 dc6 pm6 cd6 ct6 oc7 kV7 dc7 pm7 cd7 ct7 oc8 kV8 dc8 pm8 cd8 ct8 oc9 kV9 dc9 pm9 cd9 ct9 oc10 kV10 dc10 pm10 cd10 ct10 oc11 kV11 dc11 pm11 cd11 ct11 oc12 kV12 dc12 pm12 cd12 ct12 oc13 kV13 dc13 pm13 cd13 ct13 oc14 kV14 dc14 pm14 cd14 ct14 oc15 kV15 dc15 pm15 cd15 ct15 oc16 kV16 dc16 pm16 cd16 ct16 oc17 kV17 dc17 pm17 cd17 ct17 oc18 kV18 dc18 pm18 cd18 ct18 oc19 kV19 dc19 pm19 cd19 ct19 oc20 kV20 dc20 pm20 cd20 ct20 oc21 kV21 dc21 pm21 cd21 ct21 oc22 kV22 dc22 pm22 cd22 ct22 oc23 kV23 dc23 pm23 cd23 ct23 oc24 kV24 dc24 pm24 cd24 ct24 oc25 kV25 dc25 pm25 cd25 ct25 oc26 kV26 dc26 pm26 cd26 ct26 oc27 kV27 dc27 pm27 cd27 ct27 oc28 kV28 dc28 pm28 cd28 ct28 oc29 kV29 dc29 pm29 cd29 ct29 oc30 kV30 dc30 pm30 cd30 ct30 oc31 kV31 dc31 pm31 cd31 ct31 oc32 kV32 dc32 pm32 cd32 ct32 oc33 kV33 dc33 pm33 cd33 ct33 oc34 kV34 dc34 pm34 cd34 ct34 oc35 kV35 dc35 pm35 cd35 ct35 oc36 kV36 dc36 pm36 cd36 ct36 oc37 kV37 dc37 pm37 cd37 ct37 oc38 kV38 dc38 pm38 cd38 ct38 oc39 kV39 dc39 pm39 cd39 ct39 oc40 kV40 dc40 pm40 cd40 ct40 oc41 kV41 dc41 pm41 cd41 ct41 oc42 kV42 dc42 pm42 cd42 ct42 oc43 kV43 dc43 pm43 ct43:Value}{t0 t1 t2 t3 t4:Tok}(X:K.In h)(G:h.Ns mainGlobals mg)(hfa:mg "law" =some (.ref fa))
  (a0:NI K "is_number" f0)
  (l0:LI K f0 "is_number" nZ oc0 od0 an0 kV0 dc0 pm0 cd0 ct0 sl0)
  (c0:CI K cd0 "is_number")
  (k0:KI K f0)
  (a1:NI K "is_number_within" f1)
  (l1:LI K f1 "is_number_within" rF oc1 od1 an1 kV1 dc1 pm1 cd1 ct1 sl1)
  (c1:CI K cd1 "is_number_within")
  (k1:KI K f1)
  (a2:NI K "is_tuple_within" f2)
  (l2:LI K f2 "is_tuple_within" pQ oc2 od2 an2 kV2 dc2 pm2 cd2 ct2 sl2)
  (c2:CI K cd2 "is_tuple_within")
  (k2:KI K f2)
  (a3:NI K "is_rising" f3)
  (l3:LI K f3 "is_rising" nE oc3 od3 an3 kV3 dc3 pm3 cd3 ct3 sl3)
  (c3:CI K cd3 "is_rising")
  (k3:KI K f3)
  (a4:NI K "is_custom" f4)
  (l4:LI K f4 "is_custom" nD oc4 od4 an4 kV4 dc4 pm4 cd4 ct4 sl4)
  (c4:CI K cd4 "is_custom")
  (k4:KI K f4)
  (a5:NI K "is_claim" f5)
  (l5:LI K f5 "is_claim" qP oc5 od5 an5 kV5 dc5 pm5 cd5 ct5 sl5)
  (c5:CI K cd5 "is_claim")
  (k5:KI K f5)
  (a6:NI K "are_claims" f6)
  (l6:LI K f6 "are_claims" kZ oc6 od6 an6 kV6 dc6 pm6 cd6 ct6 sl6)
  (c6:CI K cd6 "are_claims")
  (k6:KI K f6)
  (a7:NI K "check_custom" f7)
  (l7:LI K f7 "check_custom" qN oc7 od7 an7 kV7 dc7 pm7 cd7 ct7 sl7)
  (c7:CI K cd7 "check_custom")
  (k7:KI K f7)
  (a8:NI K "check_claim" f8)
  (l8:LI K f8 "check_claim" qT oc8 od8 an8 kV8 dc8 pm8 cd8 ct8 sl8)
  (c8:CI K cd8 "check_claim")
  (k8:KI K f8)
  (a9:NI K "check_claims" f9)
  (l9:LI K f9 "check_claims" rQ oc9 od9 an9 kV9 dc9 pm9 cd9 ct9 sl9)
  (c9:CI K cd9 "check_claims")
  (k9:KI K f9)
  (a10:NI K "stand_under" f10)
  (l10:LI K f10 "stand_under" mF oc10 od10 an10 kV10 dc10 pm10 cd10 ct10 sl10)
  (c10:CI K cd10 "stand_under")
  (k10:KI K f10)
  (a11:NI K "check_claims_under" f11)
  (l11:LI K f11 "check_claims_under" qF oc11 od11 an11 kV11 dc11 pm11 cd11 ct11 sl11)
  (c11:CI K cd11 "check_claims_under")
  (k11:KI K f11)
  (a12:NI K "is_holder" f12)
  (l12:LI K f12 "is_holder" mU oc12 od12 an12 kV12 dc12 pm12 cd12 ct12 sl12)
  (c12:CI K cd12 "is_holder")
  (k12:KI K f12)
  (a13:NI K "check_holder" f13)
  (l13:LI K f13 "check_holder" qX oc13 od13 an13 kV13 dc13 pm13 cd13 ct13 sl13)
  (c13:CI K cd13 "check_holder")
  (k13:KI K f13)
  (a14:NI K "check_two_holders" f14)
  (l14:LI K f14 "check_two_holders" pB oc14 od14 an14 kV14 dc14 pm14 cd14 ct14 sl14)
  (c14:CI K cd14 "check_two_holders")
  (k14:KI K f14)
  (a15:NI K "holders_of" f15)
  (l15:LI K f15 "holders_of" nK oc15 od15 an15 kV15 dc15 pm15 cd15 ct15 sl15)
  (c15:CI K cd15 "holders_of")
  (k15:KI K f15)
  (a16:NI K "count_together" f16)
  (l16:LI K f16 "count_together" nM oc16 od16 an16 kV16 dc16 pm16 cd16 ct16 sl16)
  (c16:CI K cd16 "count_together")
  (k16:KI K f16)
  (a17:NI K "count_of" f17)
  (l17:LI K f17 "count_of" mK oc17 od17 an17 kV17 dc17 pm17 cd17 ct17 sl17)
  (c17:CI K cd17 "count_of")
  (k17:KI K f17)
  (a18:NI K "fraction" f18)
  (l18:LI K f18 "fraction" pV oc18 od18 an18 kV18 dc18 pm18 cd18 ct18 sl18)
  (c18:CI K cd18 "fraction")
  (k18:KI K f18)
  (a19:NI K "share_of" f19)
  (l19:LI K f19 "share_of" pP oc19 od19 an19 kV19 dc19 pm19 cd19 ct19 sl19)
  (c19:CI K cd19 "share_of")
  (k19:KI K f19)
  (a20:NI K "laid" f20)
  (l20:LI K f20 "laid" nG oc20 od20 an20 kV20 dc20 pm20 cd20 ct20 sl20)
  (c20:CI K cd20 "laid")
  (k20:KI K f20)
  (a21:NI K "denied" f21)
  (l21:LI K f21 "denied" nV oc21 od21 an21 kV21 dc21 pm21 cd21 ct21 sl21)
  (c21:CI K cd21 "denied")
  (k21:KI K f21)
  (a22:NI K "rights_of" f22)
  (l22:LI K f22 "rights_of" oT oc22 od22 an22 kV22 dc22 pm22 cd22 ct22 sl22)
  (c22:CI K cd22 "rights_of")
  (k22:KI K f22)
  (a23:NI K "joined" f23)
  (l23:LI K f23 "joined" jZ oc23 od23 an23 kV23 dc23 pm23 cd23 ct23 sl23)
  (c23:CI K cd23 "joined")
  (k23:KI K f23)
  (a24:NI K "_law_cell" f24)
  (l24:LI K f24 "_law_cell" pC oc24 od24 an24 kV24 dc24 pm24 cd24 ct24 sl24)
  (c24:CI K cd24 "_law_cell")
  (k24:KI K f24)
  (a25:NI K "_law_pen" f25)
  (l25:LI K f25 "_law_pen" qG oc25 od25 an25 kV25 dc25 pm25 cd25 ct25 sl25)
  (c25:CI K cd25 "_law_pen")
  (k25:KI K f25)
  (a26:NI K "_law_draw" f26)
  (l26:LI K f26 "_law_draw" pK oc26 od26 an26 kV26 dc26 pm26 cd26 ct26 sl26)
  (c26:CI K cd26 "_law_draw")
  (k26:KI K f26)
  (a27:NI K "_law_pick" f27)
  (l27:LI K f27 "_law_pick" mJ oc27 od27 an27 kV27 dc27 pm27 cd27 ct27 sl27)
  (c27:CI K cd27 "_law_pick")
  (k27:KI K f27)
  (a28:NI K "_law_word" f28)
  (l28:LI K f28 "_law_word" oB oc28 od28 an28 kV28 dc28 pm28 cd28 ct28 sl28)
  (c28:CI K cd28 "_law_word")
  (k28:KI K f28)
  (a29:NI K "_law_came" f29)
  (l29:LI K f29 "_law_came" kQ oc29 od29 an29 kV29 dc29 pm29 cd29 ct29 sl29)
  (c29:CI K cd29 "_law_came")
  (k29:KI K f29)
  (a30:NI K "_law_anything" f30)
  (l30:LI K f30 "_law_anything" fT oc30 od30 an30 kV30 dc30 pm30 cd30 ct30 sl30)
  (c30:CI K cd30 "_law_anything")
  (k30:KI K f30)
  (a31:NI K "_law_odd" f31)
  (l31:LI K f31 "_law_odd" rJ oc31 od31 an31 kV31 dc31 pm31 cd31 ct31 sl31)
  (c31:CI K cd31 "_law_odd")
  (k31:KI K f31)
  (a32:NI K "_law_bent" f32)
  (l32:LI K f32 "_law_bent" oS oc32 od32 an32 kV32 dc32 pm32 cd32 ct32 sl32)
  (c32:CI K cd32 "_law_bent")
  (k32:KI K f32)
  (a33:NI K "_law_number" f33)
  (l33:LI K f33 "_law_number" rD oc33 od33 an33 kV33 dc33 pm33 cd33 ct33 sl33)
  (c33:CI K cd33 "_law_number")
  (k33:KI K f33)
  (a34:NI K "_law_custom" f34)
  (l34:LI K f34 "_law_custom" mO oc34 od34 an34 kV34 dc34 pm34 cd34 ct34 sl34)
  (c34:CI K cd34 "_law_custom")
  (k34:KI K f34)
  (a35:NI K "_law_claims" f35)
  (l35:LI K f35 "_law_claims" kM oc35 od35 an35 kV35 dc35 pm35 cd35 ct35 sl35)
  (c35:CI K cd35 "_law_claims")
  (k35:KI K f35)
  (a36:NI K "_law_is_custom" f36)
  (l36:LI K f36 "_law_is_custom" kP oc36 od36 an36 kV36 dc36 pm36 cd36 ct36 sl36)
  (c36:CI K cd36 "_law_is_custom")
  (k36:KI K f36)
  (a37:NI K "_law_is_claim" f37)
  (l37:LI K f37 "_law_is_claim" pW oc37 od37 an37 kV37 dc37 pm37 cd37 ct37 sl37)
  (c37:CI K cd37 "_law_is_claim")
  (k37:KI K f37)
  (a38:NI K "_law_are_claims" f38)
  (l38:LI K f38 "_law_are_claims" iQ oc38 od38 an38 kV38 dc38 pm38 cd38 ct38 sl38)
  (c38:CI K cd38 "_law_are_claims")
  (k38:KI K f38)
  (a39:NI K "_law_holders" f39)
  (l39:LI K f39 "_law_holders" mP oc39 od39 an39 kV39 dc39 pm39 cd39 ct39 sl39)
  (c39:CI K cd39 "_law_holders")
  (k39:KI K f39)
  (a40:NI K "_law_thing" f40)
  (l40:LI K f40 "_law_thing" mX oc40 od40 an40 kV40 dc40 pm40 cd40 ct40 sl40)
  (c40:CI K cd40 "_law_thing")
  (k40:KI K f40)
  (a41:NI K "_law_call" f41)
  (l41:LI K f41 "_law_call" oX oc41 od41 an41 kV41 dc41 pm41 cd41 ct41 sl41)
  (c41:CI K cd41 "_law_call")
  (k41:KI K f41)
  (a42:NI K "_law_due" f42)
  (l42:LI K f42 "_law_due" jW oc42 od42 an42 kV42 dc42 pm42 cd42 ct42 sl42)
  (c42:CI K cd42 "_law_due")
  (k42:KI K f42)
  (a43:NI K "law" f43)
  (l43:LI K f43 "law" cR oc43 od43 an43 kV43 dc43 pm43 (.ref cL) ct43 sl43)
  (c43:CI K (.ref cL) "law")
  (k43:KI K f43)
  (v0:W.nsIn K mainGlobals "MOST_SORTS" =some (some (.int 6 t0)))
  (v1:W.nsIn K mainGlobals "MOST_COUNTED" =some (some (.int 100 t1)))
  (v2:W.nsIn K mainGlobals "MOST_HOLDERS" =some (some (.int 4 t2)))
  (v3:W.nsIn K mainGlobals "MOST_RIGHTS" =some (some (.int 20 t3)))
  (v4:W.nsIn K mainGlobals "MOST_CLAIMS" =some (some (.int 12 t4)))
  (z0:ZI K "isinstance")
  (z1:ZI K "int")
  (z2:ZI K "bool")
  (z3:ZI K "tuple")
  (z4:ZI K "len")
  (z5:ZI K "all")
  (z6:ZI K "zip")
  (z7:ZI K "range")
  (z8:ZI K "list")
  (z9:ZI K "set")
  (z10:ZI K "sorted")
  (z11:ZI K "repr")
  (z12:ZI K "any")
  (z13:ZI K "sum")
  (z14:ZI K "enumerate")
  (z15:ZI K "ValueError")
  (eE:W.nsIn K mainGlobals "MeadError" =some (some (.ref cE)))
  (e0:NI K "NoMead" C0)
  (e1:NI K "NoPlace" C1)
  (e2:NI K "NoLand" C2)
  (e3:NI K "NoCustom" C3)
  (e4:NI K "NoClaim" C4)
  (e5:NI K "NoClaims" C5)
  (e6:NI K "NoHolder" C6)
  (e7:NI K "There" C7)
  (e8:NI K "Missing" C8)
  (e9:NI K "NoPlea" C9)
  (e10:NI K "NoParting" C10)
  (e11:NI K "NoWill" C11)
  (e12:NI K "NoHouses" C12)
  (e13:NI K "NoOdd" C13)
  (e14:NI K "NoUndo" C14)
  (e15:NI K "TooMany" C15)
  (xE:W.subIn K (.ref cE) (.type "BaseException")=some true)
  (xx3:W.excIn K C3 [.type "ValueError",.type "Exception",.type "BaseException",.type "object"] "ValueError.__new__" =true)
  (q3_0:OI K C3 C0)
  (q3_1:OI K C3 C1)
  (q3_2:OI K C3 C2)
  (q3_4:OI K C3 C4)
  (q3_5:OI K C3 C5)
  (q3_6:OI K C3 C6)
  (q3_7:OI K C3 C7)
  (q3_8:OI K C3 C8)
  (q3_9:OI K C3 C9)
  (q3_10:OI K C3 C10)
  (q3_11:OI K C3 C11)
  (q3_12:OI K C3 C12)
  (q3_13:OI K C3 C13)
  (q3_14:OI K C3 C14)
  (q3_15:OI K C3 C15)
  (qv3:W.kitOne K (.ref C3) (.type "ValueError")=some true)
  (qe3:W.kitOne K (.ref C3) (.ref cE)=some true)
  (qn3:(Value.ref C3==Value.ref cE)=false)
  (ya3:W.findIn K (.ref C3) "__class__" =some (some (.builtin "object.__class__")))
  (yb3:W.findIn K (.ref C3) "__getattribute__" =some (some (.builtin "BaseException.__getattribute__")))
  (yc3:W.findIn K (.ref C3) "__getattr__" =some none)
  (yd3:W.mroIn K C3 (.type "object")=some true)
  (yf3:W.mroIn K C3 (.type "BaseException")=some true)
  (xx4:W.excIn K C4 [.type "ValueError",.type "Exception",.type "BaseException",.type "object"] "ValueError.__new__" =true)
  (q4_0:OI K C4 C0)
  (q4_1:OI K C4 C1)
  (q4_2:OI K C4 C2)
  (q4_3:OI K C4 C3)
  (q4_5:OI K C4 C5)
  (q4_6:OI K C4 C6)
  (q4_7:OI K C4 C7)
  (q4_8:OI K C4 C8)
  (q4_9:OI K C4 C9)
  (q4_10:OI K C4 C10)
  (q4_11:OI K C4 C11)
  (q4_12:OI K C4 C12)
  (q4_13:OI K C4 C13)
  (q4_14:OI K C4 C14)
  (q4_15:OI K C4 C15)
  (qv4:W.kitOne K (.ref C4) (.type "ValueError")=some true)
  (qe4:W.kitOne K (.ref C4) (.ref cE)=some true)
  (qn4:(Value.ref C4==Value.ref cE)=false)
  (ya4:W.findIn K (.ref C4) "__class__" =some (some (.builtin "object.__class__")))
  (yb4:W.findIn K (.ref C4) "__getattribute__" =some (some (.builtin "BaseException.__getattribute__")))
  (yc4:W.findIn K (.ref C4) "__getattr__" =some none)
  (yd4:W.mroIn K C4 (.type "object")=some true)
  (yf4:W.mroIn K C4 (.type "BaseException")=some true)
  (xx5:W.excIn K C5 [.type "ValueError",.type "Exception",.type "BaseException",.type "object"] "ValueError.__new__" =true)
  (q5_0:OI K C5 C0)
  (q5_1:OI K C5 C1)
  (q5_2:OI K C5 C2)
  (q5_3:OI K C5 C3)
  (q5_4:OI K C5 C4)
  (q5_6:OI K C5 C6)
  (q5_7:OI K C5 C7)
  (q5_8:OI K C5 C8)
  (q5_9:OI K C5 C9)
  (q5_10:OI K C5 C10)
  (q5_11:OI K C5 C11)
  (q5_12:OI K C5 C12)
  (q5_13:OI K C5 C13)
  (q5_14:OI K C5 C14)
  (q5_15:OI K C5 C15)
  (qv5:W.kitOne K (.ref C5) (.type "ValueError")=some true)
  (qe5:W.kitOne K (.ref C5) (.ref cE)=some true)
  (qn5:(Value.ref C5==Value.ref cE)=false)
  (ya5:W.findIn K (.ref C5) "__class__" =some (some (.builtin "object.__class__")))
  (yb5:W.findIn K (.ref C5) "__getattribute__" =some (some (.builtin "BaseException.__getattribute__")))
  (yc5:W.findIn K (.ref C5) "__getattr__" =some none)
  (yd5:W.mroIn K C5 (.type "object")=some true)
  (yf5:W.mroIn K C5 (.type "BaseException")=some true)
  (xx6:W.excIn K C6 [.type "ValueError",.type "Exception",.type "BaseException",.type "object"] "ValueError.__new__" =true)
  (q6_0:OI K C6 C0)
  (q6_1:OI K C6 C1)
  (q6_2:OI K C6 C2)
  (q6_3:OI K C6 C3)
  (q6_4:OI K C6 C4)
  (q6_5:OI K C6 C5)
  (q6_7:OI K C6 C7)
  (q6_8:OI K C6 C8)
  (q6_9:OI K C6 C9)
  (q6_10:OI K C6 C10)
  (q6_11:OI K C6 C11)
  (q6_12:OI K C6 C12)
  (q6_13:OI K C6 C13)
  (q6_14:OI K C6 C14)
  (q6_15:OI K C6 C15)
  (qv6:W.kitOne K (.ref C6) (.type "ValueError")=some true)
  (qe6:W.kitOne K (.ref C6) (.ref cE)=some true)
  (qn6:(Value.ref C6==Value.ref cE)=false)
  (ya6:W.findIn K (.ref C6) "__class__" =some (some (.builtin "object.__class__")))
  (yb6:W.findIn K (.ref C6) "__getattribute__" =some (some (.builtin "BaseException.__getattribute__")))
  (yc6:W.findIn K (.ref C6) "__getattr__" =some none)
  (yd6:W.mroIn K C6 (.type "object")=some true)
  (yf6:W.mroIn K C6 (.type "BaseException")=some true)
  (xx7:W.excIn K C7 [.type "ValueError",.type "Exception",.type "BaseException",.type "object"] "ValueError.__new__" =true)
  (q7_0:OI K C7 C0)
  (q7_1:OI K C7 C1)
  (q7_2:OI K C7 C2)
  (q7_3:OI K C7 C3)
  (q7_4:OI K C7 C4)
  (q7_5:OI K C7 C5)
  (q7_6:OI K C7 C6)
  (q7_8:OI K C7 C8)
  (q7_9:OI K C7 C9)
  (q7_10:OI K C7 C10)
  (q7_11:OI K C7 C11)
  (q7_12:OI K C7 C12)
  (q7_13:OI K C7 C13)
  (q7_14:OI K C7 C14)
  (q7_15:OI K C7 C15)
  (qv7:W.kitOne K (.ref C7) (.type "ValueError")=some true)
  (qe7:W.kitOne K (.ref C7) (.ref cE)=some true)
  (qn7:(Value.ref C7==Value.ref cE)=false)
  (ya7:W.findIn K (.ref C7) "__class__" =some (some (.builtin "object.__class__")))
  (yb7:W.findIn K (.ref C7) "__getattribute__" =some (some (.builtin "BaseException.__getattribute__")))
  (yc7:W.findIn K (.ref C7) "__getattr__" =some none)
  (yd7:W.mroIn K C7 (.type "object")=some true)
  (yf7:W.mroIn K C7 (.type "BaseException")=some true)
  (xx8:W.excIn K C8 [.type "ValueError",.type "Exception",.type "BaseException",.type "object"] "ValueError.__new__" =true)
  (q8_0:OI K C8 C0)
  (q8_1:OI K C8 C1)
  (q8_2:OI K C8 C2)
  (q8_3:OI K C8 C3)
  (q8_4:OI K C8 C4)
  (q8_5:OI K C8 C5)
  (q8_6:OI K C8 C6)
  (q8_7:OI K C8 C7)
  (q8_9:OI K C8 C9)
  (q8_10:OI K C8 C10)
  (q8_11:OI K C8 C11)
  (q8_12:OI K C8 C12)
  (q8_13:OI K C8 C13)
  (q8_14:OI K C8 C14)
  (q8_15:OI K C8 C15)
  (qv8:W.kitOne K (.ref C8) (.type "ValueError")=some true)
  (qe8:W.kitOne K (.ref C8) (.ref cE)=some true)
  (qn8:(Value.ref C8==Value.ref cE)=false)
  (ya8:W.findIn K (.ref C8) "__class__" =some (some (.builtin "object.__class__")))
  (yb8:W.findIn K (.ref C8) "__getattribute__" =some (some (.builtin "BaseException.__getattribute__")))
  (yc8:W.findIn K (.ref C8) "__getattr__" =some none)
  (yd8:W.mroIn K C8 (.type "object")=some true)
  (yf8:W.mroIn K C8 (.type "BaseException")=some true)
  (q15_0:OI K C15 C0)
  (q15_1:OI K C15 C1)
  (q15_2:OI K C15 C2)
  (q15_3:OI K C15 C3)
  (q15_4:OI K C15 C4)
  (q15_5:OI K C15 C5)
  (q15_6:OI K C15 C6)
  (q15_7:OI K C15 C7)
  (q15_8:OI K C15 C8)
  (q15_9:OI K C15 C9)
  (q15_10:OI K C15 C10)
  (q15_11:OI K C15 C11)
  (q15_12:OI K C15 C12)
  (q15_13:OI K C15 C13)
  (q15_14:OI K C15 C14)
  (qv15:W.kitOne K (.ref C15) (.type "ValueError")=some true)
  (qe15:W.kitOne K (.ref C15) (.ref cE)=some true)
  (qn15:(Value.ref C15==Value.ref cE)=false)
  (ya15:W.findIn K (.ref C15) "__class__" =some (some (.builtin "object.__class__")))
  (yb15:W.findIn K (.ref C15) "__getattribute__" =some (some (.builtin "BaseException.__getattribute__")))
  (yc15:W.findIn K (.ref C15) "__getattr__" =some none)
  (yd15:W.mroIn K C15 (.type "object")=some true)
  (yf15:W.mroIn K C15 (.type "BaseException")=some true)
  (y6:W.specialIn K (.builtin "object.__class__") "__get__" =some (some (.builtin "getset_descriptor.__get__")))
  (y7:W.takesIn K (.builtin "object.__class__")=some true)
  (eI:W.findIn K (.ref C15) "__init__" =some (some (.ref fI)))
  (lI:K.lookup fI=some ⟨ocI,odI,.func (W.fnOf "__init__" "TooMany.__init__" (jO lO) (bX lO) (aQ lO) .none kVI dcI pmI anI cdI ctI),slI⟩)
  (cI:W.codeIn K cdI "TooMany.__init__" =true)
  (kI:W.keepIn K (.ref fI)=true)
  (w0:oP K C15 bmV "ValueError.__new__" =true)
  (w1:W.isFn K (.ref fI)=true)
  (w2:W.keepIn K (.ref C15)=true)
  (w3:W.findIn K (.ref C15) "__setattr__" =some (some (.builtin "object.__setattr__")))
  (w4:((W.clsIn K C15).any fun cd=>jL cd.mro)=true)
  (w5:W.hasDictIn K C15=true)
  (n1:W.findIn K (.ref C15) "many" =some none)
  (n2:W.findIn K (.ref C15) "most" =some none):
  ∃fd:FuncData,(∀(s:Shared)(v:Value),BindsTo s fd ⟨[v],[]⟩ [("_law_script",v)])/\∀base:Heap,K.In base->base.Ns mainGlobals mg->W.CodeHd base cL T->fR mg base->(∃o,base.get? sysModules=some o)->aR l.prog w K mg base CX0 12 fa fd ["_law_script"] (pE K T):=by
 have e:=hfa.symm.trans (W.mg_of X G a43)
 cases e
 have T':Txt mg:=⟨W.mg_none_of X G z0,W.mg_none_of X G z1,W.mg_none_of X G z2,W.mg_none_of X G z3,W.mg_none_of X G z4,W.mg_none_of X G z5,W.mg_none_of X G z6,W.mg_none_of X G z7,W.mg_none_of X G z8,W.mg_none_of X G z9,W.mg_none_of X G z10,W.mg_none_of X G z11,W.mg_none_of X G z12,W.mg_none_of X G z13,W.mg_none_of X G z14,W.mg_none_of X G z15,⟨_,W.mg_of X G v0⟩,⟨_,W.mg_of X G v1⟩,⟨_,W.mg_of X G v2⟩,⟨_,W.mg_of X G v3⟩,⟨_,W.mg_of X G v4⟩⟩
 let cc:Nat->Addr:=fun i=> [C0,C1,C2,C3,C4,C5,C6,C7,C8,C9,C10,C11,C12,C13,C14,C15].getD i 0
 have NN:tI mg cc:=⟨W.mg_of X G e0,W.mg_of X G e1,W.mg_of X G e2,W.mg_of X G e3,W.mg_of X G e4,W.mg_of X G e5,W.mg_of X G e6,W.mg_of X G e7,W.mg_of X G e8,W.mg_of X G e9,W.mg_of X G e10,W.mg_of X G e11,W.mg_of X G e12,W.mg_of X G e13,W.mg_of X G e14,W.mg_of X G e15⟩
 have W3:hV K cc cE (cc 3) 3:=⟨⟨lN xx3,ya3,yb3,yc3,yd3,yf3,y6,y7⟩,jQ xE qe3 qn3,by decide,fun i hi=>match i,hi with|0,_=>q3_0|1,_=>q3_1|2,_=>q3_2|3,_=>jP|4,_=>q3_4|5,_=>q3_5|6,_=>q3_6|7,_=>q3_7|8,_=>q3_8|9,_=>q3_9|10,_=>q3_10|11,_=>q3_11|12,_=>q3_12|13,_=>q3_13|14,_=>q3_14|15,_=>q3_15|n+16,h=>absurd h (by omega),qv3⟩
 have W4:hV K cc cE (cc 4) 4:=⟨⟨lN xx4,ya4,yb4,yc4,yd4,yf4,y6,y7⟩,jQ xE qe4 qn4,by decide,fun i hi=>match i,hi with|0,_=>q4_0|1,_=>q4_1|2,_=>q4_2|3,_=>q4_3|4,_=>jP|5,_=>q4_5|6,_=>q4_6|7,_=>q4_7|8,_=>q4_8|9,_=>q4_9|10,_=>q4_10|11,_=>q4_11|12,_=>q4_12|13,_=>q4_13|14,_=>q4_14|15,_=>q4_15|n+16,h=>absurd h (by omega),qv4⟩
 have W5:hV K cc cE (cc 5) 5:=⟨⟨lN xx5,ya5,yb5,yc5,yd5,yf5,y6,y7⟩,jQ xE qe5 qn5,by decide,fun i hi=>match i,hi with|0,_=>q5_0|1,_=>q5_1|2,_=>q5_2|3,_=>q5_3|4,_=>q5_4|5,_=>jP|6,_=>q5_6|7,_=>q5_7|8,_=>q5_8|9,_=>q5_9|10,_=>q5_10|11,_=>q5_11|12,_=>q5_12|13,_=>q5_13|14,_=>q5_14|15,_=>q5_15|n+16,h=>absurd h (by omega),qv5⟩
 have W6:hV K cc cE (cc 6) 6:=⟨⟨lN xx6,ya6,yb6,yc6,yd6,yf6,y6,y7⟩,jQ xE qe6 qn6,by decide,fun i hi=>match i,hi with|0,_=>q6_0|1,_=>q6_1|2,_=>q6_2|3,_=>q6_3|4,_=>q6_4|5,_=>q6_5|6,_=>jP|7,_=>q6_7|8,_=>q6_8|9,_=>q6_9|10,_=>q6_10|11,_=>q6_11|12,_=>q6_12|13,_=>q6_13|14,_=>q6_14|15,_=>q6_15|n+16,h=>absurd h (by omega),qv6⟩
 have W7:hV K cc cE (cc 7) 7:=⟨⟨lN xx7,ya7,yb7,yc7,yd7,yf7,y6,y7⟩,jQ xE qe7 qn7,by decide,fun i hi=>match i,hi with|0,_=>q7_0|1,_=>q7_1|2,_=>q7_2|3,_=>q7_3|4,_=>q7_4|5,_=>q7_5|6,_=>q7_6|7,_=>jP|8,_=>q7_8|9,_=>q7_9|10,_=>q7_10|11,_=>q7_11|12,_=>q7_12|13,_=>q7_13|14,_=>q7_14|15,_=>q7_15|n+16,h=>absurd h (by omega),qv7⟩
 have W8:hV K cc cE (cc 8) 8:=⟨⟨lN xx8,ya8,yb8,yc8,yd8,yf8,y6,y7⟩,jQ xE qe8 qn8,by decide,fun i hi=>match i,hi with|0,_=>q8_0|1,_=>q8_1|2,_=>q8_2|3,_=>q8_3|4,_=>q8_4|5,_=>q8_5|6,_=>q8_6|7,_=>q8_7|8,_=>jP|9,_=>q8_9|10,_=>q8_10|11,_=>q8_11|12,_=>q8_12|13,_=>q8_13|14,_=>q8_14|15,_=>q8_15|n+16,h=>absurd h (by omega),qv8⟩
 have W15:hV K cc cE (cc 15) 15:=⟨⟨A9a w0,ya15,yb15,yc15,yd15,yf15,y6,y7⟩,jQ xE qe15 qn15,by decide,fun i hi=>match i,hi with|0,_=>q15_0|1,_=>q15_1|2,_=>q15_2|3,_=>q15_3|4,_=>q15_4|5,_=>q15_5|6,_=>q15_6|7,_=>q15_7|8,_=>q15_8|9,_=>q15_9|10,_=>q15_10|11,_=>q15_11|12,_=>q15_12|13,_=>q15_13|14,_=>q15_14|15,_=>jP|n+16,h=>absurd h (by omega),qv15⟩
 have cA:gS K C15:=⟨w3,w4,w5,yb15,yc15,yf15⟩
 have ZZ:Cls K cc cE:=⟨fun j hj=>by rcases(show j=3\/j=4\/j=5\/j=6\/j=7\/j=8\/j=15 by omega)with rfl|rfl|rfl|rfl|rfl|rfl|rfl;exact W3;exact W4;exact W5;exact W6;exact W7;exact W8;exact W15,⟨cA,n1,n2⟩⟩
 have M:ExcI K C15 fI:=⟨w0,eI,w1,w2⟩
 have FI:=bO (st:=lO) lI cI kI
 have bI:=FI.binds (ps:=["self","many","most"]) fun _ _ _ _ _ _ us hl=>match us,hl with| [_,_,_],_=>rfl
 have F0:=bO (st:=nZ) l0 c0 k0
 have m0:=W.mg_of X G a0
 have b0:=F0.binds (ps:=["thing"]) fun _ _ _ _ _ _ us hl=>match us,hl with| [_],_=>rfl
 have F1:=bO (st:=rF) l1 c1 k1
 have m1:=W.mg_of X G a1
 have b1:=F1.binds (ps:=["thing","least","most"]) fun _ _ _ _ _ _ us hl=>match us,hl with| [_,_,_],_=>rfl
 have F2:=bO (st:=pQ) l2 c2 k2
 have m2:=W.mg_of X G a2
 have b2:=F2.binds (ps:=["thing","least","most"]) fun _ _ _ _ _ _ us hl=>match us,hl with| [_,_,_],_=>rfl
 have F3:=bO (st:=nE) l3 c3 k3
 have m3:=W.mg_of X G a3
 have b3:=F3.binds (ps:=["things"]) fun _ _ _ _ _ _ us hl=>match us,hl with| [_],_=>rfl
 have F4:=bO (st:=nD) l4 c4 k4
 have m4:=W.mg_of X G a4
 have b4:=F4.binds (ps:=["thing"]) fun _ _ _ _ _ _ us hl=>match us,hl with| [_],_=>rfl
 have F5:=bO (st:=qP) l5 c5 k5
 have m5:=W.mg_of X G a5
 have b5:=F5.binds (ps:=["thing"]) fun _ _ _ _ _ _ us hl=>match us,hl with| [_],_=>rfl
 have F6:=bO (st:=kZ) l6 c6 k6
 have m6:=W.mg_of X G a6
 have b6:=F6.binds (ps:=["thing"]) fun _ _ _ _ _ _ us hl=>match us,hl with| [_],_=>rfl
 have F7:=bO (st:=qN) l7 c7 k7
 have m7:=W.mg_of X G a7
 have b7:=F7.binds (ps:=["custom"]) fun _ _ _ _ _ _ us hl=>match us,hl with| [_],_=>rfl
 have F8:=bO (st:=qT) l8 c8 k8
 have m8:=W.mg_of X G a8
 have b8:=F8.binds (ps:=["claim"]) fun _ _ _ _ _ _ us hl=>match us,hl with| [_],_=>rfl
 have F9:=bO (st:=rQ) l9 c9 k9
 have m9:=W.mg_of X G a9
 have b9:=F9.binds (ps:=["claims"]) fun _ _ _ _ _ _ us hl=>match us,hl with| [_],_=>rfl
 have F10:=bO (st:=mF) l10 c10 k10
 have m10:=W.mg_of X G a10
 have b10:=F10.binds (ps:=["custom","claims"]) fun _ _ _ _ _ _ us hl=>match us,hl with| [_,_],_=>rfl
 have F11:=bO (st:=qF) l11 c11 k11
 have m11:=W.mg_of X G a11
 have b11:=F11.binds (ps:=["custom","claims"]) fun _ _ _ _ _ _ us hl=>match us,hl with| [_,_],_=>rfl
 have F12:=bO (st:=mU) l12 c12 k12
 have m12:=W.mg_of X G a12
 have b12:=F12.binds (ps:=["claims","thing"]) fun _ _ _ _ _ _ us hl=>match us,hl with| [_,_],_=>rfl
 have F13:=bO (st:=qX) l13 c13 k13
 have m13:=W.mg_of X G a13
 have b13:=F13.binds (ps:=["claims","holder"]) fun _ _ _ _ _ _ us hl=>match us,hl with| [_,_],_=>rfl
 have F14:=bO (st:=pB) l14 c14 k14
 have m14:=W.mg_of X G a14
 have b14:=F14.binds (ps:=["claims","one","other"]) fun _ _ _ _ _ _ us hl=>match us,hl with| [_,_,_],_=>rfl
 have F15:=bO (st:=nK) l15 c15 k15
 have m15:=W.mg_of X G a15
 have b15:=F15.binds (ps:=["claims"]) fun _ _ _ _ _ _ us hl=>match us,hl with| [_],_=>rfl
 have F16:=bO (st:=nM) l16 c16 k16
 have m16:=W.mg_of X G a16
 have b16:=F16.binds (ps:=["custom","claims"]) fun _ _ _ _ _ _ us hl=>match us,hl with| [_,_],_=>rfl
 have F17:=bO (st:=mK) l17 c17 k17
 have m17:=W.mg_of X G a17
 have b17:=F17.binds (ps:=["custom","claims","holder"]) fun _ _ _ _ _ _ us hl=>match us,hl with| [_,_,_],_=>rfl
 have F18:=bO (st:=pV) l18 c18 k18
 have m18:=W.mg_of X G a18
 have b18:=F18.binds (ps:=["top","bottom"]) fun _ _ _ _ _ _ us hl=>match us,hl with| [_,_],_=>rfl
 have F19:=bO (st:=pP) l19 c19 k19
 have m19:=W.mg_of X G a19
 have b19:=F19.binds (ps:=["custom","claims","holder"]) fun _ _ _ _ _ _ us hl=>match us,hl with| [_,_,_],_=>rfl
 have F20:=bO (st:=nG) l20 c20 k20
 have m20:=W.mg_of X G a20
 have b20:=F20.binds (ps:=["claims","claim"]) fun _ _ _ _ _ _ us hl=>match us,hl with| [_,_],_=>rfl
 have F21:=bO (st:=nV) l21 c21 k21
 have m21:=W.mg_of X G a21
 have b21:=F21.binds (ps:=["claims","claim"]) fun _ _ _ _ _ _ us hl=>match us,hl with| [_,_],_=>rfl
 have F22:=bO (st:=oT) l22 c22 k22
 have m22:=W.mg_of X G a22
 have b22:=F22.binds (ps:=["claims","holders","sort"]) fun _ _ _ _ _ _ us hl=>match us,hl with| [_,_,_],_=>rfl
 have F23:=bO (st:=jZ) l23 c23 k23
 have m23:=W.mg_of X G a23
 have b23:=F23.binds (ps:=["claims","one","other"]) fun _ _ _ _ _ _ us hl=>match us,hl with| [_,_,_],_=>rfl
 have F24:=bO (st:=pC) l24 c24 k24
 have m24:=W.mg_of X G a24
 have b24:=F24.binds (ps:=["_law_script","_law_k"]) fun _ _ _ _ _ _ us hl=>match us,hl with| [_,_],_=>rfl
 have F25:=bO (st:=qG) l25 c25 k25
 have m25:=W.mg_of X G a25
 have b25:=F25.binds (ps:=["_law_cell_here"]) fun _ _ _ _ _ _ us hl=>match us,hl with| [_],_=>rfl
 have F26:=bO (st:=pK) l26 c26 k26
 have m26:=W.mg_of X G a26
 have b26:=F26.binds (ps:=["_law_pen_here","_law_bound"]) fun _ _ _ _ _ _ us hl=>match us,hl with| [_,_],_=>rfl
 have F27:=bO (st:=mJ) l27 c27 k27
 have m27:=W.mg_of X G a27
 have b27:=F27.binds (ps:=["_law_pen_here","_law_things"]) fun _ _ _ _ _ _ us hl=>match us,hl with| [_,_],_=>rfl
 have F28:=bO (st:=oB) l28 c28 k28
 have m28:=W.mg_of X G a28
 have b28:=F28.binds (ps:=["_law_e"]) fun _ _ _ _ _ _ us hl=>match us,hl with| [_],_=>rfl
 have F29:=bO (st:=kQ) l29 c29 k29
 have m29:=W.mg_of X G a29
 have b29:=F29.binds (ps:=["_law_call_here"]) fun _ _ _ _ _ _ us hl=>match us,hl with| [_],_=>rfl
 have F30:=bO (st:=fT) l30 c30 k30
 have m30:=W.mg_of X G a30
 have b30:=F30.binds (ps:=["_law_pen_here"]) fun _ _ _ _ _ _ us hl=>match us,hl with| [_],_=>rfl
 have F31:=bO (st:=rJ) l31 c31 k31
 have m31:=W.mg_of X G a31
 have b31:=F31.binds (ps:=["_law_pen_here","_law_least","_law_greatest"]) fun _ _ _ _ _ _ us hl=>match us,hl with| [_,_,_],_=>rfl
 have F32:=bO (st:=oS) l32 c32 k32
 have m32:=W.mg_of X G a32
 have b32:=F32.binds (ps:=["_law_pen_here","_law_thing_here"]) fun _ _ _ _ _ _ us hl=>match us,hl with| [_,_],_=>rfl
 have F33:=bO (st:=rD) l33 c33 k33
 have m33:=W.mg_of X G a33
 have b33:=F33.binds (ps:=["_law_thing_here","_law_least","_law_greatest"]) fun _ _ _ _ _ _ us hl=>match us,hl with| [_,_,_],_=>rfl
 have F34:=bO (st:=mO) l34 c34 k34
 have m34:=W.mg_of X G a34
 have b34:=F34.binds (ps:=["_law_pen_here"]) fun _ _ _ _ _ _ us hl=>match us,hl with| [_],_=>rfl
 have F35:=bO (st:=kM) l35 c35 k35
 have m35:=W.mg_of X G a35
 have b35:=F35.binds (ps:=["_law_pen_here","_law_custom_here","_law_holders_here"]) fun _ _ _ _ _ _ us hl=>match us,hl with| [_,_,_],_=>rfl
 have F36:=bO (st:=kP) l36 c36 k36
 have m36:=W.mg_of X G a36
 have b36:=F36.binds (ps:=["_law_thing_here"]) fun _ _ _ _ _ _ us hl=>match us,hl with| [_],_=>rfl
 have F37:=bO (st:=pW) l37 c37 k37
 have m37:=W.mg_of X G a37
 have b37:=F37.binds (ps:=["_law_thing_here"]) fun _ _ _ _ _ _ us hl=>match us,hl with| [_],_=>rfl
 have F38:=bO (st:=iQ) l38 c38 k38
 have m38:=W.mg_of X G a38
 have b38:=F38.binds (ps:=["_law_thing_here"]) fun _ _ _ _ _ _ us hl=>match us,hl with| [_],_=>rfl
 have F39:=bO (st:=mP) l39 c39 k39
 have m39:=W.mg_of X G a39
 have b39:=F39.binds (ps:=["_law_claims_here"]) fun _ _ _ _ _ _ us hl=>match us,hl with| [_],_=>rfl
 have F40:=bO (st:=mX) l40 c40 k40
 have m40:=W.mg_of X G a40
 have b40:=F40.binds (ps:=["_law_pen_here","_law_kind","_law_custom_here"]) fun _ _ _ _ _ _ us hl=>match us,hl with| [_,_,_],_=>rfl
 have F41:=bO (st:=oX) l41 c41 k41
 have m41:=W.mg_of X G a41
 have b41:=F41.binds (ps:=["_law_way","_law_some"]) fun _ _ _ _ _ _ us hl=>match us,hl with| [_,_],_=>rfl
 have F42:=bO (st:=jW) l42 c42 k42
 have m42:=W.mg_of X G a42
 have b42:=F42.binds (ps:=["_law_way","_law_some"]) fun _ _ _ _ _ _ us hl=>match us,hl with| [_,_],_=>rfl
 have F43:=bO (st:=cR) l43 c43 k43
 have m43:=W.mg_of X G a43
 refine⟨W.fnOf "law" "law" (jO cR) (bX cR) (aQ cR) .none kV43 dc43 pm43 an43 (.ref cL) ct43,fun s v=> .of_eq rfl,fun base _ _ hCH hBM hSM=> ?_⟩
 have gI:aR l.prog w K mg base CX0 1 fI _ ["self","many","most"] (rX C15):=A6l FI cA n1 n2
 have g0:aR l.prog w K mg base CX0 1 f0 _ ["thing"] oU:=xS F0 T'
 have g1:aR l.prog w K mg base CX0 2 f1 _ ["thing","least","most"] pD:=A9d F1 T' F0 b0 m0
 have g2:aR l.prog w K mg base CX0 1 f2 _ ["thing","least","most"] mW:=A4r F2 T'
 have g3:aR l.prog w K mg base CX0 1 f3 _ ["things"] wE:=B15 F3 T'
 have g4:aR l.prog w K mg base CX0 3 f4 _ ["thing"] lH:=A5w F4 T' ⟨m2,k2,b2,g2⟩ ⟨m1,k1,b1,g1⟩
 have g5:aR l.prog w K mg base CX0 3 f5 _ ["thing"] jD:=A72 F5 T' ⟨m2,k2,b2,g2⟩ ⟨m1,k1,b1,g1⟩
 have g6:aR l.prog w K mg base CX0 4 f6 _ ["thing"] lW:=B1o F6 T' ⟨m2,k2,b2,g2⟩ ⟨m5,k5,b5,g5⟩ ⟨m3,k3,b3,g3⟩
 have g7:aR l.prog w K mg base (CXD l.prog w) 4 f7 _ ["custom"] (fG cuV 2 (cc 3)):=A2x F7 ⟨m4,k4,b4,g4⟩ NN.m3 ⟨xx3⟩
 have g8:aR l.prog w K mg base (CXD l.prog w) 4 f8 _ ["claim"] (fG clV 2 (cc 4)):=A5s F8 ⟨m5,k5,b5,g5⟩ NN.m4 ⟨xx4⟩
 have g9:aR l.prog w K mg base (CXD l.prog w) 5 f9 _ ["claims"] (fG bV 3 (cc 5)):=A4i F9 ⟨m6,k6,b6,g6⟩ NN.m5 ⟨xx5⟩
 have g10:aR l.prog w K mg base CX0 1 f10 _ ["custom","claims"] tF:=A5a F10 T'
 have g11:aR l.prog w K mg base (CXD l.prog w) 6 f11 _ ["custom","claims"] (vZ cc):=A65 F11 ⟨m7,k7,b7,g7⟩ ⟨m9,k9,b9,g9⟩ ⟨m10,k10,b10,g10⟩ NN.m5 ⟨xx5⟩
 have g12:aR l.prog w K mg base CX0 2 f12 _ ["claims","thing"] pN:=A4p F12 T' ⟨m0,k0,b0,g0⟩
 have g13:aR l.prog w K mg base (CXD l.prog w) 3 f13 _ ["claims","holder"] (qS (cc 6)):=A3d F13 ⟨m12,k12,b12,g12⟩ NN.m6 ⟨xx6⟩
 have g14:aR l.prog w K mg base (CXD l.prog w) 4 f14 _ ["claims","one","other"] (uK (cc 6)):=A6f F14 ⟨m13,k13,b13,g13⟩ NN.m6 ⟨xx6⟩
 have g15:aR l.prog w K mg base (CXD l.prog w) 6 f15 _ ["claims"] (sS cc):=B0w F15 T' ⟨m9,k9,b9,g9⟩ ⟨m12,k12,b12,g12⟩
 have g16:aR l.prog w K mg base CX0 1 f16 _ ["custom","claims"] rE:=A7j F16 T'
 have g17:aR l.prog w K mg base (CXD l.prog w) 7 f17 _ ["custom","claims","holder"] (pI cc):=A6g F17 ⟨m11,k11,b11,g11⟩ ⟨m13,k13,b13,g13⟩ ⟨m16,k16,b16,g16⟩
 have g18:aR l.prog w K mg base CX0 1 f18 _ ["top","bottom"] vI:=B2b F18
 have g19:aR l.prog w K mg base (CXD l.prog w) 8 f19 _ ["custom","claims","holder"] (tW cc):=A9g F19 ⟨m18,k18,b18,g18⟩ ⟨m17,k17,b17,g17⟩ ⟨m16,k16,b16,g16⟩
 have g20:aR l.prog w K mg base (CXD l.prog w) 6 f20 _ ["claims","claim"] (uN cc):=A8v F20 T' ⟨m9,k9,b9,g9⟩ ⟨m8,k8,b8,g8⟩ NN.m7 ⟨xx7⟩ NN.m15 M bI gI
 have g21:aR l.prog w K mg base (CXD l.prog w) 6 f21 _ ["claims","claim"] (uU cc):=B0a F21 T' ⟨m9,k9,b9,g9⟩ ⟨m8,k8,b8,g8⟩ NN.m8 ⟨xx8⟩ NN.m5 ⟨xx5⟩
 have g22:aR l.prog w K mg base CX0 1 f22 _ ["claims","holders","sort"] uA:=A3q F22 T'
 have g23:aR l.prog w K mg base (CXD l.prog w) 6 f23 _ ["claims","one","other"] (vA cc):=A8k F23 T' ⟨m9,k9,b9,g9⟩ ⟨m14,k14,b14,g14⟩ ⟨m22,k22,b22,g22⟩ NN.m15 M bI gI
 have g24:aR l.prog w K mg base CX0 1 f24 _ ["_law_script","_law_k"] (tX K):=B13 F24 T'
 have g25:aR l.prog w K mg base CX0 1 f25 _ ["_law_cell_here"] wD:=A4y F25 T'
 have g26:aR l.prog w K mg base CX0 1 f26 _ ["_law_pen_here","_law_bound"] jS:=A45 F26 T'
 have g27:aR l.prog w K mg base CX0 2 f27 _ ["_law_pen_here","_law_things"] kE:=B0m F27 T' ⟨m26,k26,b26,g26⟩
 have gPT:aR l.prog w K mg base CX0 2 f27 _ ["_law_pen_here","_law_things"] wG:=A3o F27 T' ⟨m26,k26,b26,g26⟩
 have g28:oG l.prog w K mg base 2 f28 _ ["_law_e"] (vT K cc cE):=B0n F28 T' NN
 have g29:jY l.prog w K mg base 11 f29 _ ["_law_call_here"] (mI l.prog w K mg base cc cE):=A81 F29 T' (W.mg_of X G eE) NN m28 k28 b28 g28
 have g30:aR l.prog w K mg base CX0 3 f30 _ ["_law_pen_here"] rP:=A5p F30 ⟨m27,k27,b27,g27⟩
 have g31:aR l.prog w K mg base CX0 3 f31 _ ["_law_pen_here","_law_least","_law_greatest"] vF:=A2y F31 ⟨m27,k27,b27,g27⟩
 have g32:aR l.prog w K mg base CX0 4 f32 _ ["_law_pen_here","_law_thing_here"] wC:=A7a F32 T' ⟨m26,k26,b26,g26⟩ ⟨m30,k30,b30,g30⟩
 have g33:aR l.prog w K mg base CX0 1 f33 _ ["_law_thing_here","_law_least","_law_greatest"] kO:=A4b F33 T'
 have g34:aR l.prog w K mg base CX0 3 f34 _ ["_law_pen_here"] rZ:=A4x F34 T' ⟨m26,k26,b26,g26⟩ ⟨m27,k27,b27,g27⟩
 have g35:aR l.prog w K mg base CX0 3 f35 _ ["_law_pen_here","_law_custom_here","_law_holders_here"] sL:=B1b F35 T' ⟨m26,k26,b26,g26⟩ ⟨m27,k27,b27,g27⟩
 have g36:aR l.prog w K mg base CX0 2 f36 _ ["_law_thing_here"] lH:=A35 F36 T' ⟨m33,k33,b33,g33⟩
 have g37:aR l.prog w K mg base CX0 2 f37 _ ["_law_thing_here"] jD:=A2w F37 T' ⟨m33,k33,b33,g33⟩
 have g38:aR l.prog w K mg base CX0 3 f38 _ ["_law_thing_here"] lW:=B0d F38 T' ⟨m37,k37,b37,g37⟩
 have g39:aR l.prog w K mg base CX0 1 f39 _ ["_law_claims_here"] rO:=A3j F39 T'
 have g40:aR l.prog w K mg base CX0 5 f40 _ ["_law_pen_here","_law_kind","_law_custom_here"] nH:=A8f F40 T' ⟨m35,k35,b35,g35⟩ ⟨m27,k27,b27,g27⟩ ⟨m27,k27,b27,gPT⟩ ⟨m31,k31,b31,g31⟩ ⟨m32,k32,b32,g32⟩ ⟨m30,k30,b30,g30⟩
 have g41:aR l.prog w K mg base (CXD l.prog w) 9 f41 _ ["_law_way","_law_some"] (oA cc):=A8d F41 ⟨m15,k15,b15,g15⟩ ⟨m17,k17,b17,g17⟩ ⟨m19,k19,b19,g19⟩ ⟨m20,k20,b20,g20⟩ ⟨m21,k21,b21,g21⟩ ⟨m23,k23,b23,g23⟩
 have g42:aR l.prog w K mg base CX0 4 f42 _ ["_law_way","_law_some"] qR:=A3p F42 T' ⟨m36,k36,b36,g36⟩ ⟨m38,k38,b38,g38⟩ ⟨m37,k37,b37,g37⟩ ⟨m33,k33,b33,g33⟩ ⟨m39,k39,b39,g39⟩
 exact B2l F43 rfl T' hSM hCH hBM ⟨ZZ,⟨_,_,⟨m24,k24,b24,g24⟩⟩,⟨_,_,⟨m25,k25,b25,g25⟩⟩,⟨_,_,⟨m34,k34,b34,g34⟩⟩,⟨_,_,⟨m40,k40,b40,g40⟩⟩,⟨_,_,⟨m42,k42,b42,g42⟩⟩,⟨_,_,⟨m41,k41,b41,g41⟩⟩,⟨_,_,m29,k29,b29,g29⟩⟩
theorem walk {l:W.OpenLaw}{q:Program}{loose:List Str}{XP:(Str->Option Value)->Heap->Prop}{YP:World->Heap->Prop}{d:DefRec}{K:Params->W.Frag}{c T:Addr}(hn:l.most=some 63)(hdf:d.params.defaults=[])(hi:importsNone q=true)
  (hY:∀(w:World)(h:Heap),YP w h->(K w.params).In h/\h.get? T=some (W.tabObj #[]))
  (F:∀(w:World)(mg:Str->Option Value)(fa:Addr)(h:Heap),(K w.params).In h->h.Ns mainGlobals mg->mg d.name=some (.ref fa)->
   ∃fd:FuncData,(∀(s:Shared)(u:Value),BindsTo s fd ⟨[u],[]⟩ [("_law_script",u)])/\∀base:Heap,(K w.params).In base->base.Ns mainGlobals mg->W.CodeHd base c T->fR mg base->(∃o,base.get? sysModules=some o)->aR l.prog w (K w.params) mg base CX0 12 fa fd ["_law_script"] (pE (K w.params) T))
  (hKT:∀w:World,(K w.params).lookup T=none)(hKC:∀w:World,W.codeHdIn (K w.params) c T=true):
  W.WalkO q loose XP YP l.row.toRowW d [] (fun f vs=>PySem.call f vs):=
 L2.walk_ofS (n:=63) (k:=12) (x:="_law_script") (sp:=fun w=>pE (K w.params) T) hn (by decide) hdf hi ⟨rfl,by decide,by decide,rfl⟩ hY hKT hKC F (fun _ _ a ns hl hT hS=> ⟨a,ns,rfl,hS,hT,hl,fun _=>rfl⟩)
end M04
open PySem PySem.W PyProof.Rows
namespace PySem.W.Fast
theorem tw8577457604563373416:True:=⟨⟩
theorem tw7222381858920949620:True:=⟨⟩
theorem tw4271388492734473197:True:=⟨⟩
theorem tw2538155189984841815:True:=⟨⟩
theorem tw11783984905418736939:True:=⟨⟩
theorem tw3982415551009602876:True:=⟨⟩
theorem tw3188680068982401195:True:=⟨⟩
theorem tw12590670548016794378:True:=⟨⟩
theorem tw8729259709701170202:True:=⟨⟩
theorem tw3143387239600357576:True:=⟨⟩
theorem tw16257591005909997888:True:=⟨⟩
theorem tw15747466853338945784:True:=⟨⟩
theorem tw2914876131761514191:True:=⟨⟩
theorem tw4604974467450797919:True:=⟨⟩
theorem tw220212802827725933:True:=⟨⟩
theorem tw17580066649168589512:True:=⟨⟩
theorem tw12207940990686376136:True:=⟨⟩
theorem tw18031010934862159422:True:=⟨⟩
theorem tw10749165095748685331:True:=⟨⟩
theorem tw8805089422642808648:True:=⟨⟩
theorem tw17785647642740492591:True:=⟨⟩
theorem tw2228442564214891193:True:=⟨⟩
theorem tw13400826201627755290:True:=⟨⟩
theorem tw14966983936155567559:True:=⟨⟩
theorem tw6873259753335076854:True:=⟨⟩
theorem tw366011235991639961:True:=⟨⟩
theorem tw8355687409239493667:True:=⟨⟩
theorem tw14732632065483875213:True:=⟨⟩
theorem tw11448892170086083466:True:=⟨⟩
theorem tw457268040913294164:True:=⟨⟩
theorem tw17819222199540277768:True:=⟨⟩
theorem tw9038510852353458236:True:=⟨⟩
theorem tw14221274510323983893:True:=⟨⟩
theorem tw1813104077928118734:True:=⟨⟩
theorem tw8933852634798629760:True:=⟨⟩
theorem tw6641525303765886024:True:=⟨⟩
theorem tw17525661850890327086:True:=⟨⟩
theorem tw3524227146297812485:True:=⟨⟩
theorem tw10723148081648848593:True:=⟨⟩
theorem tw2634713748208642671:True:=⟨⟩
theorem tw8392524537424876213:True:=⟨⟩
theorem tw4338543375844461070:True:=⟨⟩
theorem tw5265223761569271638:True:=⟨⟩
theorem tw3373537561913775772:True:=⟨⟩
theorem tw13872849722574767367:True:=⟨⟩
theorem tw7656933168452159628:True:=⟨⟩
theorem tw9301297041205999997:True:=⟨⟩
theorem tw14230363294772209957:True:=⟨⟩
theorem tw13457146663206568746:True:=⟨⟩
theorem tw14642403830902351136:True:=⟨⟩
theorem tw9611315229968006218:True:=⟨⟩
theorem tw9789806638274858325:True:=⟨⟩
theorem tw877805745069036431:True:=⟨⟩
theorem tw757022552438632187:True:=⟨⟩
theorem tw10050315175773581327:True:=⟨⟩
theorem tw5066504566046104044:True:=⟨⟩
theorem tw8343914725122343831:True:=⟨⟩
theorem tw15955532350377488802:True:=⟨⟩
theorem tw16792257723005246456:True:=⟨⟩
theorem tw162820071193275089:True:=⟨⟩
theorem tw9763838150227630614:True:=⟨⟩
theorem tw7261941211196792266:True:=⟨⟩
theorem tw12455356372581028828:True:=⟨⟩
theorem tw6668902979275169948:True:=⟨⟩
theorem tw8720892838489602357:True:=⟨⟩
theorem tw7947215245075163985:True:=⟨⟩
theorem tw3758856333593595768:True:=⟨⟩
theorem tw17079665756109634274:True:=⟨⟩
theorem tw16989281906629169845:True:=⟨⟩
theorem tw9395406927968723931:True:=⟨⟩
theorem tw13056360126570560653:True:=⟨⟩
theorem tw2407586306781620214:True:=⟨⟩
theorem tw16248583291044988704:True:=⟨⟩
theorem tw16960831208201854426:True:=⟨⟩
theorem tw3091099932704646565:True:=⟨⟩
theorem tw16441239269006763763:True:=⟨⟩
theorem tw1971774208485844177:True:=⟨⟩
theorem tw3732281807170745348:True:=⟨⟩
theorem tw9809657529455735810:True:=⟨⟩
theorem tw12021280219113947727:True:=⟨⟩
theorem tw346658492550356906:True:=⟨⟩
theorem tw5479858324921062992:True:=⟨⟩
theorem tw9295049634235486994:True:=⟨⟩
theorem tw2229701696275166538:True:=⟨⟩
theorem tw7508710268566971643:True:=⟨⟩
theorem tw12658505501794198722:True:=⟨⟩
theorem tw13183345200499173607:True:=⟨⟩
theorem tw15745642043341168970:True:=⟨⟩
theorem tw17405168069847091223:True:=⟨⟩
theorem tw18140004723646530427:True:=⟨⟩
theorem tw11668683021927084639:True:=⟨⟩
theorem tw8645209047245044287:True:=⟨⟩
theorem tw13259371585913927205:True:=⟨⟩
theorem tw14509944027191121608:True:=⟨⟩
theorem tw12673216463721571632:True:=⟨⟩
theorem tw14035302962805353637:True:=⟨⟩
theorem tw11751064343938812900:True:=⟨⟩
theorem tw5097784751353242182:True:=⟨⟩
theorem tw9678701335884353122:True:=⟨⟩
theorem tw6428469768725722497:True:=⟨⟩
theorem tw8048608361611503955:True:=⟨⟩
theorem tw16016414700117788803:True:=⟨⟩
theorem tw11683568677473204175:True:=⟨⟩
theorem tw17953471113113086523:True:=⟨⟩
theorem tw15018224479370572518:True:=⟨⟩
theorem tw3772427738581330351:True:=⟨⟩
theorem tw8335809490868062481:True:=⟨⟩
theorem tw10841092159430852713:True:=⟨⟩
theorem tw9442062942742662869:True:=⟨⟩
theorem tw1706513094086998875:True:=⟨⟩
theorem tw16266460549291028118:True:=⟨⟩
theorem tw11602885862455895691:True:=⟨⟩
theorem tw1988298832186019069:True:=⟨⟩
theorem tw12975489126227627187:True:=⟨⟩
theorem tw4105047231159771688:True:=⟨⟩
theorem tw16109034977838001166:True:=⟨⟩
theorem tw17626570451064801036:True:=⟨⟩
theorem tw7174180002101545291:True:=⟨⟩
theorem tw9297974702369090640:True:=⟨⟩
theorem tw2052943836959747339:True:=⟨⟩
theorem tw2084062528624680360:True:=⟨⟩
theorem tw17156602637650013609:True:=⟨⟩
theorem tw18346338043329938820:True:=⟨⟩
theorem tw1846561011793242508:True:=⟨⟩
theorem tw5110356263960661133:True:=⟨⟩
theorem tw1848751932386435043:True:=⟨⟩
theorem tw18401045825102360453:True:=⟨⟩
theorem tw432499397556606603:True:=⟨⟩
theorem tw16326128730089147897:True:=⟨⟩
theorem tw5117280681830384706:True:=⟨⟩
theorem tw983647917694892273:True:=⟨⟩
theorem tw11450006634611962742:True:=⟨⟩
theorem tw18203964230023017656:True:=⟨⟩
theorem tw15336342825151383952:True:=⟨⟩
theorem tw3768573355608841740:True:=⟨⟩
theorem tw1840078129260184892:True:=⟨⟩
theorem tw3461653186775341709:True:=⟨⟩
theorem tw10845659294574762001:True:=⟨⟩
theorem tw10299470172654678621:True:=⟨⟩
theorem tw10517120940919330283:True:=⟨⟩
theorem tw18104922201222722453:True:=⟨⟩
theorem tw13164415228257941049:True:=⟨⟩
theorem tw1293177455391896315:True:=⟨⟩
theorem tw3235175502519546428:True:=⟨⟩
theorem tw9521558205395385772:True:=⟨⟩
theorem tw7442208042072368517:True:=⟨⟩
theorem tw8353189713342814852:True:=⟨⟩
theorem tw7975638952397081755:True:=⟨⟩
theorem tw12529569621924505758:True:=⟨⟩
theorem tw2871173959501168422:True:=⟨⟩
theorem tw15033507226373764096:True:=⟨⟩
theorem tw3773914658552788527:True:=⟨⟩
theorem tw1760501964346912811:True:=⟨⟩
theorem tw2499643089949560002:True:=⟨⟩
theorem tw13063375587658302847:True:=⟨⟩
theorem tw4558212892343310104:True:=⟨⟩
theorem tw3265700101595007650:True:=⟨⟩
theorem tw7314749080117146958:True:=⟨⟩
theorem tw11451352459054784991:True:=⟨⟩
theorem tw2546388299447083703:True:=⟨⟩
theorem tw10839067682747258653:True:=⟨⟩
theorem tw12044011535704413977:True:=⟨⟩
theorem tw12706858210248009972:True:=⟨⟩
theorem tw6669680244731643569:True:=⟨⟩
theorem tw12911553782639317484:True:=⟨⟩
theorem tw13745668917554565419:True:=⟨⟩
theorem tw12596271081878991960:True:=⟨⟩
theorem tw11848601574880307275:True:=⟨⟩
theorem tw13027719519600054932:True:=⟨⟩
theorem tw1345807205629451189:True:=⟨⟩
theorem tw4969316637219149463:True:=⟨⟩
theorem tw12011585863166190892:True:=⟨⟩
theorem tw11182487040335301810:True:=⟨⟩
theorem tw4994446662288141850:True:=⟨⟩
theorem tw13617280712839793547:True:=⟨⟩
theorem tw859851478830562780:True:=⟨⟩
theorem tw2739132465560578690:True:=⟨⟩
theorem tw11415196554104537940:True:=⟨⟩
theorem tw1996094638522266330:True:=⟨⟩
theorem tw6788475546079616838:True:=⟨⟩
theorem tw2972312131289674653:True:=⟨⟩
theorem tw15600072645463416865:True:=⟨⟩
theorem tw5433615934020029021:True:=⟨⟩
theorem tw974441217571709548:True:=⟨⟩
theorem tw15917283888351759842:True:=⟨⟩
theorem tw14822960551655671390:True:=⟨⟩
theorem tw11337075430035750963:True:=⟨⟩
theorem tw16045260824457972856:True:=⟨⟩
theorem tw4423065467773655020:True:=⟨⟩
theorem tw8802103904827141318:True:=⟨⟩
theorem tw9538458673609236444:True:=⟨⟩
theorem tw8894617062916829874:True:=⟨⟩
theorem tw5693581468731514578:True:=⟨⟩
theorem tw2048169379126784885:True:=⟨⟩
theorem tw5702552462843998680:True:=⟨⟩
theorem tw9537008580025927656:True:=⟨⟩
theorem tw13930184720025804506:True:=⟨⟩
theorem tw14045614833218748989:True:=⟨⟩
theorem tw9089585798129134178:True:=⟨⟩
theorem tw9471345317684932253:True:=⟨⟩
end PySem.W.Fast
set_option maxRecDepth 100000 in
set_option maxHeartbeats 0 in
theorem PySem.Challenge.cw_meadshares_k04_claims_refused_holds : PySem.Challenge.rw_meadshares_k04_claims_refused.Holds := by
 w_on;o_law;k_head;(case hw=>w_witness2)
 k_fill
 refine' M04.walk (l:=PySem.Challenge.rw_meadshares_k04_claims_refused) rfl rfl (by first|rfl|kernel_rfl|decide +kernel) (T:=493) (fun w h Y=> ⟨PySem.W.km_in_of Y,PySem.W.km_tabs_of Y 493 (List.mem_cons_self)⟩) ?F ?KT ?KC
 case F=>
  intro w mg fa h KX G hmg
  refine' M04.all_mk KX G hmg ?a0 ?l0 ?c0 ?k0 ?a1 ?l1 ?c1 ?k1 ?a2 ?l2 ?c2 ?k2 ?a3 ?l3 ?c3 ?k3 ?a4 ?l4 ?c4 ?k4 ?a5 ?l5 ?c5 ?k5 ?a6 ?l6 ?c6 ?k6 ?a7 ?l7 ?c7 ?k7 ?a8 ?l8 ?c8 ?k8 ?a9 ?l9 ?c9 ?k9 ?a10 ?l10 ?c10 ?k10 ?a11 ?l11 ?c11 ?k11 ?a12 ?l12 ?c12 ?k12 ?a13 ?l13 ?c13 ?k13 ?a14 ?l14 ?c14 ?k14 ?a15 ?l15 ?c15 ?k15 ?a16 ?l16 ?c16 ?k16 ?a17 ?l17 ?c17 ?k17 ?a18 ?l18 ?c18 ?k18 ?a19 ?l19 ?c19 ?k19 ?a20 ?l20 ?c20 ?k20 ?a21 ?l21 ?c21 ?k21 ?a22 ?l22 ?c22 ?k22 ?a23 ?l23 ?c23 ?k23 ?a24 ?l24 ?c24 ?k24 ?a25 ?l25 ?c25 ?k25 ?a26 ?l26 ?c26 ?k26 ?a27 ?l27 ?c27 ?k27 ?a28 ?l28 ?c28 ?k28 ?a29 ?l29 ?c29 ?k29 ?a30 ?l30 ?c30 ?k30 ?a31 ?l31 ?c31 ?k31 ?a32 ?l32 ?c32 ?k32 ?a33 ?l33 ?c33 ?k33 ?a34 ?l34 ?c34 ?k34 ?a35 ?l35 ?c35 ?k35 ?a36 ?l36 ?c36 ?k36 ?a37 ?l37 ?c37 ?k37 ?a38 ?l38 ?c38 ?k38 ?a39 ?l39 ?c39 ?k39 ?a40 ?l40 ?c40 ?k40 ?a41 ?l41 ?c41 ?k41 ?a42 ?l42 ?c42 ?k42 ?a43 ?l43 ?c43 ?k43 ?v0 ?v1 ?v2 ?v3 ?v4 ?z0 ?z1 ?z2 ?z3 ?z4 ?z5 ?z6 ?z7 ?z8 ?z9 ?z10 ?z11 ?z12 ?z13 ?z14 ?z15 ?eE ?e0 ?e1 ?e2 ?e3 ?e4 ?e5 ?e6 ?e7 ?e8 ?e9 ?e10 ?e11 ?e12 ?e13 ?e14 ?e15 ?xE ?xx3 ?q3_0 ?q3_1 ?q3_2 ?q3_4 ?q3_5 ?q3_6 ?q3_7 ?q3_8 ?q3_9 ?q3_10 ?q3_11 ?q3_12 ?q3_13 ?q3_14 ?q3_15 ?qv3 ?qe3 ?qn3 ?ya3 ?yb3 ?yc3 ?yd3 ?yf3 ?xx4 ?q4_0 ?q4_1 ?q4_2 ?q4_3 ?q4_5 ?q4_6 ?q4_7 ?q4_8 ?q4_9 ?q4_10 ?q4_11 ?q4_12 ?q4_13 ?q4_14 ?q4_15 ?qv4 ?qe4 ?qn4 ?ya4 ?yb4 ?yc4 ?yd4 ?yf4 ?xx5 ?q5_0 ?q5_1 ?q5_2 ?q5_3 ?q5_4 ?q5_6 ?q5_7 ?q5_8 ?q5_9 ?q5_10 ?q5_11 ?q5_12 ?q5_13 ?q5_14 ?q5_15 ?qv5 ?qe5 ?qn5 ?ya5 ?yb5 ?yc5 ?yd5 ?yf5 ?xx6 ?q6_0 ?q6_1 ?q6_2 ?q6_3 ?q6_4 ?q6_5 ?q6_7 ?q6_8 ?q6_9 ?q6_10 ?q6_11 ?q6_12 ?q6_13 ?q6_14 ?q6_15 ?qv6 ?qe6 ?qn6 ?ya6 ?yb6 ?yc6 ?yd6 ?yf6 ?xx7 ?q7_0 ?q7_1 ?q7_2 ?q7_3 ?q7_4 ?q7_5 ?q7_6 ?q7_8 ?q7_9 ?q7_10 ?q7_11 ?q7_12 ?q7_13 ?q7_14 ?q7_15 ?qv7 ?qe7 ?qn7 ?ya7 ?yb7 ?yc7 ?yd7 ?yf7 ?xx8 ?q8_0 ?q8_1 ?q8_2 ?q8_3 ?q8_4 ?q8_5 ?q8_6 ?q8_7 ?q8_9 ?q8_10 ?q8_11 ?q8_12 ?q8_13 ?q8_14 ?q8_15 ?qv8 ?qe8 ?qn8 ?ya8 ?yb8 ?yc8 ?yd8 ?yf8 ?q15_0 ?q15_1 ?q15_2 ?q15_3 ?q15_4 ?q15_5 ?q15_6 ?q15_7 ?q15_8 ?q15_9 ?q15_10 ?q15_11 ?q15_12 ?q15_13 ?q15_14 ?qv15 ?qe15 ?qn15 ?ya15 ?yb15 ?yc15 ?yd15 ?yf15 ?y6 ?y7 ?eI ?lI ?cI ?kI ?w0 ?w1 ?w2 ?w3 ?w4 ?w5 ?n1 ?n2
  (case a0|a1|a2|a3|a4|a5|a6|a7|a8|a9|a10|a11|a12|a13|a14|a15|a16|a17|a18|a19|a20|a21|a22|a23|a24|a25|a26|a27|a28|a29|a30|a31|a32|a33|a34|a35|a36|a37|a38|a39|a40|a41|a42|a43|e0|e1|e2|e3|e4|e5|e6|e7|e8|e9|e10|e11|e12|e13|e14|e15=>unfold M04.NI;k_is)
  (case l0|l1|l2|l3|l4|l5|l6|l7|l8|l9|l10|l11|l12|l13|l14|l15|l16|l17|l18|l19|l20|l21|l22|l23|l24|l25|l26|l27|l28|l29|l30|l31|l32|l33|l34|l35|l36|l37|l38|l39|l40|l41|l42|l43=>unfold M04.LI;k_is)
  (case c0|c1|c2|c3|c4|c5|c6|c7|c8|c9|c10|c11|c12|c13|c14|c15|c16|c17|c18|c19|c20|c21|c22|c23|c24|c25|c26|c27|c28|c29|c30|c31|c32|c33|c34|c35|c36|c37|c38|c39|c40|c41|c42|c43=>unfold M04.CI;k_is)
  (case k0|k1|k2|k3|k4|k5|k6|k7|k8|k9|k10|k11|k12|k13|k14|k15|k16|k17|k18|k19|k20|k21|k22|k23|k24|k25|k26|k27|k28|k29|k30|k31|k32|k33|k34|k35|k36|k37|k38|k39|k40|k41|k42|k43=>unfold M04.KI;k_is)
  (case z0|z1|z2|z3|z4|z5|z6|z7|z8|z9|z10|z11|z12|z13|z14|z15=>unfold M04.ZI;k_is)
  (case v0|v1|v2|v3|v4|eE|xE|ya3|yb3|yc3|yd3|yf3|ya4|yb4|yc4|yd4|yf4|ya5|yb5|yc5|yd5|yf5|ya6|yb6|yc6|yd6|yf6|ya7|yb7|yc7|yd7|yf7|ya8|yb8|yc8|yd8|yf8|ya15|yb15|yc15|yd15|yf15|y6|y7|eI|lI|cI|kI|w2|w3|n1|n2=>k_is)
  (case xx3|xx4|xx5|xx6|xx7|xx8=>k_exc)
  (case q3_0|q3_1|q3_2|q3_4|q3_5|q3_6|q3_7|q3_8|q3_9|q3_10|q3_11|q3_12|q3_13|q3_14|q3_15|q4_0|q4_1|q4_2|q4_3|q4_5|q4_6|q4_7|q4_8|q4_9|q4_10|q4_11|q4_12|q4_13|q4_14|q4_15|q5_0|q5_1|q5_2|q5_3|q5_4|q5_6|q5_7|q5_8|q5_9|q5_10|q5_11|q5_12|q5_13|q5_14|q5_15|q6_0|q6_1|q6_2|q6_3|q6_4|q6_5|q6_7|q6_8|q6_9|q6_10|q6_11|q6_12|q6_13|q6_14|q6_15|q7_0|q7_1|q7_2|q7_3|q7_4|q7_5|q7_6|q7_8|q7_9|q7_10|q7_11|q7_12|q7_13|q7_14|q7_15|q8_0|q8_1|q8_2|q8_3|q8_4|q8_5|q8_6|q8_7|q8_9|q8_10|q8_11|q8_12|q8_13|q8_14|q8_15|q15_0|q15_1|q15_2|q15_3|q15_4|q15_5|q15_6|q15_7|q15_8|q15_9|q15_10|q15_11|q15_12|q15_13|q15_14=>unfold M04.OI;kit_is)
  (case qv3|qe3|qv4|qe4|qv5|qe5|qv6|qe6|qv7|qe7|qv8|qe8|qv15|qe15=>kit_is)
  (case qn3|qn4|qn5|qn6|qn7|qn8|qn15=>rfl)
  (case w0|w1|w4|w5=>kernel_rfl)
 case KT=>intro w;first|rfl|kernel_rfl|k_is
 case KC=>intro w;first|kernel_rfl|k_is|rfl