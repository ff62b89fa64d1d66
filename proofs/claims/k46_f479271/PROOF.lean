import PyProof.Rows.All
import Wide.All
import OpenK.AllK
import Wide.FinOn
import Lean
import PyProof.EqAt
import PyProof.EqKinds
import PyProof.TupleCall
import KE.LcSums
import KE.KDictOf
import PyProof.ZipIter
import KE.KTryMore
import KE.KSortTup
import PyProof.DictItems
import PyProof.NeKinds
import PySem.SetOps
import PyProof.TupleKey
import PyProof.IsRules
import PyProof.SetKind
import PyProof.SetNew
import PyProof.Rows.SetFrom
import PyProof.CollectWalk
import PyProof.WalksMore
import PyProof.TupleIter
import PyProof.SetRoads
import KE.KLam
import KE.RegKIsAll
import PySem.Challenge.RW_meadshares_k46_fences
set_option Elab.async false
set_option linter.all false
set_option maxRecDepth 100000
open List (all_cons all_eq_true all_map any_cons any_map append_assoc append_nil countP_cons eraseIdx_eq_take_drop_succ eraseIdx_sublist exists_cons_of_ne_nil ext_getElem filter filterMap_cons filter_append filter_cons filter_cons_of_neg filter_cons_of_pos find?_cons flatten_append flatten_cons foldl foldl_cons forIn_cons getElem?_append_left getElem?_append_right getElem?_eq_getElem getElem?_map getElem?_replicate getElem_inj getElem_mem getElem_of_mem getElem_zip length_append length_cons length_drop length_eq_zero_iff length_eraseIdx_of_lt length_filter_le length_map length_nil length_pos_of_mem length_range length_replicate length_take length_zip lookup lookup_cons map_append map_congr_left map_cons map_drop map_map map_nil map_take mem_append mem_append_left mem_append_right mem_cons mem_filter mem_filterMap mem_flatten mem_iff_getElem? mem_map mem_map_of_mem mem_of_getElem? mem_range mem_singleton nodup_append nodup_cons nodup_nil nodup_range not_mem_nil of_mem_zip pairwise_cons pairwise_iff_getElem pairwise_map replicate set_comm size_toArray sum_cons take_of_length_le take_succ toArray zipIdx_cons zip_cons_cons zip_map')
open PySem.Heap (get?_push_size get?_update_self size_push)
open Nat (add_le_add_left add_zero le_add_right le_of_lt le_of_lt_succ le_succ le_trans lt_irrefl lt_of_le_of_lt lt_of_lt_of_le lt_of_succ_lt lt_succ_of_lt lt_trans mod_lt ne_of_gt ne_of_lt succ_ne_self succ_pos zero_le)
def zjZ:=@PySem.wpAny_bind
def zjY:=@PySem.wpAny_pure
def zjX:=@PySem.Heap.get?_push_of_some
def zjW:=@List.getElem?_eq_some_iff
def zjV:=@decide_eq_true
def zjU:=@decide_eq_false
def zjT:=@PySem.Heap.lt_size
def zjS:=@List.mem_cons_of_mem
def zjR:=@List.mem_cons_self
def zjQ:=@Nat.le_refl
local macro_rules | `(tactic| ac_rfl) => `(tactic| exact ⟨rfl, rfl, rfl, by decide +kernel, rfl, by decide +kernel, by decide +kernel⟩)
local macro_rules | `(tactic| omega) => `(tactic| lia)
namespace L2
open PySem PySem.Spec PyProof.Rows
abbrev Key:=Sum Int Str
def kR:Key->Value->Bool
 | .inl k,v=>Value.isInt k v
 | .inr x,v=>Value.isStrOf x v
def A8f (w:World):Key->Int
 | .inl k=>hashInt k
 | .inr x=>hashStr w x
theorem keyIs_shape:∀{k:Key}{v:Value},kR k v=true->(∃i t,k=Sum.inl i/\v=Value.int i t)\/(∃x t,k=Sum.inr x/\v=Value.str x t)
 | .inl i,v,h=>by
  obtain⟨t,e⟩:=Value.isInt_shape (k:=i) (v:=v) h
  exact .inl ⟨i,t,rfl,e⟩
 | .inr x,v,h=>by
  obtain⟨t,e⟩:=Value.isStrOf_shape (x:=x) (v:=v) h
  exact .inr ⟨x,t,rfl,e⟩
theorem A5k (i:Int)(t:Tok):kR (.inl i) (.int i t)=true:=by simp [kR,Value.isInt]
theorem A7k (x:Str)(t:Tok):kR (.inr x) (.str x t)=true:=by simp [kR,Value.isStrOf]
theorem A5v (a b:Int):decide ((Sum.inl a:Key)=Sum.inl b)=(a==b):=by
 by_cases e:a=b
 ·subst e;simp
 ·have h:¬(Sum.inl a:Key)=Sum.inl b:=fun q=>e (Sum.inl.inj q)
  rw [zjU h]
  exact(beq_eq_false_iff_ne.mpr e).symm
theorem A2c (a b:Str):decide ((Sum.inr a:Key)=Sum.inr b)=decide (a=b):=by
 by_cases e:a=b
 ·subst e;simp
 ·have h:¬(Sum.inr a:Key)=Sum.inr b:=fun q=>e (Sum.inr.inj q)
  rw [zjU h,zjU e]
theorem A91 (a:Int)(b:Str):decide ((Sum.inl a:Key)=Sum.inr b)=false:=zjU (fun q=>nomatch q)
theorem A20 (a:Str)(b:Int):decide ((Sum.inr a:Key)=Sum.inl b)=false:=zjU (fun q=>nomatch q)
def eB (prog:Program)(w:World):PySem.KeyKind prog w Key where
 is:=kR
 hash:=A8f w
 inj:=fun v a b ha hb=>by
  rcases keyIs_shape ha with⟨i,t,rfl,rfl⟩| ⟨x,t,rfl,rfl⟩
  ·rcases keyIs_shape hb with⟨j,u,rfl,e⟩| ⟨y,u,rfl,e⟩
   ·injection e with e1 _;rw [e1]
   ·exact nomatch e
  ·rcases keyIs_shape hb with⟨j,u,rfl,e⟩| ⟨y,u,rfl,e⟩
   ·exact nomatch e
   ·injection e with e1 _;rw [e1]
 byValue:=fun k v h=>by
  rcases keyIs_shape h with⟨i,t,rfl,rfl⟩| ⟨x,t,rfl,rfl⟩<;>rfl
 pyHash:=fun hv h=>by
  rcases keyIs_shape hv with⟨i,t,rfl,rfl⟩| ⟨x,t,rfl,rfl⟩
  ·exact wpAny_pyHash_int h
  ·exact wpAny_pyHash_str h
 eqBool:=fun hu hv h=>by
  rcases keyIs_shape hu with⟨i,t,rfl,rfl⟩| ⟨x,t,rfl,rfl⟩
  ·rcases keyIs_shape hv with⟨j,u,rfl,rfl⟩| ⟨y,u,rfl,rfl⟩
   ·rw [A5v]at h;exact wpAny_eqBool_int h
   ·rw [A91]at h;exact SeqAt.EqAt.int_str i t y u _ _ _ _ h
  ·rcases keyIs_shape hv with⟨j,u,rfl,rfl⟩| ⟨y,u,rfl,rfl⟩
   ·rw [A20]at h;exact SeqAt.EqAt.str_int x t j u _ _ _ _ h
   ·rw [A2c]at h;exact wpAny_eqBool_str h
 «strs»:=fun k x t v h=>by
  rcases keyIs_shape h with⟨i,u,rfl,e⟩| ⟨y,u,rfl,e⟩
  ·exact nomatch e
  ·injection e with e1 _
   subst e1
   cases v<;>rfl
theorem wV (prog:Program)(w:World)(i:Int)(t:Tok):(eB prog w).is (.inl i) (.int i t)=true:=A5k i t
theorem A24 (prog:Program)(w:World)(x:Str)(t:Tok):(eB prog w).is (.inr x) (.str x t)=true:=A7k x t
inductive V where
 |non|bl (b:Bool)|int (i:Int)|str (x:Str)|byt (b:Array UInt8)|flt (b:UInt64)|ref (a:Addr)|ty (n:String)
 deriving DecidableEq
def RelV:V->Value->Prop
 | .non,u=>u=Value.none
 | .bl b,u=>u=Value.bool b
 | .int i,u=> ∃t,u=Value.int i t
 | .str x,u=> ∃t,u=Value.str x t
 | .byt b,u=> ∃t,u=Value.bytes b t
 | .flt b,u=> ∃t,u=Value.float b t
 | .ref a,u=>u=Value.ref a
 | .ty n,u=>u=Value.type n
abbrev Vals:List V->List Value->Prop:=Paired RelV
theorem Vals.length {xs:List V}{us:List Value}(r:Vals xs us):xs.length=us.length:=Paired.length r
theorem Vals.get:∀{xs:List V}{us:List Value}{i:Nat}{x:V},Vals xs us->xs[i]?=some x->∃u,us[i]?=some u/\RelV x u
 |_,_,_,_,.nil,e=>by simp at e
 |_,_,0,_,.cons r _,e=>by simp at e;subst e;exact⟨_,rfl,r⟩
 |_,_,i+1,x,.cons _ t,e=>by
  obtain⟨u,h1,h2⟩:=Vals.get (i:=i) (x:=x) t (by simpa using e)
  exact⟨u,by simpa using h1,h2⟩
theorem Vals.set {x:V}{u:Value}(r:RelV x u):∀{xs:List V}{us:List Value}(i:Nat),Vals xs us->Vals (xs.set i x) (us.set i u)
 |_,_,_,.nil=> .nil
 |_,_,0,.cons _ t=> .cons r t
 |_,_,i+1,.cons q t=> .cons q (Vals.set r i t)
theorem Vals.append:∀{xs ys:List V}{us ws:List Value},Vals xs us->Vals ys ws->Vals (xs++ys) (us++ws)
 |_,_,_,_,.nil,s=>s
 |_,_,_,_,.cons r t,s=> .cons r (Vals.append t s)
theorem Vals.take:∀{xs:List V}{us:List Value}(n:Nat),Vals xs us->Vals (xs.take n) (us.take n)
 |_,_,0,_=> .nil
 |_,_,_+1,.nil=> .nil
 |_,_,n+1,.cons r t=> .cons r (Vals.take n t)
theorem Vals.drop:∀{xs:List V}{us:List Value}(n:Nat),Vals xs us->Vals (xs.drop n) (us.drop n)
 |_,_,0,r=>r
 |_,_,_+1,.nil=> .nil
 |_,_,n+1,.cons _ t=>Vals.drop n t
def RelO:Option V->Option Value->Prop
 |some v,some u=>RelV v u
 |none,none=>True
 |_,_=>False
def KV {κ:Type}:List (κ×V)->List (κ×Value)->Prop:=Paired fun(p:κ×V) (q:κ×Value)=>p.1=q.1/\RelV p.2 q.2
def kV:Key->V
 | .inl i=> .int i
 | .inr x=> .str x
inductive HO where
  |lst (xs:List V)
  |tup (xs:List V)
  |dK (kvs:List (Key×V))|dT (kvs:List (List Key×V))
  |set (S:Int->Bool) (n:Nat)
  |ins (C dx:Addr) (fs:List (Str×V))
  |own (x:Addr)
  |xd (fs:List (Str×V))
  |met (f x:Addr)
  |rng (lo hi:Int)
  |frz (o:Obj) (u:HO)
  |tbl (ps:Array Value)
  |ext (φ:Heap->Prop)
abbrev Hp:=Addr->Option HO
def upd (H:Hp)(a:Addr)(o:HO):Hp:=fun b=>if b=a then some o else H b
theorem aJ {H:Hp}{a:Addr}{o:HO}:upd H a o a=some o:=by unfold upd;rw [if_pos rfl]
theorem aQ {H:Hp}{a b:Addr}{o:HO}(h:b≠a):upd H a o b=H b:=by unfold upd;rw [if_neg h]
theorem pU {H:Hp}{a b:Addr}{o u:HO}(h:H a=some o)(h':H b=some u)(d:o≠u):a≠b:=by
 intro e;subst e;rw [h]at h';exact d (Option.some.inj h')
theorem bW {H:Hp}{a b:Addr}{o:HO}(h:H a=some o)(h':H b=none):a≠b:=by
 intro e;subst e;rw [h]at h';cases h'
section
variable (P:Program)(w:World)
def ObjOk (H:Hp)(h:Heap)(a:Addr):HO->Prop
 | .lst xs=>xs.length<=sizeLine/\∃(its:List Value)(n:Nat),Vals xs its/\h.get? a=some {cls:=.type "list",data:=.seq its.toArray n}
 | .tup xs=>xs.length<=sizeLine/\∃its:List Value,Vals xs its/\IsTup h a its.toArray
 | .dK kvs=>kvs.length<=sizeLine/\(a==sysModules)=false/\∃vs,KV kvs vs/\h.DictOf (eB P w) a vs
 | .dT kvs=>kvs.length<=sizeLine/\(a==sysModules)=false/\∃xs:List (List Key×Addr×Value),
   Paired (fun(p:List Key×V) (q:List Key×Addr×Value)=>p.1=q.1/\H q.2.1=some (.tup (p.1.map kV))/\RelV p.2 q.2.2) kvs xs/\
   ∃o es ep,h.get? a=some o/\o.ExactDict/\o.data= .dict es ep/\es.toList=xs.map (entryOfKey (tupleKind (eB P w)))/\(xs.map (·.1)).Nodup
 | .set S n=>h.SetOf (intKind P w) a S n
 | .ins C dx fs=>H dx=some (.own a)/\fs.length<=1000/\dx≠a/\h.get? a=some (W.instObj C dx)/\
   ∃mA,h.Ns1 dx mA/\(∀f,RelO (fs.lookup f) (mA f))/\PySem.Within mA (fs.map (·.1))
 | .own _=> ∃o,h.get? a=some o
 | .xd fs=> ∃mA,h.Ns1 a mA/\∀f,RelO (fs.lookup f) (mA f)
 | .rng lo hi=> ∃t u v,h.get? a=some {cls:=.type "range",data:=.fields #[.int lo t,.int hi u,.int 1 v]}
 | .frz o u=>h.get? a=some o/\ObjOk H h a u
 | .tbl ps=>h.get? a=some {cls:=.none,data:=.fields ps}
 | .met f x=>h.get? a=some (W.methodObj (.ref f) (.ref x))
 | .ext φ=>φ h/\(∃o,h.get? a=some o)/\∀h1 h2:Heap,φ h1->(∀o,h1.get? a=some o->h2.get? a=some o)->φ h2
def HOk (H:Hp)(h:Heap):Prop:=∀a o,H a=some o->ObjOk P w H h a o
end
section
variable {P:Program}{w:World}{H H':Hp}{h h':Heap}{a:Addr}{o:HO}
theorem ObjOk.lt (x:ObjOk P w H h a o):a<h.objs.size:=by
 cases o with
 |lst xs=>obtain⟨_,_,_,_,e⟩:=x;exact zjT e
 |tup xs=>obtain⟨_,_,_,p⟩:=x;exact p.lt
 |dK kvs=>obtain⟨_,_,_,_,o,_,_,e,_⟩:=x;exact zjT e
 |dT kvs=>obtain⟨_,_,_,_,o,_,_,e,_⟩:=x;exact zjT e
 |set S n=>obtain⟨o,_,_,_,e,_⟩:=x;exact zjT e
 |ins C dx fs=>obtain⟨_,_,_,e,_⟩:=x;exact zjT e
 |own y=>obtain⟨_,e⟩:=x;exact zjT e
 |xd fs=>obtain⟨_,⟨_,_,_,e,_⟩,_⟩:=x;exact zjT e
 |rng lo hi=>obtain⟨_,_,_,e⟩:=x;exact zjT e
 |frz ob u=>obtain⟨e,_⟩:=x;exact zjT e
 |tbl ps=>exact zjT (show h.get? a=some _ from x)
 |met f y=>exact zjT (show h.get? a=some _ from x)
 |ext φ=>obtain⟨_,⟨_,e⟩,_⟩:=x;exact zjT e
theorem Paired.mapP {α β:Type}{F G:α->β->Prop}:∀{l₁:List α}{l₂:List β},Paired F l₁ l₂->(∀a b,F a b->G a b)->Paired G l₁ l₂
 |_,_,.nil,_=> .nil
 |_,_,.cons r t,f=> .cons (f _ _ r) (Paired.mapP t f)
theorem ObjOk.stay (x:ObjOk P w H h a o)(k:∀b u,(b=a\/H b=some (.own a))->h.get? b=some u->h'.get? b=some u)
  (ho:∀b,H b=some (.own a)->H' b=some (.own a))(ht:∀b xs,H b=some (.tup xs)->H' b=some (.tup xs)):ObjOk P w H' h' a o:=by
 induction o with
 |lst xs=>obtain⟨z,its,n,r,e⟩:=x;exact⟨z,its,n,r,k _ _ (.inl rfl) e⟩
 |tup xs=>obtain⟨z,its,r,ob,e,c⟩:=x;exact⟨z,its,r,ob,k _ _ (.inl rfl) e,c⟩
 |dK kvs=>obtain⟨z,y,vs,r,ob,es,ep,e,c⟩:=x;exact⟨z,y,vs,r,ob,es,ep,k _ _ (.inl rfl) e,c⟩
 |dT kvs=>
  obtain⟨z,y,xs,r,ob,es,ep,e,c⟩:=x
  exact⟨z,y,xs,Paired.mapP r fun p q z=> ⟨z.1,ht _ _ z.2.1,z.2.2⟩,ob,es,ep,k _ _ (.inl rfl) e,c⟩
 |set S n=>obtain⟨ob,es,ep,t,e,c⟩:=x;exact⟨ob,es,ep,t,k _ _ (.inl rfl) e,c⟩
 |ins C dx fs=>
  obtain⟨d,z,ne,e,mA,⟨od,es,ep,e2,c⟩,r⟩:=x
  exact⟨ho _ d,z,ne,k _ _ (.inl rfl) e,mA,⟨od,es,ep,k _ _ (.inr d) e2,c⟩,r⟩
 |own y=>obtain⟨ob,e⟩:=x;exact⟨ob,k _ _ (.inl rfl) e⟩
 |xd fs=>obtain⟨mA,⟨od,es,ep,e,c⟩,r⟩:=x;exact⟨mA,⟨od,es,ep,k _ _ (.inl rfl) e,c⟩,r⟩
 |rng lo hi=>obtain⟨t,u,v,e⟩:=x;exact⟨t,u,v,k _ _ (.inl rfl) e⟩
 |frz ob u ih=>obtain⟨e,q⟩:=x;exact⟨k _ _ (.inl rfl) e,ih q⟩
 |tbl ps=>
  have e:h.get? a=some {cls:=.none,data:=.fields ps}:=x
  show h'.get? a=some {cls:=.none,data:=.fields ps}
  exact k a _ (.inl rfl) e
 |met f y=>
  have e:h.get? a=some (W.methodObj (.ref f) (.ref y)):=x
  show h'.get? a=some (W.methodObj (.ref f) (.ref y))
  exact k a _ (.inl rfl) e
 |ext φ=>obtain⟨p,⟨o,e⟩,st⟩:=x;exact⟨st _ _ p fun o q=>k _ _ (.inl rfl) q,⟨o,k _ _ (.inl rfl) e⟩,st⟩
theorem HOk.lt (x:HOk P w H h)(e:H a=some o):a<h.objs.size:=(x a o e).lt
theorem HOk.fresh (x:HOk P w H h)(e:h.objs.size<=a):H a=none:=by
 cases q:H a with
 |none=>rfl
 |some u=>exact absurd (lt_of_lt_of_le (x.lt q) e) (lt_irrefl _)
theorem HOk.kept (x:HOk P w H h)(k:∀b u,h.get? b=some u->h'.get? b=some u):HOk P w H h':=fun a o e=>
 (x a o e).stay (fun b u _ q=>k b u q) (fun _ q=>q) fun _ _ q=>q
theorem HOk.laid (x:HOk P w H h)(k:∀b u,h.get? b=some u->h'.get? b=some u)(hp:h.objs.size<=a)(new:ObjOk P w (upd H a o) h' a o):HOk P w (upd H a o) h':=fun b u e=>by
 have hn:=x.fresh hp
 by_cases hb:b=a
 ·subst hb;rw [aJ]at e;cases e;exact new
 ·rw [aQ hb]at e
  exact(x b u e).stay (fun c v _ q=>k c v q) (fun c q=>by rw [aQ (bW q hn)];exact q) fun c xs q=>by rw [aQ (bW q hn)];exact q
end
def Rd (H:Hp)(a:Addr)(u:HO):Prop:=H a=some u\/ ∃o,H a=some (.frz o u)
theorem Rd.ok {P:Program}{w:World}{H:Hp}{h:Heap}{a:Addr}{u:HO}(r:Rd H a u)(x:HOk P w H h):ObjOk P w H h a u:=by
 rcases r with r| ⟨o,r⟩
 ·exact x a u r
 ·obtain⟨_,q⟩:=x a _ r
  exact q
def Mut:Option HO->Prop
 |some (.lst _)=>True
 |some (.dK _)=>True
 |some (.dT _)=>True
 |some (.set _ _)=>True
 |some (.ins _ _ _)=>True
 |some (.ext _)=>True
 |_=>False
section
variable {P:Program}{w:World}{H:Hp}{h h':Heap}{x e:Addr}{o':HO}
theorem HOk.write (ok:HOk P w H h)(mu:Mut (H x))(he:e=x\/H e=some (.own x))(k:∀b u,b≠e->h.get? b=some u->h'.get? b=some u)(heo:∃u,h'.get? e=some u)
  (new:ObjOk P w (upd H x o') h' x o'):HOk P w (upd H x o') h':=fun b u q=>by
 have nown:∀c y,H c=some (.own y)->c≠x:=fun c y r z=>by subst z;rw [r]at mu;exact mu
 have ntup:∀c xs,H c=some (.tup xs)->c≠x:=fun c xs r z=>by subst z;rw [r]at mu;exact mu
 by_cases hb:b=x
 ·subst hb;rw [aJ]at q;cases q;exact new
 ·rw [aQ hb]at q
  by_cases hbe:b=e
  ·have q':H b=some (.own x):=by
    rcases he with z|z
    ·exact absurd (hbe.trans z) hb
    ·rw [hbe];exact z
   rw [q]at q';cases q'
   obtain⟨v,hv⟩:=heo
   exact⟨v,by rw [hbe];exact hv⟩
  ·refine(ok b u q).stay (fun c v hc r=>k c v ?_ r) (fun c r=>by rw [aQ (nown c b r)];exact r) fun c xs r=>by rw [aQ (ntup c xs r)];exact r
   rcases hc with rfl|hc
   ·exact hbe
   ·rintro rfl
    rcases he with z|z
    ·exact nown c b hc z
    ·rw [hc]at z;cases z;exact hb rfl
end
structure Un (fs ex:List Addr)(H H':Hp)(h h':Heap):Prop where
 keep:∀b o,h.get? b=some o->H b=none->b∉fs->b∉ex->h'.get? b=some o
 slot:∀b o,h.get? b=some o->H b=none->b∈fs->b∉ex->∃sl,h'.get? b=some {o with slots:=sl}
 free:∀b o,h.get? b=some o->H b=none->b∉ex->H' b=none
 there:∀b o,h.get? b=some o->b∉ex->∃o',h'.get? b=some o'
 tups:∀b xs,H b=some (.tup xs)->H' b=some (.tup xs)
 frzs:∀b o u,H b=some (.frz o u)->H' b=some (.frz o u)
 tbls:∀b ps,H b=some (.tbl ps)->∃more,H' b=some (.tbl (ps++more))
section
variable {fs fs' ex ex':List Addr}{H H1 H2:Hp}{h h1 h2 h':Heap}{a x e:Addr}{o:HO}
theorem Un.any (u:Un fs ex H H1 h h1){b:Addr}{ob:Obj}(q:h.get? b=some ob)(n:H b=none)(hx:b∉ex):∃sl,h1.get? b=some {ob with slots:=sl}:=by
 by_cases hb:b∈fs
 ·exact u.slot b ob q n hb hx
 ·exact⟨ob.slots,u.keep b ob q n hb hx⟩
theorem Un.kept (k:∀b u,h.get? b=some u->h'.get? b=some u):Un fs ex H H h h':=
 ⟨fun b ob q _ _ _=>k b ob q,fun b ob q _ _ _=> ⟨ob.slots,k b ob q⟩,fun _ _ _ n _=>n,fun b ob q _=> ⟨ob,k b ob q⟩,fun _ _ q=>q,fun _ _ _ q=>q,fun _ ps q=> ⟨#[],by rw [q];simp⟩⟩
theorem Un.refl:Un fs ex H H h h:=Un.kept fun _ _ q=>q
theorem Un.laid (k:∀b u,h.get? b=some u->h'.get? b=some u)(hp:h.objs.size<=a)(hn:H a=none):Un fs ex H (upd H a o) h h' where
 keep:=fun b u q _ _ _=>k b u q
 slot:=fun b u q _ _ _=> ⟨u.slots,k b u q⟩
 free:=fun b u q n _=>by rw [aQ (ne_of_lt (lt_of_lt_of_le (zjT q) hp))];exact n
 there:=fun b u q _=> ⟨u,k b u q⟩
 tups:=fun b xs q=>by rw [aQ (bW q hn)];exact q
 frzs:=fun b u xs q=>by rw [aQ (bW q hn)];exact q
 tbls:=fun b ps q=> ⟨#[],by rw [aQ (bW q hn),q];simp⟩
theorem Un.write (mu:Mut (H x))(he:e=x\/H e=some (.own x))(k:∀b u,b≠e->h.get? b=some u->h'.get? b=some u)(heo:∃u,h'.get? e=some u):Un fs ex H (upd H x o) h h':=by
 have hx:∀b,H b=none->b≠x:=fun b n z=>by subst z;rw [n]at mu;exact mu
 have hb:∀b,H b=none->b≠e:=fun b n z=>by
  subst z
  rcases he with r|r
  ·exact hx b n r
  ·rw [n]at r;cases r
 have hm:∀b u,H b=some u->¬Mut (some u)->b≠x:=fun b u q nm z=>by subst z;rw [q]at mu;exact nm mu
 refine⟨fun b u q n _ _=>k b u (hb b n) q,fun b u q n _ _=> ⟨u.slots,k b u (hb b n) q⟩,fun b u q n _=>by rw [aQ (hx b n)];exact n,fun b u q _=> ?_,
  fun b xs q=>by rw [aQ (hm b _ q fun z=>z)];exact q,fun b u xs q=>by rw [aQ (hm b _ q fun z=>z)];exact q,fun b ps q=> ⟨#[],by rw [aQ (hm b _ q fun z=>z),q];simp⟩⟩
 by_cases hbe:b=e
 ·subst hbe;exact heo
 ·exact⟨u,k b u hbe q⟩
end
def trk (h:Heap)(H:Hp):List Addr:=(List.range h.objs.size).filter fun a=>(H a).isSome
def gX (h:Heap)(H:Hp):Heap:=W.hideAll h (trk h H)
theorem A5a (h:Heap)(H:Hp):(gX h H).objs.size=h.objs.size:=W.hideAll_size _ _
theorem A9l {h:Heap}{H:Hp}{b:Addr}{o:Obj}(e:h.get? b=some o)(n:H b=none):(gX h H).get? b=some o:=
 W.hideAll_get _ e fun hm=>by
  have q:(H b).isSome=true:=(mem_filter.mp hm).2
  rw [n]at q;simp at q
theorem A0s {h:Heap}{H:Hp}{b:Addr}{o:Obj}(e:(gX h H).get? b=some o):h.get? b=some o/\H b=none:=by
 have e':h.get? b=some o:=W.of_hideAll (trk h H) e
 refine⟨e',?_⟩
 cases q:H b with
 |none=>rfl
 |some x=>
  have hm:b∈trk h H:=mem_filter.mpr ⟨mem_range.mpr (zjT e'),by simp [q]⟩
  have z:(gX h H).get? b=none:=W.hideAll_none (trk h H) hm
  rw [z]at e;cases e
def A6k (g h:Heap)(L:Addr):List (Addr×Obj):=(List.range h.objs.size).filterMap fun a=>if a=L\/(g.get? a).isSome=true then none else(h.get? a).map fun o=>(a,o)
def rest (g h:Heap)(L d:Addr):List (Addr×Obj):=(A6k g h L).filter fun p=>decide (p.1≠d)
structure Mod (K:W.Frag)(mg:Str->Option Value)(base:Heap):Prop where
 kin:K.In base
 glob:base.Ns mainGlobals mg
 blt:∃mb,base.Ns builtinsNs mb/\∀x:Str,x≠ "__name__"->mb x=bootBuiltins x
 nolimit:base.NoLimit
structure Cx where
 prog:Program
 w:World
 K:W.Frag
 mg:Str->Option Value
 base:Heap
 A:Around
 N:List Str
 s₀:Shared
 H₀:Hp
 env:Env
 outer:List Env
 stack:List Env
 ex:List Addr
 fn:Str->Bool
 calm:Bool
 pn:List (Addr×Obj)
 xe:Value->Shared->Prop
def frs (l:List Env):List Addr:=l.filterMap (·.frame)
abbrev Cx.fs (X:Cx):List Addr:=frs X.outer
def Vis (sc:Scope)(x:Str):Prop:=sc.names.lookup x=some .local\/sc.names.lookup x=some .cell\/sc.names.lookup x=some .free
def Loc (sc:Scope)(x:Str):Prop:=sc.names.lookup x=some .local\/sc.names.lookup x=some .cell
def A31 (env:Env)(h:Heap)(m:Str->Option Value)(x:Str)(u:Value):Prop:=
 (env.kindOf x=some .local/\m x=some u)\/((env.kindOf x=some .cell\/env.kindOf x=some .free)/\∃c,env.cells.lookup x=some c/\h.IsCell c (some u))
structure Cx.Ok (X:Cx):Prop where
 mod:Mod X.K X.mg X.base
 kind:X.env.scope.kind= .function
 glob:X.env.globals=mainGlobals
 blt:X.env.builtins=builtinsNs
 above:X.s₀.heap.objs.size<=X.env.locals
 inj:∀x y c,X.env.cells.lookup x=some c->X.env.cells.lookup y=some c->x=y
 has:∀x,(X.env.kindOf x=some .cell\/X.env.kindOf x=some .free)->∃c,X.env.cells.lookup x=some c
 cab:∀x c,X.fn x=true->X.env.cells.lookup x=some c->X.s₀.heap.objs.size<=c
 hd:X.calm=true->X.A.handled=none
 frames:X.A.frames=some X.stack
 stk:X.stack=X.outer\/(X.stack=X.env::X.outer/\X.env.frame=some X.env.locals)
 exf:∀b∈X.ex,b≠X.env.locals/\∀x c,X.env.cells.lookup x=some c->c≠b
 bs:∀b o,X.base.get? b=some o->X.s₀.heap.get? b=some o/\X.H₀ b=none
 bsz:X.base.objs.size<=X.s₀.heap.objs.size
 noex:∀b o,X.base.get? b=some o->b∉X.ex
 exfs:∀b∈X.ex,b∉X.fs
 funs:X.s₀.heap.FunFrames X.base X.outer
 frf:∀b∈X.fs,X.H₀ b=none
structure Inv (X:Cx)(pins:List (Addr×Obj))(σ:List (Option V))(H:Hp)(s:Shared):Prop where
 ok:X.Ok
 os:s.os=X.s₀.os
 bare:AllBare s.gens
 base:Un X.fs X.ex X.H₀ H X.s₀.heap s.heap
 loc:∃m,s.heap.Ns X.env.locals m/\∀(i:Nat)(x:Str)(v:V),X.N[i]?=some x->σ[i]?=some (some v)->Vis X.env.scope x->∃u,RelV v u/\A31 X.env s.heap m x u
 cell:∀x c,X.env.cells.lookup x=some c->∃v,s.heap.IsCell c v
 free:H X.env.locals=none
 freeC:∀x c,X.env.cells.lookup x=some c->H c=none
 pin:∀p∈X.pn++pins,s.heap.get? p.1=some p.2/\H p.1=none/\p.1≠X.env.locals/\p.1∉X.fs/\∀v,p.2.data≠ .cell v
 hok:HOk X.prog X.w H s.heap
 len:σ.length=X.N.length
section
variable {X:Cx}{pins:List (Addr×Obj)}{σ:List (Option V)}{H H':Hp}{s:Shared}{h':Heap}
theorem Cx.Ok.nofr (ok:X.Ok){b:Addr}{o:Obj}(e:X.base.get? b=some o):b∉X.fs:=fun hb=>by
 have:=(ok.funs.mem hb).1
 rw [e]at this;cases this
theorem Inv.bs (I:Inv X pins σ H s):∀b o,X.base.get? b=some o->s.heap.get? b=some o/\H b=none:=fun b o e=>
 ⟨I.base.keep b o (I.ok.bs b o e).1 (I.ok.bs b o e).2 (I.ok.nofr e) (I.ok.noex b o e),I.base.free b o (I.ok.bs b o e).1 (I.ok.bs b o e).2 (I.ok.noex b o e)⟩
theorem Inv.bk (I:Inv X pins σ H s):∀b o,X.base.get? b=some o->s.heap.get? b=some o:=fun b o e=>(I.bs b o e).1
theorem Inv.mod (I:Inv X pins σ H s):Mod X.K X.mg X.base:=I.ok.mod
theorem Inv.kIn (I:Inv X pins σ H s):X.K.In s.heap:=I.ok.mod.kin.keeps I.bk
theorem Inv.lt (I:Inv X pins σ H s):X.env.locals<s.heap.objs.size:=let ⟨_,hn,_⟩:=I.loc;hn.lt
theorem Inv.sz (I:Inv X pins σ H s):X.s₀.heap.objs.size<=s.heap.objs.size:=le_trans I.ok.above (le_of_lt I.lt)
theorem Inv.nofs (I:Inv X pins σ H s){a:Addr}(h:s.heap.objs.size<=a):a∉X.fs:=fun hb=>by
 obtain⟨_,o,ho,_⟩:=I.ok.funs.mem hb
 exact absurd (lt_of_lt_of_le (zjT ho) (le_trans I.sz h)) (lt_irrefl _)
theorem Inv.cne (I:Inv X pins σ H s):∀x c,X.env.cells.lookup x=some c->c≠X.env.locals:=fun x c e z=>by
 obtain⟨v,o,ho,hd⟩:=I.cell x c e
 obtain⟨m,⟨o',es,ep,ho',hd',_⟩,_⟩:=I.loc
 rw [z,ho']at ho;cases ho;rw [hd']at hd;cases hd
theorem Inv.funs (I:Inv X pins σ H s):s.heap.FunFrames X.base X.outer:=by
 have all:∀(l:List Env),(∀b∈frs l,b∈X.fs)->X.s₀.heap.FunFrames X.base l->s.heap.FunFrames X.base l:=by
  intro l
  induction l with
  |nil=>intro _ _;trivial
  |cons env r ih=>
   intro hs hl
   obtain⟨hk,⟨L,o,hf,hn,ho,hd⟩,hr⟩:=hl
   have hL:L∈X.fs:=hs L (by unfold frs;rw [filterMap_cons,hf];exact zjR)
   obtain⟨sl,e⟩:=I.base.slot L o ho (I.ok.frf L hL) hL fun z=>I.ok.exfs L z hL
   exact⟨hk,⟨L,_,hf,hn,e,hd⟩,ih (fun b hb=>hs b (by unfold frs;rw [filterMap_cons,hf];exact zjS _ hb)) hr⟩
 exact all X.outer (fun _ hb=>hb) I.ok.funs
theorem Inv.stack (I:Inv X pins σ H s):s.heap.FunFrames X.base X.stack:=by
 rcases I.ok.stk with e| ⟨e,hf⟩
 ·rw [e];exact I.funs
 ·rw [e]
  obtain⟨m,hn,_⟩:=I.loc
  refine .cons (by rw [I.ok.kind];decide) hf hn ?_ I.funs
  exact Heap.get?_none_of_le (le_trans I.ok.bsz I.ok.above)
theorem Inv.stkSub (I:Inv X pins σ H s):∀b∈frs X.stack,b∈X.env.locals::X.fs:=fun b hb=>by
 rcases I.ok.stk with e| ⟨e,hf⟩
 ·rw [e]at hb;exact zjS _ hb
 ·rw [e]at hb
  unfold frs at hb
  rw [filterMap_cons,hf]at hb
  exact hb
theorem Inv.stkFree (I:Inv X pins σ H s):∀b∈frs X.stack,H b=none:=fun b hb=>by
 rcases mem_cons.mp (I.stkSub b hb)with e|hb
 ·rw [e];exact I.free
 ·obtain⟨_,o,ho,_⟩:=I.ok.funs.mem hb
  exact I.base.free b o ho (I.ok.frf b hb) fun z=>I.ok.exfs b z hb
theorem Inv.step {g':Array GenState}{t':Nat}{d':Drawn}{ch:List Addr}(I:Inv X pins σ H s)
  (hch:∀b∈ch,(b∈X.ex\/X.s₀.heap.objs.size<=b)/\b≠X.env.locals/\(∀x c,X.env.cells.lookup x=some c->c≠b)/\∀p∈X.pn++pins,p.1≠b)
  (keep:∀b o,b≠X.env.locals->b∉X.fs->b∉ch->s.heap.get? b=some o->H b=none->h'.get? b=some o)
  (slot:∀b o,b≠X.env.locals->b∈X.fs->b∉ch->s.heap.get? b=some o->H b=none->∃sl,h'.get? b=some {o with slots:=sl})(free:∀b o,b∉ch->s.heap.get? b=some o->H b=none->H' b=none)
  (there:∀b o,b∉ch->s.heap.get? b=some o->∃o',h'.get? b=some o')
  (tups:∀b xs,H b=some (.tup xs)->H' b=some (.tup xs))(frzs:∀b o u,H b=some (.frz o u)->H' b=some (.frz o u))(tbls:∀b ps,H b=some (.tbl ps)->∃more,H' b=some (.tbl (ps++more)))
  (ns:∀m,s.heap.Ns X.env.locals m->h'.Ns X.env.locals m)(hok:HOk X.prog X.w H' h')(hg:AllBare g'):
  Inv X pins σ H' {s with heap:=h',gens:=g',drawn:=d',toks:=t'}:=by
 have neL:∀b o,X.s₀.heap.get? b=some o->b≠X.env.locals:=fun b o e=>ne_of_lt (lt_of_lt_of_le (zjT e) I.ok.above)
 have neC:∀b o,X.s₀.heap.get? b=some o->b∉X.ex->b∉ch:=fun b o e hx hb=>by
  rcases(hch b hb).1 with z|z
  ·exact hx z
  ·exact absurd (lt_of_lt_of_le (zjT e) z) (lt_irrefl _)
 have cellK:∀x c,X.env.cells.lookup x=some c->∀v,s.heap.IsCell c v->h'.IsCell c v:=fun x c e v ⟨o,ho,hd⟩=>by
  have nch:c∉ch:=fun z=>(hch c z).2.2.1 x c e rfl
  by_cases hc:c∈X.fs
  ·obtain⟨sl,q⟩:=slot c o (I.cne x c e) hc nch ho (I.freeC x c e)
   exact⟨_,q,hd⟩
  ·exact⟨o,keep c o (I.cne x c e) hc nch ho (I.freeC x c e),hd⟩
 refine⟨I.ok,I.os,hg,⟨fun b o e n hb hx=> ?_,fun b o e n hb hx=> ?_,fun b o e n hx=> ?_,fun b o e hx=> ?_,fun b xs e=>tups b xs (I.base.tups b xs e),fun b o xs e=>frzs b o xs (I.base.frzs b o xs e),fun b ps e=> ?_⟩,?_,fun x c e=> ?_,?_,fun x c e=> ?_,fun p hp=> ?_,hok,I.len⟩
 ·exact keep b o (neL b o e) hb (neC b o e hx) (I.base.keep b o e n hb hx) (I.base.free b o e n hx)
 ·obtain⟨sl,e1⟩:=I.base.slot b o e n hb hx
  obtain⟨sl',e2⟩:=slot b _ (neL b o e) hb (neC b o e hx) e1 (I.base.free b o e n hx)
  exact⟨sl',e2⟩
 ·obtain⟨o',e1⟩:=I.base.there b o e hx
  exact free b o' (neC b o e hx) e1 (I.base.free b o e n hx)
 ·obtain⟨o',e1⟩:=I.base.there b o e hx
  exact there b o' (neC b o e hx) e1
 ·obtain⟨m1,e1⟩:=I.base.tbls b ps e
  obtain⟨m2,e2⟩:=tbls b _ e1
  exact⟨m1++m2,by rw [e2,Array.append_assoc]⟩
 ·obtain⟨m,hn,hl⟩:=I.loc
  refine⟨m,ns m hn,fun i x v e1 e2 e3=> ?_⟩
  obtain⟨u,r,l⟩:=hl i x v e1 e2 e3
  refine⟨u,r,?_⟩
  rcases l with l| ⟨k,c,e,z⟩
  ·exact .inl l
  ·exact .inr ⟨k,c,e,cellK x c e _ z⟩
 ·obtain⟨v,z⟩:=I.cell x c e
  exact⟨v,cellK x c e v z⟩
 ·obtain⟨m,⟨o,_,_,ho,_⟩,_⟩:=I.loc
  exact free _ o (fun z=>(hch _ z).2.1 rfl) ho I.free
 ·obtain⟨v,o,ho,hd⟩:=I.cell x c e
  exact free c o (fun z=>(hch c z).2.2.1 x c e rfl) ho (I.freeC x c e)
 ·obtain⟨e,n,ne,nf,d⟩:=I.pin p hp
  have nch:p.1∉ch:=fun z=>(hch p.1 z).2.2.2 p hp rfl
  exact⟨keep p.1 p.2 ne nf nch e n,free p.1 p.2 nch e n,ne,nf,d⟩
theorem Inv.un {t':Nat}(I:Inv X pins σ H s)(u:Un X.fs [] H H' s.heap h')(hok:HOk X.prog X.w H' h'):Inv X pins σ H' {s with heap:=h',toks:=t'}:=by
 obtain⟨m,⟨o,es,ep,ho,r⟩,_⟩:=id I.loc
 obtain⟨sl,hL⟩:=u.any ho I.free (by simp)
 exact I.step (g':=s.gens) (d':=s.drawn) (ch:=[]) (fun _ z=>nomatch z) (fun b o _ hb _ e n=>u.keep b o e n hb (by simp)) (fun b o _ hb _ e n=>u.slot b o e n hb (by simp)) (fun b o _ e n=>u.free b o e n (by simp)) (fun b o _ e=>u.there b o e (by simp)) u.tups u.frzs u.tbls (fun m' hm=>by
  obtain⟨o',es',ep',ho',r'⟩:=hm
  rw [ho]at ho';cases ho'
  exact⟨_,es',ep',hL,r'⟩) hok I.bare
theorem Inv.call {g':Array GenState}{t':Nat}{d':Drawn}{ch:List Addr}(I:Inv X pins σ H s)(u:Un (frs X.stack) ch H H' s.heap h')(hok:HOk X.prog X.w H' h')(hg:AllBare g')
  (hch:∀b∈ch,(b∈X.ex\/X.s₀.heap.objs.size<=b)/\b≠X.env.locals/\(∀x c,X.env.cells.lookup x=some c->c≠b)/\∀p∈X.pn++pins,p.1≠b):
  Inv X pins σ H' {s with heap:=h',gens:=g',drawn:=d',toks:=t'}:=by
 obtain⟨m,⟨o,es,ep,ho,r⟩,_⟩:=id I.loc
 obtain⟨sl,hL⟩:=u.any ho I.free fun z=>(hch _ z).2.1 rfl
 exact I.step (ch:=ch) hch (fun b o hL hb hc e n=>u.keep b o e n (fun z=>(mem_cons.mp (I.stkSub b z)).elim hL hb) hc) (fun b o _ _ hc e n=>u.any e n hc) (fun b o hc e n=>u.free b o e n hc) (fun b o hc e=>u.there b o e hc) u.tups u.frzs u.tbls (fun m' hm=>by
  obtain⟨o',es',ep',ho',r'⟩:=hm
  rw [ho]at ho';cases ho'
  exact⟨_,es',ep',hL,r'⟩) hok hg
theorem Inv.turned {t':Nat}{it:Addr}(I:Inv X pins σ H s)(k:∀b o,b≠it->s.heap.get? b=some o->h'.get? b=some o)(hn:H it=none)(hL:it≠X.env.locals)
  (h1:it∈X.ex\/X.s₀.heap.objs.size<=it)(h2:∀x c,X.env.cells.lookup x=some c->c≠it)(h3:∀p∈X.pn++pins,p.1≠it):Inv X pins σ H {s with heap:=h',toks:=t'}:=by
 have nit:∀b u,H b=some u->b≠it:=fun b u e z=>by rw [z,hn]at e;cases e
 refine I.step (g':=s.gens) (d':=s.drawn) (ch:=[it]) (fun b hb=> ?_) (fun b o _ _ hc e _=>k b o (fun z=>hc (by simp [z])) e) (fun b o _ _ hc e _=> ⟨o.slots,k b o (fun z=>hc (by simp [z])) e⟩) (fun _ _ _ _ n=>n)
  (fun b o hc e=> ⟨o,k b o (fun z=>hc (by simp [z])) e⟩) (fun _ _ e=>e) (fun _ _ _ e=>e) (fun b ps e=> ⟨#[],by rw [e];simp⟩) (fun m hm=> ?_) (fun b u e=> ?_) I.bare
 ·have e:b=it:=by simpa using hb
  subst e
  exact⟨h1,hL,h2,h3⟩
 ·obtain⟨o,es,ep,ho,r⟩:=hm
  exact⟨o,es,ep,k _ o (Ne.symm hL) ho,r⟩
 ·refine(I.hok b u e).stay (fun c v hc q=>k c v ?_ q) (fun _ q=>q) fun _ _ q=>q
  rcases hc with z|z
  ·rw [z];exact nit b u e
  ·exact nit c _ z
theorem Inv.tok (I:Inv X pins σ H s)(t:Nat):Inv X pins σ H {s with toks:=t}:=I.un (h':=s.heap) (t':=t) Un.refl I.hok
theorem Inv.kept {t':Nat}(I:Inv X pins σ H s)(k:∀b u,s.heap.get? b=some u->h'.get? b=some u):Inv X pins σ H {s with heap:=h',toks:=t'}:=I.un (Un.kept k) (I.hok.kept k)
theorem Inv.laid {a:Addr}{o:HO}{t':Nat}(I:Inv X pins σ H s)(k:∀b u,s.heap.get? b=some u->h'.get? b=some u)(hp:s.heap.objs.size<=a)(new:ObjOk X.prog X.w (upd H a o) h' a o):
  Inv X pins σ (upd H a o) {s with heap:=h',toks:=t'}:=I.un (Un.laid k hp (I.hok.fresh hp)) (I.hok.laid k hp new)
theorem Inv.write {x e:Addr}{o:HO}{t':Nat}(I:Inv X pins σ H s)(mu:Mut (H x))(he:e=x\/H e=some (.own x))(k:∀b u,b≠e->s.heap.get? b=some u->h'.get? b=some u)(heo:∃u,h'.get? e=some u)
  (new:ObjOk X.prog X.w (upd H x o) h' x o):Inv X pins σ (upd H x o) {s with heap:=h',toks:=t'}:=I.un (Un.write mu he k heo) (I.hok.write mu he k heo new)
theorem Inv.weak {σ':List (Option V)}(I:Inv X pins σ H s)(hl:σ'.length=σ.length)(w:∀(i:Nat) v,σ'[i]?=some (some v)->σ[i]?=some (some v)):Inv X pins σ' H s:=
 ⟨I.ok,I.os,I.bare,I.base,let ⟨m,hn,hl'⟩:=I.loc;⟨m,hn,fun i x v e1 e2 e3=>hl' i x v e1 (w i v e2) e3⟩,I.cell,I.free,I.freeC,I.pin,I.hok,hl.trans I.len⟩
theorem Inv.pins_of {pins':List (Addr×Obj)}(I:Inv X pins σ H s)(h:∀p∈pins',s.heap.get? p.1=some p.2/\H p.1=none/\p.1≠X.env.locals/\p.1∉X.fs/\∀v,p.2.data≠ .cell v):Inv X pins' σ H s:=
 ⟨I.ok,I.os,I.bare,I.base,I.loc,I.cell,I.free,I.freeC,fun p hp=>(mem_append.mp hp).elim (fun z=>I.pin p (mem_append_left _ z)) (h p),I.hok,I.len⟩
theorem uF {N:List Str}(hN:N.Nodup){i j:Nat}{x:Str}(a:N[i]?=some x)(b:N[j]?=some x):i=j:=by
 obtain⟨h1,e1⟩:=zjW.mp a
 obtain⟨h2,e2⟩:=zjW.mp b
 exact(getElem_inj hN).mp (e1.trans e2.symm)
theorem zB {M:Model}{A:Around}{E:Value->Shared->Prop}{i:Nat}{x:Str}{v:V}{u:Value}{Q:Unit->Shared->Prop}(I:Inv X pins σ H s)(hN:X.N.Nodup)(hi:X.N[i]?=some x)(hx:Loc X.env.scope x)(r:RelV v u)
  (h:∀s',Inv X pins (σ.set i (some v)) H s'->(∃a,Heap.SameBut a s.heap s'.heap/\(a=X.env.locals\/X.env.cells.lookup x=some a))->Q () s')(hf:X.fn x=true\/X.env.scope.names.lookup x=some .local:=by first|exact .inl rfl|exact .inr rfl|assumption):wpAny M A (storeName X.env x u) Q E s:=by
 obtain⟨m,hn,hl⟩:=id I.loc
 have hcls:(X.env.scope.kind== .class|| (X.env.scope.kind== .module&&X.env.locals !=X.env.globals))=false:=by rw [I.ok.kind];rfl
 have hiσ:i<σ.length:=by rw [I.len];exact(zjW.mp hi).1
 have cne:=I.cne
 have tracked:∀{a:Addr}{h':Heap},(∃o,s.heap.get? a=some o/\H a=none)->Heap.SameBut a s.heap h'->HOk X.prog X.w H h':=fun{a h'} ha hs b ob e=>by
  obtain⟨_,_,hfree⟩:=ha
  refine(I.hok b ob e).stay (fun c w' hc q=>(hs.2 c ?_).trans q) (fun _ q=>q) fun _ _ q=>q
  rintro rfl
  rcases hc with rfl|hc
  ·rw [hfree]at e;cases e
  ·rw [hfree]at hc;cases hc
 rcases hx with hk|hk
 ·refine wpAny_storeName_local hk hn (fun h' hn' hs=> ?_) hcls
  obtain⟨oL,_,_,hoL,_⟩:=id hn
  refine h _ ⟨I.ok,I.os,I.bare,⟨fun b o e n hb hx=> ?_,fun b o e n hb hx=> ?_,I.base.free,fun b o e hx=> ?_,I.base.tups,I.base.frzs,I.base.tbls⟩,⟨_,hn',fun j y v' e1 e2 e3=> ?_⟩,fun y c e=> ?_,I.free,I.freeC,fun p hp=> ?_,tracked ⟨oL,hoL,I.free⟩ hs,by simpa using I.len⟩ ⟨_,hs,.inl rfl⟩
  ·exact(hs.2 b (ne_of_lt (lt_of_lt_of_le (zjT e) I.ok.above))).trans (I.base.keep b o e n hb hx)
  ·obtain⟨sl,e1⟩:=I.base.slot b o e n hb hx
   exact⟨sl,(hs.2 b (ne_of_lt (lt_of_lt_of_le (zjT e) I.ok.above))).trans e1⟩
  ·obtain⟨o',e1⟩:=I.base.there b o e hx
   exact⟨o',(hs.2 b (ne_of_lt (lt_of_lt_of_le (zjT e) I.ok.above))).trans e1⟩
  ·by_cases hj:j=i
   ·subst hj
    rw [hi]at e1;cases e1
    rw [List.getElem?_set_self hiσ]at e2
    cases e2
    exact⟨u,r,.inl ⟨hk,by simp⟩⟩
   ·rw [List.getElem?_set_ne (Ne.symm hj)]at e2
    obtain⟨u',r',q⟩:=hl j y v' e1 e2 e3
    refine⟨u',r',?_⟩
    rcases q with⟨k,e⟩| ⟨k,c,e,z⟩
    ·refine .inl ⟨k,?_⟩
     have:y≠x:=fun e=>hj (uF hN e1 (e▸hi))
     simp [this,e]
    ·exact .inr ⟨k,c,e,z.sameBut hs (cne y c e)⟩
  ·obtain⟨w',z⟩:=I.cell y c e
   exact⟨w',z.sameBut hs (cne y c e)⟩
  ·obtain⟨e,n,ne,nf,d⟩:=I.pin p hp
   exact⟨(hs.2 p.1 ne).trans e,n,ne,nf,d⟩
 ·have hfn:X.fn x=true:=by
   rcases hf with z|z
   ·exact z
   ·rw [z]at hk;cases hk
  obtain⟨c,hc⟩:=I.ok.has x (.inl hk)
  obtain⟨w',z⟩:=I.cell x c hc
  refine wpAny_storeName_cell I.ok.kind hk hc z (fun h' hc' hs=> ?_)
  obtain⟨oc,hoc,hocd⟩:=id z
  refine h {s with heap:=h'} ⟨I.ok,I.os,I.bare,⟨fun b o e n hb hx=> ?_,fun b o e n hb hx=> ?_,I.base.free,fun b o e hx=> ?_,I.base.tups,I.base.frzs,I.base.tbls⟩,⟨m,hn.sameBut hs (Ne.symm (cne x c hc)),fun j y v' e1 e2 e3=> ?_⟩,fun y c' e=> ?_,I.free,I.freeC,fun p hp=> ?_,tracked ⟨oc,hoc,I.freeC x c hc⟩ hs,by simpa using I.len⟩ ⟨c,hs,.inr hc⟩
  ·exact(hs.2 b (ne_of_lt (lt_of_lt_of_le (zjT e) (I.ok.cab x c hfn hc)))).trans (I.base.keep b o e n hb hx)
  ·obtain⟨sl,e1⟩:=I.base.slot b o e n hb hx
   exact⟨sl,(hs.2 b (ne_of_lt (lt_of_lt_of_le (zjT e) (I.ok.cab x c hfn hc)))).trans e1⟩
  ·obtain⟨o',e1⟩:=I.base.there b o e hx
   exact⟨o',(hs.2 b (ne_of_lt (lt_of_lt_of_le (zjT e) (I.ok.cab x c hfn hc)))).trans e1⟩
  ·by_cases hj:j=i
   ·subst hj
    rw [hi]at e1;cases e1
    rw [List.getElem?_set_self hiσ]at e2
    cases e2
    exact⟨u,r,.inr ⟨.inl hk,c,hc,hc'⟩⟩
   ·rw [List.getElem?_set_ne (Ne.symm hj)]at e2
    obtain⟨u',r',q⟩:=hl j y v' e1 e2 e3
    refine⟨u',r',?_⟩
    rcases q with q| ⟨k,c',e,z'⟩
    ·exact .inl q
    ·refine .inr ⟨k,c',e,z'.sameBut hs ?_⟩
     rintro rfl
     exact hj (uF hN e1 (I.ok.inj _ _ _ e hc▸hi))
  ·by_cases hcc:c'=c
   ·subst hcc;exact⟨_,hc'⟩
   ·obtain⟨w2,z2⟩:=I.cell y c' e
    exact⟨w2,z2.sameBut hs hcc⟩
  ·obtain⟨e,n,ne,nf,d⟩:=I.pin p hp
   refine⟨(hs.2 p.1 ?_).trans e,n,ne,nf,d⟩
   intro q
   rw [q,hoc]at e
   have q':oc=p.2:=Option.some.inj e
   exact d w' (by rw [←q'];exact hocd)
theorem iX {M:Model}{A:Around}{E:Value->Shared->Prop}{i:Nat}{x:Str}{v:V}{u:Value}{Q:Unit->Shared->Prop}(I:Inv X pins σ H s)(hN:X.N.Nodup)(hi:X.N[i]?=some x)(hx:Loc X.env.scope x)(r:RelV v u)
  (h:∀s',Inv X pins (σ.set i (some v)) H s'->Q () s')(hf:X.fn x=true\/X.env.scope.names.lookup x=some .local:=by first|exact .inl rfl|exact .inr rfl|assumption):wpAny M A (storeName X.env x u) Q E s:=
 zB I hN hi hx r (fun s' I' _=>h s' I') hf
theorem Inv.call' {s':Shared}{ch:List Addr}(I:Inv X pins σ H s)(ho:s'.os=s.os)(u:Un (frs X.stack) ch H H' s.heap s'.heap)(hok:HOk X.prog X.w H' s'.heap)(hg:AllBare s'.gens)
  (hch:∀b∈ch,(b∈X.ex\/X.s₀.heap.objs.size<=b)/\b≠X.env.locals/\(∀x c,X.env.cells.lookup x=some c->c≠b)/\∀p∈X.pn++pins,p.1≠b):Inv X pins σ H' s':=by
 obtain⟨h',g',d',t',o'⟩:=s'
 have e:o'=s.os:=ho
 subst e
 exact I.call (g':=g') (t':=t') (d':=d') u hok hg hch
end
abbrev XK:=Value->Option Addr->Hp->Prop
abbrev St:=List (Option V)
abbrev VK:=V->Hp->Prop
abbrev TE:=St->Hp->VK->Prop
abbrev TT:=St->Hp->(Bool->Hp->Prop)->Prop
abbrev TA:=St->Hp->(List V->Hp->Prop)->Prop
structure bK where
 nx:St->Hp->Prop
 rt:VK
 bk:St->Hp->Prop:=fun _ _=>False
 ct:St->Hp->Prop:=fun _ _=>False
abbrev TS:=bK->St->Hp->Prop
def EP (X:Cx)(pins:List (Addr×Obj))(σ:St)(Q:VK)(u:Value)(s':Shared):Prop:=∃v H',Inv X pins σ H' s'/\RelV v u/\Q v H'
def TP (X:Cx)(pins:List (Addr×Obj))(σ:St)(Q:Bool->Hp->Prop)(b:Bool)(s':Shared):Prop:=∃H',Inv X pins σ H' s'/\Q b H'
def AP (X:Cx)(pins:List (Addr×Obj))(σ:St)(Q:List V->Hp->Prop)(us:List Value)(s':Shared):Prop:=∃vs H',Inv X pins σ H' s'/\Vals vs us/\Q vs H'
def SP (X:Cx)(pins:List (Addr×Obj))(D:bK)(f:Flow)(s':Shared):Prop:=
 match f with
 | .next=> ∃σ' H',Inv X pins σ' H' s'/\D.nx σ' H'
 | .brk=> ∃σ' H',Inv X pins σ' H' s'/\D.bk σ' H'
 | .cont=> ∃σ' H',Inv X pins σ' H' s'/\D.ct σ' H'
 | .ret u=> ∃v σ' H',Inv X pins σ' H' s'/\RelV v u/\D.rt v H'
def PE (X:Cx)(e:Expr)(t:TE):Prop:=
 ∀(pins:List (Addr×Obj))(s:Shared)(σ:St)(H:Hp)(Q:VK),Inv X pins σ H s->t σ H Q->wpAny (model X.prog X.w) X.A (eval e X.env) (EP X pins σ Q) X.xe s
def PT (X:Cx)(e:Expr)(t:TT):Prop:=
 ∀(pins:List (Addr×Obj))(s:Shared)(σ:St)(H:Hp)(Q:Bool->Hp->Prop),Inv X pins σ H s->t σ H Q->wpAny (model X.prog X.w) X.A (isTrue e X.env (eval e X.env)) (TP X pins σ Q) X.xe s
def PW (X:Cx)(e:Expr)(t:TT):Prop:=
 ∀(whole:Sem Value)(pins:List (Addr×Obj))(s:Shared)(σ:St)(H:Hp)(Q:Bool->Hp->Prop),Inv X pins σ H s->t σ H Q->wpAny (model X.prog X.w) X.A (isTrue e X.env whole) (TP X pins σ Q) X.xe s
theorem PW.pt {X:Cx}{e:Expr}{t:TT}(h:PW X e t):PT X e t:=h _
def PA (X:Cx)(es:List Expr)(t:TA):Prop:=
 ∀(pos:Pos)(pins:List (Addr×Obj))(s:Shared)(σ:St)(H:Hp)(Q:List V->Hp->Prop),Inv X pins σ H s->t σ H Q->wpAny (model X.prog X.w) X.A (spliced (backTo pos (starEach es X.env))) (AP X pins σ Q) X.xe s
def PS (X:Cx)(st:Stmt)(t:TS):Prop:=
 ∀(pins:List (Addr×Obj))(s:Shared)(σ:St)(H:Hp)(D:bK),Inv X pins σ H s->t D σ H->wpAny (model X.prog X.w) X.A (exec st X.env) (SP X pins D) X.xe s
def PSs (X:Cx)(st:List Stmt)(t:TS):Prop:=
 ∀(pins:List (Addr×Obj))(s:Shared)(σ:St)(H:Hp)(D:bK),Inv X pins σ H s->t D σ H->wpAny (model X.prog X.w) X.A (execs st X.env) (SP X pins D) X.xe s
theorem thn {α:Type}{t:Sem α}{Q Q':α->Shared->Prop}{M:Model}{A:Around}{E:Value->Shared->Prop}{s:Shared}(h:wpAny M A t Q E s)(hQ:∀a s,Q a s->Q' a s):wpAny M A t Q' E s:=wpAny_mono h hQ fun _ _ x=>x
section
variable {X:Cx}
def eL (i:Nat):TE:=fun σ H Q=> ∃v,σ[i]?=some (some v)/\Q v H
def tC (v:V):TE:=fun _ H Q=>Q v H
theorem xZ {i:Nat}{x:Str}{pos:Pos}(hN:X.N[i]?=some x)(hv:Vis X.env.scope x)(hd:(x==("__debug__":Str))=false:=by decide)(hcd:(x==("__classdict__":Str))=false:=by decide):PE X (.Name x pos) (eL i):=by
 intro pins s σ H Q I h
 obtain⟨v,e,h⟩:=h
 obtain⟨m,hn,hl⟩:=I.loc
 obtain⟨u,r,l⟩:=hl i x v hN e hv
 have fin:EP X pins σ Q u s:=⟨v,H,I,r,h⟩
 rcases l with⟨hk,hm⟩| ⟨hk,c,hc,hcell⟩
 ·exact wpAny_Name (wpAny_loadName_local I.ok.kind hk hn hm fin) hd
 ·rcases hk with hk|hk
  ·exact wpAny_Name (wpAny_loadName_cell I.ok.kind hk hc hcell fin) hd
  ·exact wpAny_Name (wpAny_loadName_free I.ok.kind hk hc hcell fin hcd) hd
theorem aH {i j pos}:PE X (.Constant (.int i) j pos) (tC (.int i)):=fun _ _ _ H _ I h=>wpAny_Constant_int ⟨.int i,H,I.tok _,⟨_,rfl⟩,h⟩
theorem cT {b j pos}:PE X (.Constant (.bool b) j pos) (tC (.bl b)):=fun _ _ _ H _ I h=>Constant_bool ⟨.bl b,H,I,rfl,h⟩
theorem pW {j pos}:PE X (.Constant .none j pos) (tC .non):=fun _ _ _ H _ I h=>Constant_none ⟨.non,H,I,rfl,h⟩
theorem iI {x j pos}:PE X (.Constant (.str x) j pos) (tC (.str x)):=fun _ _ _ H _ I h=>Calls.Constant_str ⟨.str x,H,I.tok _,⟨_,rfl⟩,h⟩
def Gl (X:Cx)(x:Str):Prop:=X.env.kindOf x=some .globalImplicit
theorem mG {E:Value->Shared->Prop}{pins:List (Addr×Obj)}{s:Shared}{σ:St}{H:Hp}{x:Str}{u:Value}{pos:Pos}{Q:Value->Shared->Prop}(I:Inv X pins σ H s)(hg:Gl X x)(hm:X.mg x=some u)(h:Q u s)
  (hd:(x==("__debug__":Str))=false:=by decide):wpAny (model X.prog X.w) X.A (eval (.Name x pos) X.env) Q E s:=
 Calls.Name_function_global I.ok.kind hg (Calls.loadGlobal_global (by rw [I.ok.glob];exact I.mod.glob.keeps I.bk) hm h) hd
theorem iZ {E:Value->Shared->Prop}{pins:List (Addr×Obj)}{s:Shared}{σ:St}{H:Hp}{x:Str}{u:Value}{pos:Pos}{Q:Value->Shared->Prop}(I:Inv X pins σ H s)(hg:Gl X x)(hm:X.mg x=none)(hv:bootBuiltins x=some u)(h:Q u s)
  (hn:x≠ "__name__":=by decide)(hd:(x==("__debug__":Str))=false:=by decide):wpAny (model X.prog X.w) X.A (eval (.Name x pos) X.env) Q E s:=by
 obtain⟨mb,h1,h2⟩:=I.mod.blt
 exact Calls.Name_function_global I.ok.kind hg (Calls.loadGlobal_builtin (by rw [I.ok.glob];exact I.mod.glob.keeps I.bk) hm (by rw [I.ok.blt];exact h1.keeps I.bk) ((h2 x hn).trans hv) h) hd
theorem iM {x:Str}{v:V}{u:Value}{pos:Pos}(hg:Gl X x)(hm:X.mg x=some u)(r:RelV v u)(hd:(x==("__debug__":Str))=false:=by decide):PE X (.Name x pos) (tC v):=
 fun _ _ _ H _ I h=>mG I hg hm ⟨v,H,I,r,h⟩ hd
theorem dQ {x:Str}{v:V}{u:Value}{pos:Pos}(hg:Gl X x)(hm:X.mg x=none)(hv:bootBuiltins x=some u)(r:RelV v u)(hn:x≠ "__name__":=by decide)(hd:(x==("__debug__":Str))=false:=by decide):PE X (.Name x pos) (tC v):=
 fun _ _ _ H _ I h=>iZ I hg hm hv ⟨v,H,I,r,h⟩ hn hd
variable {a b:Expr}{ta tb:TE}{pos:Pos}
def tB (t:TE):TT:=fun σ H Q=>t σ H fun x H1=> ∃c,x= .bl c/\Q c H1
theorem cS {e:Expr}{t:TE}(h:PE X e t)(he:∀whole,isTrue e X.env whole=(do let v←whole;standAt e.pos;holding [v] (truthy v)):=by intro _;rfl):PT X e (tB t):=by
 intro pins s σ H Q I hw
 refine isTrue_plain (thn (h pins s σ H _ I hw) fun v s1 ⟨x,H1,I1,r1,q1⟩=> ?_) (he _)
 obtain⟨d,rfl,q⟩:=q1
 cases r1
 exact wpAny_truthy_bool ⟨H1,I1,q⟩
variable {tA tB':TT}{rest:List Expr}
def A7b (t u:TT):TT:=fun σ H Q=>t σ H fun c H1=>if c=true then u σ H1 Q else Q false H1
def tOr (t u:TT):TT:=fun σ H Q=>t σ H fun c H1=>if c=true then Q true H1 else u σ H1 Q
def A62 (t:TT):TT:=fun σ H Q=>t σ H fun c H1=>Q (!c) H1
theorem iS (ha:PT X a tA):PW X (.BoolOp .And [a] pos) tA:=by
 intro wh pins s σ H Q I h
 refine isTrue_and (thn (ha pins s σ H Q I h) fun c s1 e=> ?_)
 cases c with
 |true=>exact isTrue_and_nil e
 |false=>exact e
theorem iP (ha:PT X a tA):PW X (.BoolOp .Or [a] pos) tA:=by
 intro wh pins s σ H Q I h
 refine isTrue_or (thn (ha pins s σ H Q I h) fun c s1 e=> ?_)
 cases c with
 |false=>exact isTrue_or_nil e
 |true=>exact e
theorem jC (ha:PT X a tA)(hb:PW X (.BoolOp .And (b::rest) pos) tB'):PW X (.BoolOp .And (a::b::rest) pos) (A7b tA tB'):=by
 intro wh pins s σ H Q I h
 refine isTrue_and (thn (ha pins s σ H _ I h) fun c s1 ⟨H1,I1,q1⟩=> ?_)
 cases c with
 |true=>exact hb wh pins s1 σ H1 Q I1 q1
 |false=>exact⟨H1,I1,q1⟩
theorem fU (ha:PT X a tA)(hb:PW X (.BoolOp .Or (b::rest) pos) tB'):PW X (.BoolOp .Or (a::b::rest) pos) (tOr tA tB'):=by
 intro wh pins s σ H Q I h
 refine isTrue_or (thn (ha pins s σ H _ I h) fun c s1 ⟨H1,I1,q1⟩=> ?_)
 cases c with
 |true=>exact⟨H1,I1,q1⟩
 |false=>exact hb wh pins s1 σ H1 Q I1 q1
theorem cQ (ha:PT X a tA):PT X (.UnaryOp .Not a pos) (A62 tA):=by
 intro pins s σ H Q I h
 exact isTrue_not (ha pins s σ H (fun c H1=>Q (!c) H1) I h)
def A5m (ta tb:TE):TE:=fun σ H Q=>ta σ H fun x H1=> ∃c,x= .bl c/\if c=true then tb σ H1 Q else Q (.bl false) H1
def A4g (ta:TE):TE:=fun σ H Q=>ta σ H fun x H1=> ∃c,x= .bl c/\Q (.bl (!c)) H1
theorem pH {op}{t:TE}(h:PE X a t):PE X (.BoolOp op [a] pos) t:=fun pins s σ H Q I hw=>BoolOp_one (h pins s σ H Q I hw)
theorem nX (ha:PE X a ta)(hb:PE X (.BoolOp .And (b::rest) pos) tb):PE X (.BoolOp .And (a::b::rest) pos) (A5m ta tb):=by
 intro pins s σ H Q I h
 refine BoolOp_and (thn (ha pins s σ H _ I h) fun v s1 ⟨x,H1,I1,r1,q1⟩=> ?_)
 obtain⟨c,rfl,q1⟩:=q1
 cases r1
 refine wpAny_truthy_bool ?_
 cases c with
 |true=>exact hb pins s1 σ H1 Q I1 q1
 |false=>exact⟨.bl false,H1,I1,rfl,q1⟩
theorem A8v (ha:PE X a ta):PE X (.UnaryOp .Not a pos) (A4g ta):=by
 intro pins s σ H Q I h
 refine UnaryOp_ (thn (ha pins s σ H _ I h) fun v s1 ⟨x,H1,I1,r1,q1⟩=> ?_)
 obtain⟨c,rfl,q1⟩:=q1
 cases r1
 exact not_of (wpAny_truthy_bool ⟨.bl (!c),H1,I1,rfl,q1⟩)
def tIf (t:TT)(ta tb:TE):TE:=fun σ H Q=>t σ H fun c H1=>if c=true then ta σ H1 Q else tb σ H1 Q
theorem oU {c:Expr}(hc:PT X c tA)(ha:PE X a ta)(hb:PE X b tb):PE X (.IfExp c a b pos) (tIf tA ta tb):=by
 intro pins s σ H Q I h
 refine wpAny_IfExp (thn (hc pins s σ H _ I h) fun d s1 ⟨H1,I1,q1⟩=> ?_)
 cases d with
 |true=>exact ha pins s1 σ H1 Q I1 q1
 |false=>exact hb pins s1 σ H1 Q I1 q1
end
def SqL (K:W.Frag)(H:Hp)(a:Addr)(xs:List V):Prop:=
 Rd H a (.lst xs)\/
  ∃(o:Obj)(its:Array Value)(n:Nat),K.lookup a=some o/\o.cls= .type "list"/\o.dict=none/\o.data= .seq its n/\its.size<=sizeLine/\Vals xs its.toList
def SqT (K:W.Frag)(H:Hp)(a:Addr)(xs:List V):Prop:=
 Rd H a (.tup xs)\/
  ∃(o:Obj)(its:Array Value)(n:Nat),K.lookup a=some o/\o.cls= .type "tuple"/\o.data= .seq its n/\its.size<=sizeLine/\Vals xs its.toList
def A46:Value->Option V
 | .none=>some .non
 | .bool b=>some (.bl b)
 | .int i _=>some (.int i)
 | .str x _=>some (.str x)
 | .bytes b _=>some (.byt b)
 | .float b _=>some (.flt b)
 | .ref a=>some (.ref a)
 | .type n=>some (.ty n)
 |_=>none
theorem RelV.abs {x:V}{u:Value}(r:RelV x u):A46 u=some x:=by
 cases x with
 |non=>cases r;rfl
 |bl _=>cases r;rfl
 |int _=>obtain⟨t,rfl⟩:=r;rfl
 |str _=>obtain⟨t,rfl⟩:=r;rfl
 |byt _=>obtain⟨t,rfl⟩:=r;rfl
 |flt _=>obtain⟨t,rfl⟩:=r;rfl
 |ref _=>cases r;rfl
 |ty _=>cases r;rfl
theorem RelV.inj {x y:V}{u:Value}(r:RelV x u)(q:RelV y u):x=y:=Option.some.inj (r.abs.symm.trans q.abs)
theorem Vals.inj:∀{xs ys:List V}{us:List Value},Vals xs us->Vals ys us->xs=ys
 |_,_,_,.nil,.nil=>rfl
 |_,_,_,.cons r t,.cons r' t'=>by rw [r.inj r',Vals.inj t t']
section
variable {X:Cx}{pins:List (Addr×Obj)}{σ:St}{H:Hp}{s:Shared}{a:Addr}{xs ys:List V}
theorem SqL.of {K:W.Frag}(h:H a=some (.lst xs)):SqL K H a xs:=.inl (.inl h)
theorem SqT.of {K:W.Frag}(h:H a=some (.tup xs)):SqT K H a xs:=.inl (.inl h)
theorem Inv.list (I:Inv X pins σ H s)(h:SqL X.K H a xs):∃its:List Value,Vals xs its/\PlainL s.heap a its.toArray/\xs.length<=sizeLine:=by
 rcases h with h| ⟨o,its,n,hk,hc,hd,hs,hz,r⟩
 ·obtain⟨z,its,n,r,e⟩:=h.ok I.hok
  exact⟨its,r,⟨_,n,e,rfl,rfl,rfl⟩,z⟩
 ·refine⟨its.toList,r,⟨o,n,I.kIn a o hk,hc,hd,by simpa using hs⟩,?_⟩
  have e:=r.length
  simp only [Array.length_toList]at e
  omega
theorem Inv.tuple (I:Inv X pins σ H s)(h:SqT X.K H a xs):∃its:List Value,Vals xs its/\IsTup s.heap a its.toArray/\xs.length<=sizeLine:=by
 rcases h with h| ⟨o,its,n,hk,hc,hs,hz,r⟩
 ·obtain⟨z,its,r,p⟩:=h.ok I.hok
  exact⟨its,r,p,z⟩
 ·refine⟨its.toList,r,⟨o,I.kIn a o hk,hc,n,by simpa using hs⟩,?_⟩
  have e:=r.length
  simp only [Array.length_toList]at e
  omega
theorem Inv.list_inj (I:Inv X pins σ H s)(h:SqL X.K H a xs)(h':SqL X.K H a ys):xs=ys:=by
 obtain⟨its,r,⟨o,n,e,_,_,d⟩,_⟩:=I.list h
 obtain⟨its',r',⟨o',n',e',_,_,d'⟩,_⟩:=I.list h'
 rw [e]at e';cases e'
 rw [d]at d'
 injection d' with d1 _
 have:its=its':=by simpa using congrArg Array.toList d1
 subst this
 exact r.inj r'
theorem Inv.tuple_inj (I:Inv X pins σ H s)(h:SqT X.K H a xs)(h':SqT X.K H a ys):xs=ys:=by
 obtain⟨its,r,⟨o,e,_,n,d⟩,_⟩:=I.tuple h
 obtain⟨its',r',⟨o',e',_,n',d'⟩,_⟩:=I.tuple h'
 rw [e]at e';cases e'
 rw [d]at d'
 injection d' with d1 _
 have:its=its':=by simpa using congrArg Array.toList d1
 subst this
 exact r.inj r'
end
abbrev Cx.wish (X:Cx)(E:Value->Shared->Prop):Cx:={X with xe:=E}
abbrev Cx.nox (X:Cx):Cx:=X.wish fun _ _=>False
theorem Cx.Ok.wish {X:Cx}(ok:X.Ok)(E:Value->Shared->Prop):(X.wish E).Ok:=
 ⟨ok.mod,ok.kind,ok.glob,ok.blt,ok.above,ok.inj,ok.has,ok.cab,ok.hd,ok.frames,ok.stk,ok.exf,ok.bs,ok.bsz,ok.noex,ok.exfs,ok.funs,ok.frf⟩
theorem Cx.Ok.unwish {X:Cx}{E:Value->Shared->Prop}(ok:(X.wish E).Ok):X.Ok:=
 ⟨ok.mod,ok.kind,ok.glob,ok.blt,ok.above,ok.inj,ok.has,ok.cab,ok.hd,ok.frames,ok.stk,ok.exf,ok.bs,ok.bsz,ok.noex,ok.exfs,ok.funs,ok.frf⟩
section
variable {X:Cx}{pins:List (Addr×Obj)}{σ:St}{H:Hp}{s:Shared}{E:Value->Shared->Prop}
theorem Inv.wish (I:Inv X pins σ H s)(E:Value->Shared->Prop):Inv (X.wish E) pins σ H s:=⟨I.ok.wish E,I.os,I.bare,I.base,I.loc,I.cell,I.free,I.freeC,I.pin,I.hok,I.len⟩
theorem Inv.unwish (I:Inv (X.wish E) pins σ H s):Inv X pins σ H s:=⟨I.ok.unwish,I.os,I.bare,I.base,I.loc,I.cell,I.free,I.freeC,I.pin,I.hok,I.len⟩
theorem SP.unwish {D:bK}{f:Flow}{s':Shared}(h:SP (X.wish E) pins D f s'):SP X pins D f s':=by
 cases f with
 |next=>obtain⟨σ',H',I,q⟩:=h;exact⟨σ',H',I.unwish,q⟩
 |brk=>obtain⟨σ',H',I,q⟩:=h;exact⟨σ',H',I.unwish,q⟩
 |cont=>obtain⟨σ',H',I,q⟩:=h;exact⟨σ',H',I.unwish,q⟩
 |ret u=>obtain⟨v,σ',H',I,r,q⟩:=h;exact⟨v,σ',H',I.unwish,r,q⟩
theorem PSs.nox {st:List Stmt}{t:TS}(h:PSs X.nox st t):PSs X st t:=fun pins s σ H D I hw=>
 wpAny_mono (h pins s σ H D (I.wish _) hw) (fun _ _ q=>q.unwish) fun _ _ z=>False.elim z
end
section
variable {X:Cx}{st:Stmt}{rest:List Stmt}{t u:TS}{e:Expr}{te:TE}{pos:Pos}
def A6q:TS:=fun D σ H=>D.nx σ H
def sK (t u:TS):TS:=fun D σ H=>t {D with nx:=u D} σ H
theorem bO:PSs X [] A6q:=fun _ _ σ H _ I h=>wpAny_execs_nil ⟨σ,H,I,h⟩
theorem aU (h1:PS X st t)(h2:PSs X rest u):PSs X (st::rest) (sK t u):=by
 intro pins s σ H D I h
 refine wpAny_execs_cons (thn (h1 pins s σ H {D with nx:=u D} I h) fun f s1 q=> ?_)
 cases f with
 |next=>
  obtain⟨σ',H',I',q⟩:=q
  exact h2 pins s1 σ' H' D I' q
 |ret v=>exact q
 |brk=>exact q
 |cont=>exact q
theorem aW (h1:PS X st t):PSs X [st] t:=by
 intro pins s σ H D I h
 refine wpAny_execs_cons (thn (h1 pins s σ H D I h) fun f s1 q=> ?_)
 cases f with
 |next=>exact wpAny_execs_nil q
 |ret v=>exact q
 |brk=>exact q
 |cont=>exact q
theorem Inv.quiet {pins:List (Addr×Obj)}{σ:St}{H:Hp}{s:Shared}(I:Inv X pins σ H s):interactive X.env=false:=by simp [interactive,I.ok.kind]
def A94 (te:TE):TS:=fun D σ H=>te σ H fun _ H1=>D.nx σ H1
theorem gO (he:PE X e te)(hs:swapsWith e none pos.line X.env=pure false:=by rfl):PS X (.Expr e pos) (A94 te):=by
 intro pins s σ H D I h
 exact wpAny_Expr_any (thn (he pins s σ H _ I h) fun v s1 ⟨x,H1,I1,r1,q1⟩=> ⟨σ,H1,I1,q1⟩) I.quiet hs
def nG (te:TE):TS:=fun D σ H=>te σ H D.rt
theorem bB (he:PE X e te):PS X (.Return (some e) pos) (nG te):=by
 intro pins s σ H D I h
 exact wpAny_Return_some (thn (he pins s σ H _ I h) fun v s1 ⟨x,H1,I1,r1,q1⟩=> ⟨x,σ,H1,I1,r1,q1⟩)
def rA (c:TT)(t u:TS):TS:=fun D σ H=>c σ H fun b H1=>if b=true then t D σ H1 else u D σ H1
theorem bQ {c:Expr}{a b:List Stmt}{tc:TT}(hc:PT X c tc)(ha:PSs X a t)(hb:PSs X b u):PS X (.If c a b pos) (rA tc t u):=by
 intro pins s σ H D I h
 refine wpAny_If (thn (hc pins s σ H _ I h) fun d s1 ⟨H1,I1,q1⟩=> ?_)
 cases d with
 |true=>exact ha pins s1 σ H1 D I1 q1
 |false=>exact hb pins s1 σ H1 D I1 q1
def A25:TS:=fun _ _ _=>False
theorem A2k {sts:List Stmt}:PSs X sts A25:=fun _ _ _ _ _ _ h=>h.elim
end
abbrev TG:=V->St->Hp->(St->Hp->Prop)->Prop
abbrev TGs:=List V->St->Hp->(St->Hp->Prop)->Prop
def PG (X:Cx)(target:Expr)(t:TG):Prop:=
 ∀(pins:List (Addr×Obj))(s:Shared)(σ:St)(H:Hp)(v:V)(u:Value)(Q:St->Hp->Prop),Inv X pins σ H s->RelV v u->t v σ H Q->
  wpAny (model X.prog X.w) X.A (assign target X.env u) (fun _ s'=> ∃σ' H',Inv X pins σ' H' s'/\Q σ' H') X.xe s
def PGs (X:Cx)(ts:List Expr)(t:TGs):Prop:=
 ∀(pins:List (Addr×Obj))(s:Shared)(σ:St)(H:Hp)(vs:List V)(us:List Value)(Q:St->Hp->Prop),Inv X pins σ H s->Vals vs us->t vs σ H Q->
  wpAny (model X.prog X.w) X.A (assignInOrder ((assignEach ts X.env).map (·.2)) us) (fun _ s'=> ∃σ' H',Inv X pins σ' H' s'/\Q σ' H') X.xe s
abbrev qW:=V->V->V->Hp->(Hp->Prop)->Prop
def vX (X:Cx)(t:qW):Prop:=
 ∀(pins:List (Addr×Obj))(s:Shared)(σ:St)(H:Hp)(o i v:V)(ov iv u:Value)(Q:Hp->Prop),Inv X pins σ H s->RelV o ov->RelV i iv->RelV v u->t o i v H Q->
  wpAny (model X.prog X.w) X.A (setItem ov iv u) (fun _ s'=> ∃H',Inv X pins σ H' s'/\Q H') X.xe s
section
variable {X:Cx}{pos:Pos}
def dW (i:Nat):TG:=fun v σ H Q=>Q (σ.set i (some v)) H
theorem bE {i:Nat}{x:Str}(hN:X.N.Nodup)(hi:X.N[i]?=some x)(hx:Loc X.env.scope x)(hf:X.fn x=true\/X.env.scope.names.lookup x=some .local:=by first|exact .inl rfl|exact .inr rfl|assumption):PG X (.Name x pos) (dW i):=by
 intro pins s σ H v u Q I r h
 exact wpAny_assign_Name (iX I hN hi hx r (fun s' I'=> ⟨_,H,I',h⟩) hf)
def kE:TGs:=fun vs σ H Q=>vs=[]/\Q σ H
def fP (t:TG)(u:TGs):TGs:=fun vs σ H Q=> ∃v r,vs=v::r/\t v σ H fun σ' H'=>u r σ' H' Q
theorem eP:PGs X [] kE:=by
 intro pins s σ H vs us Q I r h
 obtain⟨e,h⟩:=h
 subst e
 cases r
 exact assignInOrder_nil ⟨σ,H,I,h⟩
theorem cB {e:Expr}{es:List Expr}{t:TG}{u:TGs}(h1:PG X e t)(h2:PGs X es u)
  (hs:(assignEach (e::es) X.env).map (·.2)=assign e X.env::(assignEach es X.env).map (·.2):=by rfl):PGs X (e::es) (fP t u):=by
 intro pins s σ H vs us Q I r h
 obtain⟨v,vr,e1,h⟩:=h
 subst e1
 cases r with
 |cons r rr=>
  rw [hs]
  refine assignInOrder_cons (thn (h1 pins s σ H _ _ _ I r h) fun _ s1 ⟨σ1,H1,I1,q1⟩=> ?_)
  exact h2 pins s1 σ1 H1 _ _ Q I1 rr q1
def jO (K:W.Frag)(n:Nat)(t:TGs):TG:=fun v σ H Q=> ∃a xs,v= .ref a/\SqT K H a xs/\xs.length=n/\t xs σ H Q
theorem eQ {es:List Expr}{k:Nat}{t:TGs}{n:Nat}(hc:X.calm=true)(h:PGs X es t)
  (hn:(assignEach es X.env).length=n:=by rfl)(hst:(assignEach es X.env).findIdx? (·.1)=none:=by rfl):PG X (.Tuple es k pos) (jO X.K n t):=by
 intro pins s σ H v u Q I r hw
 obtain⟨a,xs,e1,hq,hl,hw⟩:=hw
 subst e1
 cases r
 obtain⟨its,rv,ht,hz⟩:=I.tuple hq
 refine assign_Tuple_tuple (I.ok.hd hc) ht (by simp [hn,←hl,rv.length]) hst fun h' hx=> ?_
 have I1:Inv X pins σ H {s with heap:=h'}:=I.kept (t':=s.toks) fun b o e=>hx b o (ne_of_lt (zjT e)) e
 exact h pins _ σ H xs _ Q I1 (by simpa using rv) hw
def A0c (to ti:TE)(t:qW):TG:=fun v σ H Q=>to σ H fun o H1=>ti σ H1 fun i H2=>t o i v H2 fun H3=>Q σ H3
theorem sP {o i:Expr}{to ti:TE}{t:qW}(ho:PE X o to)(hi:PE X i ti)(hs:vX X t)
  (ha:∀v,assign (.Subscript o i pos) X.env v=(do
   let ov←holding [v] (eval o X.env)
   let iv←holding [v,ov] (eval i X.env)
   standAt pos
   holding [v,ov,iv] (setItem ov iv v)
   release [v,ov,iv] []):=by intro _;rfl):PG X (.Subscript o i pos) (A0c to ti t):=by
 intro pins s σ H v u Q I r h
 rw [ha]
 refine zjZ (wpAny_holding (thn (ho pins s σ H _ I h) fun ov s1 ⟨x,H1,I1,r1,q1⟩=> ?_))
 refine zjZ (wpAny_holding (thn (hi pins s1 σ H1 _ I1 q1) fun iv s2 ⟨y,H2,I2,r2,q2⟩=> ?_))
 refine zjZ (wpAny_standAt (zjZ (wpAny_holding (thn (hs pins s2 σ H2 x y v ov iv u _ I2 r1 r2 r q2) fun _ s3 ⟨H3,I3,q3⟩=> ?_))))
 exact wpAny_release ⟨σ,H3,I3,q3⟩
def oJ (te:TE)(g:TG):TS:=fun D σ H=>te σ H fun x H1=>g x σ H1 D.nx
theorem iQ {tg e:Expr}{te:TE}{g:TG}(he:PE X e te)(hg:PG X tg g)(hs:swapsWithSole [tg] e pos.line X.env=pure false:=by rfl)(hw:swappedStores [tg] e X.env=pure none:=by rfl)
  (h1:(assignEach [tg] X.env).map (·.2)=[assign tg X.env]:=by rfl):PS X (.Assign [tg] e pos) (oJ te g):=by
 intro pins s σ H D I h
 refine wpAny_Assign_stores (thn (he pins s σ H _ I h) fun v s1 ⟨x,H1,I1,r1,q1⟩=> ?_) hs hw
 rw [h1]
 exact thn (hg pins s1 σ H1 x v _ I1 r1 q1) fun _ s2 q=>q
theorem cJ {i:Nat}{x:Str}{e:Expr}{te:TE}{pos':Pos}(hN:X.N.Nodup)(hi:X.N[i]?=some x)(hx:Loc X.env.scope x)(he:PE X e te)(hs:swapsWith e (some (.Name x pos')) pos.line X.env=pure false:=by rfl)(hf:X.fn x=true\/X.env.scope.names.lookup x=some .local:=by first|exact .inl rfl|exact .inr rfl|assumption):
  PS X (.Assign [.Name x pos'] e pos) (oJ te (dW i)):=by
 intro pins s σ H D I h
 refine wpAny_Assign_Name (thn (he pins s σ H _ I h) fun v s1 ⟨y,H1,I1,r1,q1⟩=> ?_) hs
 exact iX I1 hN hi hx r1 (fun s2 I2=> ⟨_,H1,I2,q1⟩) hf
def A73 (i j:Nat)(ta:TA):TS:=fun D σ H=>ta σ H fun vs H1=> ∃v w,vs=[v,w]/\D.nx ((σ.set i (some v)).set j (some w)) H1
theorem nC {i j:Nat}{x y:Str}{a b:Expr}{ta:TA}{px py pt:Pos}{kt k2 pt2}(hc:X.calm=true)(hN:X.N.Nodup)(hi:X.N[i]?=some x)(hj:X.N[j]?=some y)(hij:i≠j)
  (hx:X.env.scope.names.lookup x=some .local)(hy:X.env.scope.names.lookup y=some .local)(ha:PA X [a,b] ta)
  (hw:swappedStores [.Tuple [.Name x px,.Name y py] kt pt] (.Tuple [a,b] k2 pt2) X.env=pure (some [x,y]))
  (hs:swapsWithSole [.Tuple [.Name x px,.Name y py] kt pt] (.Tuple [a,b] k2 pt2) pos.line X.env=pure false:=by rfl):
  PS X (.Assign [.Tuple [.Name x px,.Name y py] kt pt] (.Tuple [a,b] k2 pt2) pos) (A73 i j ta):=by
 intro pins s σ H D I h
 rw [exec_Assign_arm]
 refine zjZ (wpAny_standAt ?_)
 rw [hs]
 refine zjZ (zjY ?_)
 rw [if_neg (by decide)]
 refine zjZ (Tuple_ (thn (ha _ pins s σ H _ I h) fun us s1 ⟨vs,H1,I1,r1,q1⟩=> ?_))
 obtain⟨v,w,e1,q1⟩:=q1
 subst e1
 obtain⟨u1,u2,rfl,rv,rw'⟩:∃u1 u2,us=[u1,u2]/\RelV v u1/\RelV w u2:=by
  cases r1 with
  |cons p q=>
   cases q with
   |cons p' q'=>
    cases q'
    exact⟨_,_,rfl,p,p'⟩
 refine wpAny_newObj_type ?_ (by show 2<=sizeLine;decide)
 have I2:Inv X pins σ H1 {s1 with heap:=s1.heap.push {cls:=.type "tuple",data:=.seq [u1,u2].toArray}}:=I1.kept (t':=s1.toks) fun b o e=>zjX _ e
 rw [hw]
 refine zjZ (zjY ?_)
 show wpAny (model X.prog X.w) X.A (do rule "assign.swapped-stores";let items←unpackItems (.ref s1.heap.objs.size) 2 none;assignInOrder [fun v=>bindName X.env y v,fun v=>bindName X.env x v] items.reverse;pure Flow.next) _ _ _
 refine zjZ (wpAny_rule (zjZ (unpackItems_tuple (items:=#[u1,u2]) (I.ok.hd hc) (IsTup.new s1.heap _) fun h' hx'=> ?_)))
 have I3:=I2.kept (h':=h') (t':=s1.toks) fun b o e=>hx' b o (ne_of_lt (zjT e)) e
 show wpAny _ _ (assignInOrder [fun v=>bindName X.env y v,fun v=>bindName X.env x v] [u2,u1]>>=fun _=>pure Flow.next) _ _ _
 refine zjZ (assignInOrder_cons (wpAny_bindName (iX I3 hN hj (.inl hy) rw' (fun s2 I4=> ?_) (.inr hy))))
 refine assignInOrder_cons (wpAny_bindName (iX I4 hN hi (.inl hx) rv (fun s3 I5=>assignInOrder_nil (zjY ?_)) (.inr hx)))
 rw [set_comm _ _ (Ne.symm hij)]at I5
 exact⟨_,H1,I5,q1⟩
end
section
variable {X:Cx}{pos:Pos}
end
structure It where
 go:Nat->Hp->Prop
 yld:Nat->Hp->V->Hp->Prop
 stop:Nat->Hp->Prop
def eS (X:Cx)(pins:List (Addr×Obj))(H:Hp)(b:Addr):Prop:=
 H b=none/\b≠X.env.locals/\b∉X.fs/\(b∈X.ex\/X.s₀.heap.objs.size<=b)/\(∀x c,X.env.cells.lookup x=some c->c≠b)/\∀p∈X.pn++pins,p.1≠b
theorem Inv.fpOk {X:Cx}{pins:List (Addr×Obj)}{σ:St}{H H':Hp}{s:Shared}{b:Addr}(I:Inv X pins σ H s)(hb:s.heap.objs.size<=b)(hn:H' b=none):eS X pins H' b:=by
 refine⟨hn,ne_of_gt (lt_of_lt_of_le I.lt hb),I.nofs hb,.inr (le_trans I.sz hb),fun x c e z=> ?_,fun p hp z=> ?_⟩
 ·obtain⟨v,q⟩:=I.cell x c e
  exact absurd (lt_of_lt_of_le q.lt (by rw [z];exact hb)) (lt_irrefl _)
 ·exact absurd (lt_of_lt_of_le (zjT (I.pin p hp).1) (by rw [z];exact hb)) (lt_irrefl _)
structure gB (P:Program)(w:World)(K:W.Frag)(tg:Expr)(J:It)(fp:List Addr)(it:Addr)(tn:Nat->Heap->Prop):Prop where
 mem:it∈fp
 obj:∀i h,tn i h->∀b∈fp,∃o,h.get? b=some o/\∀v,o.data≠ .cell v
 keep:∀i h h',tn i h->(∀b∈fp,∀o,h.get? b=some o->h'.get? b=some o)->tn i h'
 item:∀(X:Cx),X.prog=P->X.w=w->X.K=K->X.calm=true->∀(i:Nat)(pins:List (Addr×Obj))(s:Shared)(σ:St)(H:Hp)(E:Value->Shared->Prop),Inv X pins σ H s->(∀b∈fp,eS X pins H b)->tn i s.heap->J.go i H->
  wpAny (model P w) X.A (pyNext (.ref it)) (fun r s1=> ∃u,r=some u/\
   wpAny (model P w) X.A (letOwnedTupleGo tg (.ref it) u) (fun _ s2=> ∃x H',Inv X pins σ H' s2/\RelV x u/\J.yld i H x H'/\tn (i+1) s2.heap/\∀b∈fp,H' b=none) E s1) E s
 done:∀(X:Cx),X.prog=P->X.w=w->X.K=K->X.calm=true->∀(i:Nat)(pins:List (Addr×Obj))(s:Shared)(σ:St)(H:Hp)(E:Value->Shared->Prop),Inv X pins σ H s->(∀b∈fp,eS X pins H b)->tn i s.heap->J.stop i H->
  wpAny (model P w) X.A (pyNext (.ref it)) (fun r s1=>r=none/\Inv X pins σ H s1) E s
 self:∀(A:Around)(i:Nat)(s:Shared)(Q:Value->Shared->Prop)(E:Value->Shared->Prop),tn i s.heap->Q (.ref it) s->wpAny (model P w) A (pyIter (.ref it)) Q E s
abbrev TI:=St->Hp->(It->Hp->Prop)->Prop
def PIE (X:Cx)(pins:List (Addr×Obj))(σ:St)(tg:Expr)(R:It->Hp->Prop)(itv:Value)(s2:Shared):Prop:=
 ∃(it:Addr)(fp:List Addr)(tn:Nat->Heap->Prop)(J:It)(H':Hp),itv= .ref it/\Inv X pins σ H' s2/\gB X.prog X.w X.K tg J fp it tn/\tn 0 s2.heap/\(∀b∈fp,eS X pins H' b)/\R J H'
def PI (X:Cx)(tg iter:Expr)(wi:TI):Prop:=
 ∀(pins:List (Addr×Obj))(s:Shared)(σ:St)(H:Hp)(R:It->Hp->Prop),Inv X pins σ H s->wi σ H R->
  wpAny (model X.prog X.w) X.A (eval iter X.env) (fun v s1=>wpAny (model X.prog X.w) X.A (pyIter v) (PIE X pins σ tg R) X.xe s1) X.xe s
theorem sL {M:Model}{A:Around}{E:Value->Shared->Prop}{s:Shared}{tg:Expr}{it:Addr}{u:Value}{o:Obj}{n:String}{vs:Array Value}{Q:Unit->Shared->Prop}(ho:s.heap.get? it=some o)(hc:o.cls= .type n)(hd:o.data= .fields vs)
    (hn:["enumerate","zip","dict_itemiterator","dict_reverseitemiterator","odict_iterator","itertools.zip_longest","itertools.pairwise"].contains n=false)(hQ:Q () s):wpAny M A (letOwnedTupleGo tg (.ref it) u) Q E s:=by
  unfold letOwnedTupleGo
  cases tg<;>first
    |exact zjY hQ
    | (cases u<;>first
        |exact zjY hQ
        | (refine zjZ (wpAny_load ho ?_)
           rw [hc,hd]
           show wpAny M A (if (["enumerate","zip","dict_itemiterator","dict_reverseitemiterator","odict_iterator","itertools.zip_longest","itertools.pairwise"].contains n&&vs[0]?==some (rawInt _))=true then _ else _) Q E s
           rw [if_neg (by intro h;rw [hn,Bool.false_and]at h;cases h)]
           exact zjY hQ))
def Itl (K:W.Frag)(a:Addr):It:=
 ⟨fun i H=> ∃xs x,SqL K H a xs/\xs[i]?=some x,fun i H x H'=>H'=H/\∀xs,SqL K H a xs->xs[i]?=some x,fun i H=> ∃xs,SqL K H a xs/\xs.length<=i⟩
def Itt (K:W.Frag)(a:Addr):It:=
 ⟨fun i H=> ∃xs x,SqT K H a xs/\xs[i]?=some x,fun i H x H'=>H'=H/\∀xs,SqT K H a xs->xs[i]?=some x,fun i H=> ∃xs,SqT K H a xs/\xs.length<=i⟩
def Itr (lo:Int)(n:Nat):It:=⟨fun i _=>i<n,fun i H x H'=>H'=H/\x= .int (lo+i),fun i _=>n<=i⟩
theorem A80 {P:Program}{w:World}{K:W.Frag}{tg:Expr}(a it:Addr):gB P w K tg (Itl K a) [it] it (fun i h=>h.IsListIter it a i)where
 mem:=by simp
 obj:=fun i h st b hb=>by
  have e:b=it:=by simpa using hb
  subst e
  obtain⟨o,e,c,d⟩:=st
  exact⟨o,e,fun v z=>by rw [d]at z;cases z⟩
 keep:=fun i h h' st k=>st.at fun o e=>k it (by simp) o e
 item:=by
  intro X hP hw hK hc i pins s σ H E I hf st hg
  subst hP hw hK
  obtain⟨xs,x,hq,hx⟩:=hg
  obtain⟨its,rv,p,hz⟩:=I.list hq
  obtain⟨u,hu,ru⟩:=rv.get hx
  obtain⟨f0,f1,f2,f3,f4,f5⟩:=hf it (by simp)
  refine wpAny_pyNext_list_item st p.isList (x:=u) (by simpa using hu) fun h' st' sb=> ?_
  have I1:Inv X pins σ H {s with heap:=h'}:=I.turned (t':=s.toks) (fun b o hb e=>(sb.2 b hb).trans e) f0 f1 f3 f4 f5
  obtain⟨o,e,c,d⟩:=id st'
  exact⟨u,rfl,sL (s:={s with heap:=h'}) e c d (by decide) ⟨x,H,I1,ru,⟨rfl,fun ys hy=>by rw [I.list_inj hy hq];exact hx⟩,st',fun b hb=>(hf b hb).1⟩⟩
 done:=by
  intro X hP hw hK hc i pins s σ H E I hf st hg
  subst hP hw hK
  obtain⟨xs,hq,hx⟩:=hg
  obtain⟨its,rv,p,hz⟩:=I.list hq
  obtain⟨f0,f1,f2,f3,f4,f5⟩:=hf it (by simp)
  have hl:=rv.length
  exact wpAny_pyNext_list_end (I.ok.hd hc) st p.isList (by simp;omega) fun h' eb=> ⟨rfl,I.turned (t':=s.toks) (fun b o hb e=>eb b o hb e) f0 f1 f3 f4 f5⟩
 self:=fun _ _ _ _ _ st h=>wpAny_pyIter_listiter st h
theorem A8m {P:Program}{w:World}{K:W.Frag}{tg:Expr}(a it:Addr):gB P w K tg (Itt K a) [it] it (fun i h=>h.IsTupleIter it a i)where
 mem:=by simp
 obj:=fun i h st b hb=>by
  have e:b=it:=by simpa using hb
  subst e
  obtain⟨o,e,c,d⟩:=st
  exact⟨o,e,fun v z=>by rw [d]at z;cases z⟩
 keep:=fun i h h' st k=>st.at fun o e=>k it (by simp) o e
 item:=by
  intro X hP hw hK hc i pins s σ H E I hf st hg
  subst hP hw hK
  obtain⟨xs,x,hq,hx⟩:=hg
  obtain⟨its,rv,p,hz⟩:=I.tuple hq
  obtain⟨u,hu,ru⟩:=rv.get hx
  obtain⟨f0,f1,f2,f3,f4,f5⟩:=hf it (by simp)
  refine wpAny_pyNext_tuple_item st (show s.heap.IsTuple a its.toArray from p) (x:=u) (by simpa using hu) fun h' st' sb=> ?_
  have I1:Inv X pins σ H {s with heap:=h'}:=I.turned (t':=s.toks) (fun b o hb e=>(sb.2 b hb).trans e) f0 f1 f3 f4 f5
  obtain⟨o,e,c,d⟩:=id st'
  exact⟨u,rfl,sL (s:={s with heap:=h'}) e c d (by decide) ⟨x,H,I1,ru,⟨rfl,fun ys hy=>by rw [I.tuple_inj hy hq];exact hx⟩,st',fun b hb=>(hf b hb).1⟩⟩
 done:=by
  intro X hP hw hK hc i pins s σ H E I hf st hg
  subst hP hw hK
  obtain⟨xs,hq,hx⟩:=hg
  obtain⟨its,rv,p,hz⟩:=I.tuple hq
  obtain⟨f0,f1,f2,f3,f4,f5⟩:=hf it (by simp)
  have hl:=rv.length
  exact wpAny_pyNext_tuple_end (I.ok.hd hc) st (show s.heap.IsTuple a its.toArray from p) (by simp;omega) fun h' eb=> ⟨rfl,I.turned (t':=s.toks) (fun b o hb e=>eb b o hb e) f0 f1 f3 f4 f5⟩
 self:=fun _ _ _ _ _ st h=>wpAny_pyIter_tupleiter st h
theorem A55 {P:Program}{w:World}{K:PySem.W.Frag}{tg:Expr}(it:Addr)(lo:Int)(n:Nat):gB P w K tg (Itr lo n) [it] it (fun i h=>IsRangeIter h it (lo+(i:Nat)*1) ((n:Int) -(i:Nat)) 1)where
 mem:=by simp
 obj:=fun i h st b hb=>by
  have e:b=it:=by simpa using hb
  subst e
  exact⟨_,st,fun v z=>by
   have z':Data.fields _=Data.cell v:=z
   cases z'⟩
 keep:=fun i h h' st k=>k it (by simp) _ st
 item:=by
  intro X hP hw hK hc i pins s σ H E I hf st hg
  subst hP hw hK
  obtain⟨f0,f1,f2,f3,f4,f5⟩:=hf it (by simp)
  have W:=Walks.range (prog:=X.prog) (w:=X.w) (I.ok.hd hc) it lo 1 n
  refine W.item i s _ _ hg st fun v h' tk hv st' kk=> ?_
  obtain⟨t,rfl⟩:=hv
  have I1:Inv X pins σ H {s with heap:=h',toks:=tk}:=I.turned (fun b o hb e=>kk b o (by simpa using hb) e) f0 f1 f3 f4 f5
  refine⟨_,rfl,sL (s:={s with heap:=h',toks:=tk}) (n:="range_iterator") st' rfl rfl (by decide) ⟨.int (lo+i),H,I1,⟨t,?_⟩,⟨rfl,rfl⟩,st',fun b hb=>(hf b hb).1⟩⟩
  rw [Int.mul_one]
 done:=by
  intro X hP hw hK hc i pins s σ H E I hf st hg
  subst hP hw hK
  obtain⟨f0,f1,f2,f3,f4,f5⟩:=hf it (by simp)
  exact wpAny_pyNext_range_end (I.ok.hd hc) st (by have:n<=i:=hg;omega) fun h' eb=> ⟨rfl,I.turned (t':=s.toks) (fun b o hb e=>eb b o hb e) f0 f1 f3 f4 f5⟩
 self:=fun _ _ _ _ _ st h=>wpAny_pyIter_rangeiter st h
section
variable {X:Cx}{tg:Expr}
def A70 (K:W.Frag)(tl:TE):TI:=fun σ H R=>tl σ H fun x H1=> ∃a,x= .ref a/\(∃xs,SqL K H1 a xs)/\R (Itl K a) H1
def A22 (K:W.Frag)(tl:TE):TI:=fun σ H R=>tl σ H fun x H1=> ∃a,x= .ref a/\(∃xs,SqT K H1 a xs)/\R (Itt K a) H1
theorem jK {l:Expr}{tl:TE}(hl:PE X l tl):PI X tg l (A70 X.K tl):=by
 intro pins s σ H R I h
 refine thn (hl pins s σ H _ I h) fun v s1 ⟨x,H1,I1,r1,q1⟩=> ?_
 obtain⟨a,e,⟨xs,hq⟩,q⟩:=q1
 subst e
 cases r1
 obtain⟨its,rv,p,hz⟩:=I1.list hq
 refine wpAny_pyIter_list p.isList ?_
 refine⟨s1.heap.objs.size,[s1.heap.objs.size],_,_,H1,rfl,I1.kept (t':=s1.toks) fun b o e=>zjX _ e,A80 a _,⟨_,get?_push_size _ rfl,rfl,rfl⟩,fun b hb=> ?_,q⟩
 have e:b=s1.heap.objs.size:=by simpa using hb
 subst e
 exact I1.fpOk (zjQ _) (I1.hok.fresh (zjQ _))
theorem jP {l:Expr}{tl:TE}(hl:PE X l tl):PI X tg l (A22 X.K tl):=by
 intro pins s σ H R I h
 refine thn (hl pins s σ H _ I h) fun v s1 ⟨x,H1,I1,r1,q1⟩=> ?_
 obtain⟨a,e,⟨xs,hq⟩,q⟩:=q1
 subst e
 cases r1
 obtain⟨its,rv,p,hz⟩:=I1.tuple hq
 refine wpAny_pyIter_tuple (show s1.heap.IsTuple a its.toArray from p) ?_
 refine⟨s1.heap.objs.size,[s1.heap.objs.size],_,_,H1,rfl,I1.kept (t':=s1.toks) fun b o e=>zjX _ e,A8m a _,⟨_,get?_push_size _ rfl,rfl,rfl⟩,fun b hb=> ?_,q⟩
 have e:b=s1.heap.objs.size:=by simpa using hb
 subst e
 exact I1.fpOk (zjQ _) (I1.hok.fresh (zjQ _))
theorem A8i {pins:List (Addr×Obj)}{σ:St}{H:Hp}{s:Shared}{R:It->Hp->Prop}{E:Value->Shared->Prop}{lo hi:Int}{t u v:Tok}{tk:Nat}(I:Inv X pins σ H s)(h1:-(2^62)<=lo)(h2:lo<2^62)(h3:-(2^62)<=hi)(h4:hi<2^62)
  (q:R (Itr lo (hi - lo).toNat) H):wpAny (model X.prog X.w) X.A (pyIter (.ref s.heap.objs.size)) (PIE X pins σ tg R) E {s with heap:=s.heap.push {cls:=.type "range",data:=.fields #[.int lo t,.int hi u,.int 1 v]},toks:=tk}:=by
 refine wpAny_pyIter_range (IsRange.new ..) (small_one h1 h2 h3 h4) ?_
 have I1:Inv X pins σ H {s with heap:=s.heap.push {cls:=.type "range",data:=.fields #[.int lo t,.int hi u,.int 1 v]},toks:=tk}:=I.kept fun b o e=>zjX _ e
 refine⟨(s.heap.push {cls:=.type "range",data:=.fields #[.int lo t,.int hi u,.int 1 v]}).objs.size,[(s.heap.push {cls:=.type "range",data:=.fields #[.int lo t,.int hi u,.int 1 v]}).objs.size],_,_,H,rfl,
  I1.kept (t':=tk) fun b o e=>zjX _ e,A55 _ lo (hi - lo).toNat,?_,fun b hb=> ?_,q⟩
 ·have e1:lo+((0:Nat):Int)*1=lo:=by simp
  have e2:(((hi - lo).toNat:Nat):Int) -((0:Nat):Int)=Builtin.Range.rangeSize lo hi 1:=by rw [rangeSize_one];split<;>omega
  show IsRangeIter _ _ (lo+((0:Nat):Int)*1) ((((hi - lo).toNat:Nat):Int) -((0:Nat):Int)) 1
  rw [e1,e2]
  exact get?_push_size _ rfl
 ·have e:b=(s.heap.push {cls:=.type "range",data:=.fields #[.int lo t,.int hi u,.int 1 v]}).objs.size:=by simpa using hb
  subst e
  exact I1.fpOk (zjQ _) (I1.hok.fresh (zjQ _))
def A9s (ta:TA):TI:=fun σ H R=>ta σ H fun vs H1=> ∃j:Int,vs=[.int j]/\-(2^62)<=j/\j<2^62/\R (Itr 0 j.toNat) H1
theorem kZ {a:Expr}{ta:TA}{p pos:Pos}(hg:Gl X "range")(hm:X.mg "range" =none)(ha:PA X [a] ta)(hs:starEach [a] X.env=[(false,eval a X.env)]:=by rfl):PI X tg (.Call (.Name "range" p) [a] [] pos) (A9s ta):=by
 intro pins s σ H R I h
 refine Call_ (iZ I hg hm boot_range (PyProof.Rows.callWith_type1 (thn (ha pos pins s σ H _ I h) fun us s1 ⟨vs,H1,I1,r1,q1⟩=> ?_) hs rfl))
 obtain⟨j,e,q1,q2,q⟩:=q1
 subst e
 cases r1 with
 |cons r rr=>
  cases rr
  obtain⟨t,rfl⟩:=r
  exact call_range_1 (A8i I1 (by omega) (by omega) q1 q2 (by simpa using q))
def A9h (wi:TI)(g:TG)(tb:TS):TS:=fun D σ H=>wi σ H fun J H1=> ∃W:Nat->Nat->St->Hp->Prop,(∃m,W 0 m σ H1)/\∀i m σ H,W i m σ H->
 (J.stop i H/\D.nx σ H)\/(J.go i H/\∃N:St->Hp->Prop,(∀σ' H',N σ' H'->∃m',m'<m/\W (i+1) m' σ' H')/\∀x H',J.yld i H x H'->g x σ H' fun σ2 H2=>tb {D with nx:=N,ct:=N,bk:=D.nx} σ2 H2)
def kH (fp:List Addr)(h:Heap):List (Addr×Obj):=fp.filterMap fun b=>(h.get? b).map fun o=>(b,o)
theorem lA {fp:List Addr}{h:Heap}{b:Addr}{o:Obj}(hb:b∈fp)(e:h.get? b=some o):(b,o)∈kH fp h:=mem_filterMap.mpr ⟨b,hb,by rw [e];rfl⟩
theorem A3r {fp:List Addr}{h:Heap}{p:Addr×Obj}(hp:p∈kH fp h):p.1∈fp/\h.get? p.1=some p.2:=by
 obtain⟨b,hb,e⟩:=mem_filterMap.mp hp
 cases q:h.get? b with
 |none=>rw [q]at e;cases e
 |some o=>
  rw [q]at e
  have e':(b,o)=p:=Option.some.inj e
  subst e'
  exact⟨hb,q⟩
theorem Inv.pinned {pins:List (Addr×Obj)}{σ:St}{H:Hp}{s:Shared}{fp:List Addr}(I:Inv X pins σ H s)(hf:∀b∈fp,eS X pins H b)(ho:∀b∈fp,∃o,s.heap.get? b=some o/\∀v,o.data≠ .cell v):Inv X (pins++kH fp s.heap) σ H s:=
 I.pins_of fun p hp=>(mem_append.mp hp).elim (fun z=>I.pin p (mem_append_right _ z)) fun z=>by
  obtain⟨hb,e⟩:=A3r z
  obtain⟨f0,f1,f2,_⟩:=hf p.1 hb
  obtain⟨o,e',d⟩:=ho p.1 hb
  rw [e]at e';cases e'
  exact⟨e,f0,f1,f2,d⟩
theorem Inv.unpinned {pins pl:List (Addr×Obj)}{σ:St}{H:Hp}{s:Shared}(I:Inv X (pins++pl) σ H s):Inv X pins σ H s:=I.pins_of fun p hp=>I.pin p (mem_append_right _ (mem_append_left _ hp))
theorem iB {iter:Expr}{body:List Stmt}{wi:TI}{g:TG}{tb:TS}{pos:Pos}(hp:PassesOwn (model X.prog X.w) X.A X.env X.xe)(hc:X.calm=true)(hi:PI X tg iter wi)(hg:PG X tg g)(hb:PSs X body tb)
  (hs:∀x,foldedSetIterable iter X.env x=pure x:=by intro _;rfl):PS X (.For tg iter body [] pos) (A9h wi g tb):=by
 intro pins s σ H D I h
 refine wpAny_For (thn (hi pins s σ H _ I h) fun v s1 h1=>thn h1 fun itv s2 h2=> ?_) hs
 obtain⟨it,fp,tn,J,H2,e,I2,T,st2,f2,W,⟨m0,w0⟩,turn⟩:=h2
 subst e
 have stat:∀{H':Hp},(∀b∈fp,H' b=none)->∀b∈fp,eS X pins H' b:=fun hn b hb=> ⟨hn b hb,(f2 b hb).2⟩
 refine codeAny_forLoop_any (fun n s'=> ∃i σ' H',Inv X pins σ' H' s'/\tn i s'.heap/\(∀b∈fp,H' b=none)/\W i n σ' H') ?_ m0 ⟨0,σ,H2,I2,st2,fun b hb=>(f2 b hb).1,w0⟩
 rintro n s3 ⟨i,σ3,H3,I3,st3,fr3,w3⟩
 rcases turn i n σ3 H3 w3 with⟨stop,qn⟩| ⟨go,N,hN,step⟩
 ·refine wpAny_passesOwn hp (thn (T.done X rfl rfl rfl hc i pins s3 σ3 H3 X.xe I3 (stat fr3) st3 stop) fun r s4 ⟨hr,I4⟩=> ?_)
  subst hr
  exact wpAny_execs_nil ⟨σ3,H3,I4,qn⟩
 ·refine wpAny_passesOwn hp (thn (T.item X rfl rfl rfl hc i pins s3 σ3 H3 X.xe I3 (stat fr3) st3 go) fun r s4 ⟨u,hr,h4⟩=> ?_)
  subst hr
  refine wpAny_passesOwn hp (thn h4 fun _ s5 ⟨x,H5,I5,r5,y5,st5,fr5⟩=> ?_)
  have I5':=I5.pinned (stat fr5) (T.obj _ _ st5)
  refine wpAny_passesOwn hp (thn (hg _ s5 σ3 H5 x u _ I5' r5 (step x H5 y5)) fun _ s6 ⟨σ6,H6,I6,q6⟩=> ?_)
  refine wpAny_passesOwn hp (thn (hb _ s6 σ6 H6 _ I6 q6) fun f s7 q7=> ?_)
  have again:∀{σ7:St}{H7:Hp},Inv X (pins++kH fp s5.heap) σ7 H7 s7->N σ7 H7->∃m,m<n/\∃i σ' H',Inv X pins σ' H' s7/\tn i s7.heap/\(∀b∈fp,H' b=none)/\W i m σ' H':=fun{σ7 H7} I7 n7=>by
   obtain⟨m',hm,w7⟩:=hN σ7 H7 n7
   refine⟨m',hm,i+1,σ7,H7,I7.unpinned,T.keep _ _ _ st5 fun b hb o e=>(I7.pin (b,o) (mem_append_right _ (mem_append_right _ (lA hb e)))).1,fun b hb=> ?_,w7⟩
   obtain⟨o,e,d⟩:=T.obj _ _ st5 b hb
   exact(I7.pin (b,o) (mem_append_right _ (mem_append_right _ (lA hb e)))).2.1
  cases f with
  |next=>obtain⟨σ7,H7,I7,n7⟩:=q7;exact again I7 n7
  |cont=>obtain⟨σ7,H7,I7,n7⟩:=q7;exact again I7 n7
  |brk=>obtain⟨σ7,H7,I7,q7⟩:=q7;exact⟨σ7,H7,I7.unpinned,q7⟩
  |ret v=>obtain⟨x7,σ7,H7,I7,r7,q7⟩:=q7;exact⟨x7,σ7,H7,I7.unpinned,r7,q7⟩
end
theorem jX {K:PySem.W.Frag}{a:Addr}{xs:List V}{g:TG}{tb:TS}{D:bK}{σ:St}{H:Hp}(Pv:Nat->St->Hp->Prop)(h0:Pv 0 σ H)(hl:∀i σ H,i<=xs.length->Pv i σ H->SqL K H a xs)
  (hs:∀i x σ H,xs[i]?=some x->Pv i σ H->g x σ H fun σ2 H2=>tb {D with nx:=Pv (i+1),ct:=Pv (i+1),bk:=D.nx} σ2 H2)(hd:∀σ H,Pv xs.length σ H->D.nx σ H):
  ∃W:Nat->Nat->St->Hp->Prop,(∃m,W 0 m σ H)/\∀i m σ H,W i m σ H->
   ((Itl K a).stop i H/\D.nx σ H)\/((Itl K a).go i H/\∃N:St->Hp->Prop,(∀σ' H',N σ' H'->∃m',m'<m/\W (i+1) m' σ' H')/\∀x H',(Itl K a).yld i H x H'->g x σ H' fun σ2 H2=>tb {D with nx:=N,ct:=N,bk:=D.nx} σ2 H2):=by
 refine⟨fun i m σ H=>m=xs.length - i/\i<=xs.length/\Pv i σ H,⟨xs.length,by simp,zero_le _,h0⟩,?_⟩
 rintro i m σ H ⟨rfl,hi,p⟩
 have q:=hl i σ H hi p
 by_cases hlt:i<xs.length
 ·refine .inr ⟨⟨xs,xs[i],q,by simp [hlt]⟩,Pv (i+1),fun σ' H' p'=> ⟨xs.length -(i+1),by omega,rfl,hlt,p'⟩,fun x H' y=> ?_⟩
  obtain⟨e,y⟩:=y
  subst e
  exact hs i x σ _ (y xs q) p
 ·have e:i=xs.length:=by omega
  subst e
  exact .inl ⟨⟨xs,q,zjQ _⟩,hd σ H p⟩
theorem nI {K:PySem.W.Frag}{a:Addr}{xs:List V}{g:TG}{tb:TS}{D:bK}{σ:St}{H:Hp}(Pv:Nat->St->Hp->Prop)(h0:Pv 0 σ H)(hl:∀i σ H,i<=xs.length->Pv i σ H->SqT K H a xs)
  (hs:∀i x σ H,xs[i]?=some x->Pv i σ H->g x σ H fun σ2 H2=>tb {D with nx:=Pv (i+1),ct:=Pv (i+1),bk:=D.nx} σ2 H2)(hd:∀σ H,Pv xs.length σ H->D.nx σ H):
  ∃W:Nat->Nat->St->Hp->Prop,(∃m,W 0 m σ H)/\∀i m σ H,W i m σ H->
   ((Itt K a).stop i H/\D.nx σ H)\/((Itt K a).go i H/\∃N:St->Hp->Prop,(∀σ' H',N σ' H'->∃m',m'<m/\W (i+1) m' σ' H')/\∀x H',(Itt K a).yld i H x H'->g x σ H' fun σ2 H2=>tb {D with nx:=N,ct:=N,bk:=D.nx} σ2 H2):=by
 refine⟨fun i m σ H=>m=xs.length - i/\i<=xs.length/\Pv i σ H,⟨xs.length,by simp,zero_le _,h0⟩,?_⟩
 rintro i m σ H ⟨rfl,hi,p⟩
 have q:=hl i σ H hi p
 by_cases hlt:i<xs.length
 ·refine .inr ⟨⟨xs,xs[i],q,by simp [hlt]⟩,Pv (i+1),fun σ' H' p'=> ⟨xs.length -(i+1),by omega,rfl,hlt,p'⟩,fun x H' y=> ?_⟩
  obtain⟨e,y⟩:=y
  subst e
  exact hs i x σ _ (y xs q) p
 ·have e:i=xs.length:=by omega
  subst e
  exact .inl ⟨⟨xs,q,zjQ _⟩,hd σ H p⟩
theorem lB {lo:Int}{n:Nat}{g:TG}{tb:TS}{D:bK}{σ:St}{H:Hp}(Pv:Nat->St->Hp->Prop)(h0:Pv 0 σ H)
  (hs:∀i σ H,i<n->Pv i σ H->g (.int (lo+i)) σ H fun σ2 H2=>tb {D with nx:=Pv (i+1),ct:=Pv (i+1),bk:=D.nx} σ2 H2)(hd:∀σ H,Pv n σ H->D.nx σ H):
  ∃W:Nat->Nat->St->Hp->Prop,(∃m,W 0 m σ H)/\∀i m σ H,W i m σ H->
   ((Itr lo n).stop i H/\D.nx σ H)\/((Itr lo n).go i H/\∃N:St->Hp->Prop,(∀σ' H',N σ' H'->∃m',m'<m/\W (i+1) m' σ' H')/\∀x H',(Itr lo n).yld i H x H'->g x σ H' fun σ2 H2=>tb {D with nx:=N,ct:=N,bk:=D.nx} σ2 H2):=by
 refine⟨fun i m σ H=>m=n - i/\i<=n/\Pv i σ H,⟨n,by simp,zero_le _,h0⟩,?_⟩
 rintro i m σ H ⟨rfl,hi,p⟩
 by_cases hlt:i<n
 ·refine .inr ⟨hlt,Pv (i+1),fun σ' H' p'=> ⟨n -(i+1),by omega,rfl,hlt,p'⟩,fun x H' y=> ?_⟩
  obtain⟨e,y⟩:=y
  subst e y
  exact hs i σ _ hlt p
 ·have e:i=n:=by omega
  subst e
  exact .inl ⟨zjQ _,hd σ H p⟩
abbrev R2:=V->V->Hp->VK->Prop
def OpR (X:Cx)(f:Value->Value->Sem Value)(r:R2):Prop:=
 ∀(pins:List (Addr×Obj))(s:Shared)(σ:St)(H:Hp)(x y:V)(v u:Value)(Q:VK),Inv X pins σ H s->RelV x v->RelV y u->r x y H Q->
  wpAny (model X.prog X.w) X.A (f v u) (EP X pins σ Q) X.xe s
def UnR (X:Cx)(f:Value->Sem Value)(r:V->Hp->VK->Prop):Prop:=
 ∀(pins:List (Addr×Obj))(s:Shared)(σ:St)(H:Hp)(x:V)(v:Value)(Q:VK),Inv X pins σ H s->RelV x v->r x H Q->
  wpAny (model X.prog X.w) X.A (f v) (EP X pins σ Q) X.xe s
def fE (X:Cx)(f:Value)(r:List V->Hp->VK->Prop):Prop:=
 ∀(pins:List (Addr×Obj))(s:Shared)(σ:St)(H:Hp)(xs:List V)(us:List Value)(Q:VK),Inv X pins σ H s->Vals xs us->r xs H Q->
  wpAny (model X.prog X.w) X.A (call f us) (EP X pins σ Q) X.xe s
def tOp (r:R2)(ta tb:TE):TE:=fun σ H Q=>ta σ H fun x H1=>tb σ H1 fun y H2=>r x y H2 Q
def tUn (r:V->Hp->VK->Prop)(ta:TE):TE:=fun σ H Q=>ta σ H fun x H1=>r x H1 Q
def rI (C:Int->Int->Prop)(g:Int->Int->V):R2:=fun x y H Q=> ∃i j,x= .int i/\y= .int j/\C i j/\Q (g i j) H
def rI0 (g:Int->Int->V):R2:=fun x y H Q=> ∃i j,x= .int i/\y= .int j/\Q (g i j) H
def rU (g:Int->V):V->Hp->VK->Prop:=fun x H Q=> ∃i,x= .int i/\Q (g i) H
section
variable {X:Cx}{a b c:Expr}{ta tb tc:TE}{pos:Pos}
theorem qJ (ha:PE X a ta)(hb:PE X b tb){pins:List (Addr×Obj)}{s:Shared}{σ:St}{H:Hp}{R:V->V->Hp->Prop}(I:Inv X pins σ H s)
  (h:ta σ H fun x H1=>tb σ H1 fun y H2=>R x y H2){Q:Value->Shared->Prop}{f:Value->Value->Sem Value}
  (hf:∀v u s2 x y H2,Inv X pins σ H2 s2->RelV x v->RelV y u->R x y H2->wpAny (model X.prog X.w) X.A (f v u) Q X.xe s2):
  wpAny (model X.prog X.w) X.A (eval a X.env) (fun v s₁=>wpAny (model X.prog X.w) X.A (eval b X.env) (fun u s₂=>wpAny (model X.prog X.w) X.A (f v u) Q X.xe s₂) X.xe s₁) X.xe s:=by
 refine thn (ha pins s σ H _ I h) fun v s1 ⟨x,H1,I1,r1,q1⟩=> ?_
 refine thn (hb pins s1 σ H1 _ I1 q1) fun u s2 ⟨y,H2,I2,r2,q2⟩=> ?_
 exact hf v u s2 x y H2 I2 r1 r2 q2
theorem bF {op:Operator}{r:R2}(ho:OpR X (binaryOp op) r)(ha:PE X a ta)(hb:PE X b tb):PE X (.BinOp a op b pos) (tOp r ta tb):=by
 intro pins s σ H Q I h
 exact wpAny_BinOp (qJ ha hb I h fun v u s2 x y H2 I2 rx ry q=>ho pins s2 σ H2 x y v u Q I2 rx ry q)
theorem iG {op:UnaryOp}{r:V->Hp->VK->Prop}(ho:UnR X (unaryOp op) r)(ha:PE X a ta):PE X (.UnaryOp op a pos) (tUn r ta):=by
 intro pins s σ H Q I h
 exact UnaryOp_ (thn (ha pins s σ H _ I h) fun v s1 ⟨x,H1,I1,r1,q1⟩=>ho pins s1 σ H1 x v Q I1 r1 q1)
theorem opI {f:Value->Value->Sem Value}{C:Int->Int->Prop}{g:Int->Int->Int}
  (rule:∀(i j:Int)(t u:Tok)(s:Shared)(Q:Value->Shared->Prop)(E:Value->Shared->Prop),C i j->Q (.int (g i j) s.toks) {s with toks:=s.toks+1}->wpAny (model X.prog X.w) X.A (f (.int i t) (.int j u)) Q E s):
  OpR X f (rI C fun i j=> .int (g i j)):=by
 intro pins s σ H x y v u Q I rx ry h
 obtain⟨i,j,rfl,rfl,hc,q⟩:=h
 obtain⟨t,rfl⟩:=rx
 obtain⟨t',rfl⟩:=ry
 exact rule i j t t' s _ _ hc ⟨.int (g i j),H,I.tok _,⟨_,rfl⟩,q⟩
theorem yT {f:Value->Value->Sem Value}{g:Int->Int->Int}
  (rule:∀(i j:Int)(t u:Tok)(s:Shared)(Q:Value->Shared->Prop)(E:Value->Shared->Prop),Q (.int (g i j) s.toks) {s with toks:=s.toks+1}->wpAny (model X.prog X.w) X.A (f (.int i t) (.int j u)) Q E s):
  OpR X f (rI0 fun i j=> .int (g i j)):=by
 intro pins s σ H x y v u Q I rx ry h
 obtain⟨i,j,rfl,rfl,q⟩:=h
 obtain⟨t,rfl⟩:=rx
 obtain⟨t',rfl⟩:=ry
 exact rule i j t t' s _ _ ⟨.int (g i j),H,I.tok _,⟨_,rfl⟩,q⟩
theorem oE {f:Value->Value->Sem Value}{g:Int->Int->Bool}
  (rule:∀(i j:Int)(t u:Tok)(s:Shared)(Q:Value->Shared->Prop)(E:Value->Shared->Prop),Q (.bool (g i j)) s->wpAny (model X.prog X.w) X.A (f (.int i t) (.int j u)) Q E s):
  OpR X f (rI0 fun i j=> .bl (g i j)):=by
 intro pins s σ H x y v u Q I rx ry h
 obtain⟨i,j,rfl,rfl,q⟩:=h
 obtain⟨t,rfl⟩:=rx
 obtain⟨t',rfl⟩:=ry
 exact rule i j t t' s _ _ ⟨.bl (g i j),H,I,rfl,q⟩
def A7q (i j:Int):Prop:=0<j/\j<1073741824
def A7p (i j:Int):Prop:=0<=j/\j<=1000000/\i.natAbs<2^64
def CMul (i j:Int):Prop:=(-(2^64)<i/\i<2^64)\/(-(2^64)<j/\j<2^64)
theorem CMul.ok {i j:Int}(h:CMul i j):IntMulOk i j:=by
 rcases h with⟨h1,h2⟩| ⟨h1,h2⟩
 ·exact .of_left (intBits_le_64 h1 h2)
 ·exact .of_right (intBits_le_64 h1 h2)
theorem eU:OpR X (binaryOp .Add) (rI0 fun i j=> .int (i+j)):=yT fun _ _ _ _ _ _ _ q=>add_int q
theorem jN:OpR X (binaryOp .Sub) (rI0 fun i j=> .int (i - j)):=yT fun _ _ _ _ _ _ _ q=>sub_int q
theorem tP:OpR X (binaryOp .Mult) (rI CMul fun i j=> .int (i*j)):=opI fun _ _ _ _ _ _ _ hc q=>mul_int q hc.ok
theorem yV:OpR X (binaryOp .FloorDiv) (rI A7q fun i j=> .int (i/j)):=opI fun i j _ _ _ _ _ hc q=>by
 have h1:(0:Int)<j:=hc.1
 have h2:j<1073741824:=hc.2
 exact floordiv_int (by omega) (by rw [Int.fdiv_eq_ediv_of_nonneg i (by omega)];exact q) (.inl (PyProof.noPylong_small (by omega)))
theorem mX:OpR X (binaryOp .Mod) (rI (fun _ j=>0<j) fun i j=> .int (i%j)):=opI fun i j _ _ _ _ _ hc q=>by
 have h1:(0:Int)<j:=hc
 exact mod_int' (by omega) (by rw [Int.fmod_eq_emod_of_nonneg i (by omega)];exact q)
theorem lW:OpR X (binaryOp .Pow) (rI A7p fun i j=> .int (i^j.toNat)):=opI fun _ _ _ _ _ _ _ hc q=>pow_int_small hc.1 hc.2.1 hc.2.2 q
theorem unI {f:Value->Sem Value}{g:Int->Int}
  (rule:∀(i:Int)(t:Tok)(s:Shared)(Q:Value->Shared->Prop)(E:Value->Shared->Prop),Q (.int (g i) s.toks) {s with toks:=s.toks+1}->wpAny (model X.prog X.w) X.A (f (.int i t)) Q E s):
  UnR X f (rU fun i=> .int (g i)):=by
 intro pins s σ H x v Q I rx h
 obtain⟨i,rfl,q⟩:=h
 obtain⟨t,rfl⟩:=rx
 exact rule i t s _ _ ⟨.int (g i),H,I.tok _,⟨_,rfl⟩,q⟩
theorem hZ:UnR X (unaryOp .USub) (rU fun i=> .int (-i)):=unI fun _ _ _ _ _ q=>neg_int q
end
def scal:V->V->Bool
 | .non,.non=>true| .non,.int _=>true| .int _,.non=>true| .non,.bl _=>true| .bl _,.non=>true| .non,.str _=>true| .str _,.non=>true
 | .int _,.int _=>true| .bl _,.bl _=>true| .str _,.str _=>true| .byt _,.byt _=>true
 | .int _,.str _=>true| .str _,.int _=>true| .bl _,.str _=>true| .str _,.bl _=>true
 |_,_=>false
def rEq:R2:=fun x y H Q=>scal x y=true/\Q (.bl (decide (x=y))) H
def rNe:R2:=fun x y H Q=>scal x y=true/\Q (.bl (!decide (x=y))) H
theorem xE {i j:Int}:decide (V.int i=V.int j)=(i==j):=by
 rw [Bool.eq_iff_iff]
 simp
theorem vB {i j:Bool}:decide (V.bl i=V.bl j)=(i==j):=by
 rw [Bool.eq_iff_iff]
 simp
theorem uT {i j:Str}:decide (V.str i=V.str j)=(i==j):=by
 rw [Bool.eq_iff_iff]
 simp
theorem zT {i j:Array UInt8}:decide (V.byt i=V.byt j)=(i.toList==j.toList):=by
 rw [Bool.eq_iff_iff]
 cases i
 cases j
 simp
section
variable {X:Cx}{a b c:Expr}{ta tb tc:TE}{pos:Pos}
theorem cF {pins:List (Addr×Obj)}{σ:St}{H:Hp}{s:Shared}{Q:VK}{k k':Bool}(I:Inv X pins σ H s)(q:Q (.bl k) H)(e:k=k'):EP X pins σ Q (.bool k') s:=by
 subst e
 exact⟨.bl k,H,I,rfl,q⟩
theorem eZ:OpR X (compareOp .Eq) rEq:=by
 intro pins s σ H x y v u Q I rx ry h
 obtain⟨hs,q⟩:=h
 cases x with
 |non=>
  cases rx
  cases y with
  |non=>cases ry;exact PySem.EqNone.eq_none_none (cF I q (by simp))
  |bl j=>cases ry;exact PySem.EqNone.eq_none_bool (cF I q (by simp))
  |int j=>obtain⟨t',rfl⟩:=ry;exact PySem.EqNone.eq_none_int (cF I q (by simp))
  |str j=>obtain⟨t',rfl⟩:=ry;exact PySem.EqNone.eq_none_str (cF I q (by simp))
  |_=>exact absurd (show false=true from hs) Bool.false_ne_true
 |bl i=>
  cases rx
  cases y with
  |non=>cases ry;exact PySem.EqNone.eq_bool_none (cF I q (by simp))
  |bl j=>cases ry;exact eq_bool (cF I q vB)
  |str j=>obtain⟨t',rfl⟩:=ry;exact PySem.EqMixed.eq_bool_str (cF I q (by simp))
  |_=>exact absurd (show false=true from hs) Bool.false_ne_true
 |int i=>
  obtain⟨t,rfl⟩:=rx
  cases y with
  |non=>cases ry;exact PySem.EqNone.eq_int_none (cF I q (by simp))
  |int j=>obtain⟨t',rfl⟩:=ry;exact eq_int (cF I q xE)
  |str j=>obtain⟨t',rfl⟩:=ry;exact PySem.EqMixed.eq_int_str (cF I q (by simp))
  |_=>exact absurd (show false=true from hs) Bool.false_ne_true
 |str i=>
  obtain⟨t,rfl⟩:=rx
  cases y with
  |non=>cases ry;exact PySem.EqNone.eq_str_none (cF I q (by simp))
  |bl j=>cases ry;exact PySem.EqMixed.eq_str_bool (cF I q (by simp))
  |int j=>obtain⟨t',rfl⟩:=ry;exact PySem.EqMixed.eq_str_int (cF I q (by simp))
  |str j=>obtain⟨t',rfl⟩:=ry;exact eq_str (cF I q uT)
  |_=>exact absurd (show false=true from hs) Bool.false_ne_true
 |byt i=>
  obtain⟨t,rfl⟩:=rx
  cases y with
  |byt j=>obtain⟨t',rfl⟩:=ry;exact W.eq_bytes (cF I q zT)
  |_=>exact absurd (show false=true from hs) Bool.false_ne_true
 |_=>cases y<;>exact absurd (show false=true from hs) Bool.false_ne_true
theorem gA:OpR X (compareOp .NotEq) rNe:=by
 intro pins s σ H x y v u Q I rx ry h
 obtain⟨hs,q⟩:=h
 cases x with
 |non=>
  cases rx
  cases y with
  |non=>cases ry;exact PySem.EqNone.ne_none_none (cF I q (by simp))
  |bl j=>cases ry;exact PySem.EqNone.ne_none_bool (cF I q (by simp))
  |int j=>obtain⟨t',rfl⟩:=ry;exact PySem.EqNone.ne_none_int (cF I q (by simp))
  |str j=>obtain⟨t',rfl⟩:=ry;exact PySem.EqNone.ne_none_str (cF I q (by simp))
  |_=>exact absurd (show false=true from hs) Bool.false_ne_true
 |bl i=>
  cases rx
  cases y with
  |non=>cases ry;exact PySem.EqNone.ne_bool_none (cF I q (by simp))
  |bl j=>cases ry;exact ne_bool (cF I q (congrArg not vB))
  |str j=>obtain⟨t',rfl⟩:=ry;exact PySem.EqMixed.ne_bool_str (cF I q (by simp))
  |_=>exact absurd (show false=true from hs) Bool.false_ne_true
 |int i=>
  obtain⟨t,rfl⟩:=rx
  cases y with
  |non=>cases ry;exact PySem.EqNone.ne_int_none (cF I q (by simp))
  |int j=>obtain⟨t',rfl⟩:=ry;exact ne_int (cF I q (congrArg not xE))
  |str j=>obtain⟨t',rfl⟩:=ry;exact PySem.EqMixed.ne_int_str (cF I q (by simp))
  |_=>exact absurd (show false=true from hs) Bool.false_ne_true
 |str i=>
  obtain⟨t,rfl⟩:=rx
  cases y with
  |non=>cases ry;exact PySem.EqNone.ne_str_none (cF I q (by simp))
  |bl j=>cases ry;exact PySem.EqMixed.ne_str_bool (cF I q (by simp))
  |int j=>obtain⟨t',rfl⟩:=ry;exact PySem.EqMixed.ne_str_int (cF I q (by simp))
  |str j=>obtain⟨t',rfl⟩:=ry;exact ne_str (cF I q (congrArg not uT))
  |_=>exact absurd (show false=true from hs) Bool.false_ne_true
 |byt i=>
  obtain⟨t,rfl⟩:=rx
  cases y with
  |byt j=>obtain⟨t',rfl⟩:=ry;exact W.ne_bytes (cF I q (congrArg not zT))
  |_=>exact absurd (show false=true from hs) Bool.false_ne_true
 |_=>cases y<;>exact absurd (show false=true from hs) Bool.false_ne_true
theorem lE:OpR X (compareOp .Lt) (rI0 fun i j=> .bl (decide (i<j))):=oE fun _ _ _ _ _ _ _ q=>lt_int q
theorem fC:OpR X (compareOp .LtE) (rI0 fun i j=> .bl (decide (i<=j))):=oE fun _ _ _ _ _ _ _ q=>le_int q
theorem A5i:OpR X (compareOp .Gt) (rI0 fun i j=> .bl (decide (j<i))):=oE fun _ _ _ _ _ _ _ q=>gt_int q
theorem kC:OpR X (compareOp .GtE) (rI0 fun i j=> .bl (decide (j<=i))):=oE fun _ _ _ _ _ _ _ q=>ge_int q
theorem vE:OpR X (compareOp .Is) (fun x y H Q=>y= .non/\Q (.bl (decide (x= .non))) H):=by
 intro pins s σ H x y v u Q I rx ry h
 obtain⟨rfl,q⟩:=h
 cases ry
 refine is_none_gen (cF I q ?_)
 cases x<;>first
  | (cases rx;rfl)
  | (obtain⟨t,rfl⟩:=rx;rfl)
theorem nomark (b:Expr){op:CmpOp}(h:op≠ .In:=by decide)(h2:op≠ .NotIn:=by decide):behindInMarks op b=false:=by
 have e1:(op==CmpOp.In)=false:=by cases op<;>first|rfl|exact absurd rfl h
 have e2:(op==CmpOp.NotIn)=false:=by cases op<;>first|rfl|exact absurd rfl h2
 cases b<;>simp [behindInMarks,e1,e2]
theorem iN {op:CmpOp}{r:R2}(ho:OpR X (compareOp op) r)(ha:PE X a ta)(hb:PE X b tb)(hm:behindInMarks op b=false):PE X (.Compare a [op] [b] pos) (tOp r ta tb):=by
 intro pins s σ H Q I h
 exact wpAny_Compare1 (qJ ha hb I h fun v u s2 x y H2 I2 rx ry q=>ho pins s2 σ H2 x y v u Q I2 rx ry q) hm
def uU (t:TE):TT:=fun σ H Q=>t σ H fun x H'=> ∃k,x= .bl k/\Q k H'
theorem bN {op:CmpOp}{r:R2}(ho:OpR X (compareOp op) r)(ha:PE X a ta)(hb:PE X b tb)(hm:behindInMarks op b=false):PT X (.Compare a [op] [b] pos) (uU (tOp r ta tb)):=by
 intro pins s σ H Q I h
 refine wpAny_isTrue_Compare1 (thn (ha pins s σ H _ I h) fun v s1 ⟨x,H1,I1,r1,q1⟩=>thn (hb pins s1 σ H1 _ I1 q1) fun u s2 ⟨y,H2,I2,r2,q2⟩=>
  thn (ho pins s2 σ H2 x y v u _ I2 r1 r2 q2) fun c s3 ⟨z,H3,I3,r3,k,e,q3⟩=> ?_) hm
 subst e
 cases r3
 exact wpAny_truthy_bool ⟨H3,I3,q3⟩
def uK (r r':R2)(ta tb tc:TE):TE:=fun σ H Q=>ta σ H fun x H1=>tb σ H1 fun y H2=>r x y H2 fun z H3=> ∃k,z= .bl k/\
 (if k=true then tc σ H3 fun w' H4=>r' y w' H4 Q else Q (.bl false) H3)
theorem sF {op op':CmpOp}{r r':R2}(ho:OpR X (compareOp op) r)(ho':OpR X (compareOp op') r')(ha:PE X a ta)(hb:PE X b tb)(hc:PE X c tc)
  (hm:lastMarks [op,op'] [b,c]=false:=by with_unfolding_all rfl):PE X (.Compare a [op,op'] [b,c] pos) (uK r r' ta tb tc):=by
 intro pins s σ H Q I h
 refine Compare_chain (thn (ha pins s σ H _ I h) fun v s1 ⟨x,H1,I1,r1,q1⟩=>chain_link (thn (hb pins s1 σ H1 _ I1 q1) fun u s2 ⟨y,H2,I2,r2,q2⟩=>
  thn (ho pins s2 σ H2 x y v u _ I2 r1 r2 q2) fun d s3 ⟨z,H3,I3,r3,k,e,q3⟩=> ?_)) hm
 subst e
 cases r3
 refine wpAny_truthy_bool ?_
 cases k with
 |false=>exact ite_ff ⟨.bl false,H3,I3,rfl,q3⟩
 |true=>exact ite_tt (chain_last (thn (hc pins s3 σ H3 _ I3 q3) fun w' s4 ⟨z',H4,I4,r4,q4⟩=>ho' pins s4 σ H4 y z' u w' Q I4 r2 r4 q4))
theorem mR {op op':CmpOp}{r r':R2}(ho:OpR X (compareOp op) r)(ho':OpR X (compareOp op') r')(ha:PE X a ta)(hb:PE X b tb)(hc:PE X c tc)
  (hm:lastMarks [op,op'] [b,c]=false:=by with_unfolding_all rfl):PT X (.Compare a [op,op'] [b,c] pos) (uU (uK r r' ta tb tc)):=by
 intro pins s σ H Q I h
 refine isTrue_chain (thn (ha pins s σ H _ I h) fun v s1 ⟨x,H1,I1,r1,q1⟩=>test_link (thn (hb pins s1 σ H1 _ I1 q1) fun u s2 ⟨y,H2,I2,r2,q2⟩=>
  thn (ho pins s2 σ H2 x y v u _ I2 r1 r2 q2) fun d s3 ⟨z,H3,I3,r3,k,e,q3⟩=> ?_)) hm
 subst e
 cases r3
 refine wpAny_truthy_bool ?_
 cases k with
 |false=>
  obtain⟨k',e',q'⟩:=q3
  cases e'
  exact ite_ff ⟨H3,I3,q'⟩
 |true=>
  refine ite_tt (test_last (thn (hc pins s3 σ H3 _ I3 q3) fun w' s4 ⟨z',H4,I4,r4,q4⟩=>thn (ho' pins s4 σ H4 y z' u w' _ I4 r2 r4 q4) fun d' s5 ⟨z2,H5,I5,r5,k2,e2,q5⟩=> ?_))
  subst e2
  cases r5
  exact wpAny_truthy_bool ⟨H5,I5,q5⟩
theorem nR:(sizeLine:Nat)<2^63:=by rw [sizeLine_eq];decide
theorem fT {x:V}{us:List Value}(r:Vals [x] us):∃u,us=[u]/\RelV x u:=by
 cases r with
 |cons r1 r2=>cases r2;exact⟨_,rfl,r1⟩
theorem kK {x y:V}{us:List Value}(r:Vals [x,y] us):∃u w',us=[u,w']/\RelV x u/\RelV y w':=by
 cases r with
 |cons r1 r2=>
  cases r2 with
  |cons r3 r4=>cases r4;exact⟨_,_,rfl,r1,r3⟩
theorem uA:fE X (.builtin "abs") (fun xs H Q=> ∃i,xs=[.int i]/\Q (.int (if i<0 then -i else i)) H):=by
 intro pins s σ H xs us Q I r h
 obtain⟨i,rfl,q⟩:=h
 obtain⟨u,rfl,t,rfl⟩:=fT r
 exact call_abs_int fun u tk=> ⟨.int (if i<0 then -i else i),H,I.tok _,⟨_,rfl⟩,q⟩
theorem qF:fE X (.type "int") (fun xs H Q=>(∃i,xs=[.int i]/\Q (.int i) H)\/ ∃k,xs=[.bl k]/\Q (.int (if k then 1 else 0)) H):=by
 intro pins s σ H xs us Q I r h
 rcases h with⟨i,rfl,q⟩| ⟨k,rfl,q⟩
 ·obtain⟨u,rfl,t,rfl⟩:=fT r
  exact call_int_int ⟨.int i,H,I,⟨_,rfl⟩,q⟩
 ·obtain⟨u,rfl,r1⟩:=fT r
  cases r1
  exact call_int_bool ⟨.int (if k then 1 else 0),H,I.tok _,⟨_,rfl⟩,q⟩
end
structure ObjM (h:Heap)(x dx C:Addr)(mA:Str->Option Value):Prop where
 obj:h.get? x=some (W.instObj C dx)
 ns:h.Ns1 dx mA
 ne:dx≠x
theorem zX {h:Heap}{dx:Addr}{mA:Str->Option Value}(n:h.Ns1 dx mA):∃od,h.get? dx=some od/\∀name,W.lookIn name od=some (mA name):=by
 obtain⟨o,es,ep,ho,hd,hk,_,hm⟩:=n
 refine⟨o,ho,fun name=> ?_⟩
 have e:=hm name
 unfold nsFind findBy at e
 rw [←Array.find?_toList]at e
 unfold W.lookIn
 rw [hd]
 dsimp only
 split
 ·rename_i y q
  rw [q]at e
  exact congrArg some e
 ·rename_i q
  rw [q]at e
  have a:es.toList.any (·.refKey)=false:=by
   rw [List.any_eq_false]
   intro y hy
   obtain⟨z,t,hkey⟩:=hk y (Array.mem_toList_iff.mp hy)
   simp [DictEntry.refKey,hkey]
  have a':¬es.toList.any (·.refKey)=true:=by rw [a];exact Bool.false_ne_true
  rw [if_neg a']
  exact congrArg some e
theorem ObjM.look {h:Heap}{x dx C:Addr}{mA:Str->Option Value}(I:ObjM h x dx C mA):∃od,W.InstAt h x (W.instObj C dx) C (some od)/\∀name,W.lookIn name od=some (mA name):=
 let ⟨od,ho,hl⟩:=zX I.ns
 ⟨od,⟨I.obj,rfl,rfl,ho⟩,hl⟩
section
variable {prog:Program}{w:World}{A:Around}{E:Value->Shared->Prop}{s:Shared}{K:W.Frag}{x dx C f:Addr}{mA:Str->Option Value}{name:Str}{v:Value}
end
theorem RelO.some_of {v:V}{o:Option Value}(r:RelO (some v) o):∃u,o=some u/\RelV v u:=by
 cases o with
 |none=>exact(show False from r).elim
 |some u=>exact⟨u,rfl,r⟩
section
variable {P:Program}{w:World}{H H':Hp}{h h':Heap}{a C dx:Addr}{fs fs':List (Str×V)}
theorem A5w (hok:HOk P w H h)(e:H a=some (.ins C dx fs)):∃mA,ObjM h a dx C mA/\(∀f,RelO (fs.lookup f) (mA f))/\PySem.Within mA (fs.map (·.1))/\fs.length<=1000/\H dx=some (.own a):=by
 obtain⟨d,z,ne,ob,mA,n,r,q⟩:=(show ObjOk P w H h a (.ins C dx fs)from hok a _ e)
 exact⟨mA,⟨ob,n,ne⟩,r,q,z,d⟩
end
structure Cls (K:W.Frag)(C:Addr):Prop where
 pg:W.plainGet K C Str.empty=true
 hd:W.hasDictIn K C=true
 po:W.plainOver K C=true
 sa:W.findIn K (.ref C) "__setattr__" =some (some (.builtin "object.__setattr__"))
theorem Cls.get {K:W.Frag}{C:Addr}(c:Cls K C)(f:Str):W.plainGet K C f=true:=c.pg
section
variable {X:Cx}{pins:List (Addr×Obj)}{σ:St}{H:Hp}{s:Shared}{a C dx:Addr}{fs:List (Str×V)}{f:Str}{v:V}{A:Around}{E:Value->Shared->Prop}
end
section
variable {X:Cx}{o e value:Expr}{f:Str}{pos pos' tpos:Pos}{ta tv:TE}
end
section
variable {X:Cx}{pins:List (Addr×Obj)}{σ:St}{H:Hp}{s:Shared}{A:Around}{E:Value->Shared->Prop}{Q:Value->Shared->Prop}{c:Value}{b:Bool}
inductive TyOf (K:W.Frag) (H:Hp):V->Value->Prop where
 |non:TyOf K H .non (.type "NoneType")
 |bl (x:Bool):TyOf K H (.bl x) (.type "bool")
 |int (i:Int):TyOf K H (.int i) (.type "int")
 |str (x:Str):TyOf K H (.str x) (.type "str")
 |flt (x:UInt64):TyOf K H (.flt x) (.type "float")
 |lst {a:Addr} {xs:List V} (e:H a=some (.lst xs)):TyOf K H (.ref a) (.type "list")
 |frz {a:Addr} {o:Obj} {xs:List V} (e:H a=some (.frz o (.lst xs))):TyOf K H (.ref a) (.type "list")
 |tup {a:Addr} {xs:List V} (e:H a=some (.tup xs)):TyOf K H (.ref a) (.type "tuple")
 |dK {a:Addr} {kvs:List (Key×V)} (e:H a=some (.dK kvs)):TyOf K H (.ref a) (.type "dict")
 |dT {a:Addr} {kvs:List (List Key×V)} (e:H a=some (.dT kvs)):TyOf K H (.ref a) (.type "dict")
 |ins {a C dx:Addr} {fs:List (Str×V)} (e:H a=some (.ins C dx fs)) (cl:Cls K C) (ha:W.findIn K (.ref C) "__class__" =some (some (.builtin "object.__class__")))
   (hn:W.specialIn K (.builtin "object.__class__") "__get__" =some (some (.builtin "getset_descriptor.__get__"))) (htk:W.takesIn K (.builtin "object.__class__")=some true)
   (hm:W.mroIn K C (.type "object")=some true):TyOf K H (.ref a) (.ref C)
theorem A6h {x:V}{u t:Value}(I:Inv X pins σ H s)(rx:RelV x u)(ty:TyOf X.K H x t)(e:W.kitOne X.K t c=some b)(h:∀tk,Q (.bool b) {s with toks:=tk}):
  wpAny (model X.prog X.w) A (call (.builtin "isinstance") [u,c]) Q E s:=by
 cases ty with
 |non=>cases (show u=Value.none from rx);exact W.kia_one W.kitx_none I.kIn True.intro e (fun z=>nomatch z) h
 |bl y=>cases (show u=Value.bool y from rx);exact W.kia_one W.kitx_bool I.kIn True.intro e (fun z=>nomatch z) h
 |int i=>obtain⟨t,q⟩:=(show∃t,u=Value.int i t from rx);cases q;exact W.kia_one W.kitx_int I.kIn True.intro e (fun z=>nomatch z) h
 |str y=>obtain⟨t,q⟩:=(show∃t,u=Value.str y t from rx);cases q;exact W.kia_one W.kitx_str I.kIn True.intro e (fun z=>nomatch z) h
 |flt y=>obtain⟨t,q⟩:=(show∃t,u=Value.float y t from rx);cases q;exact W.kia_one W.kitx_float I.kIn True.intro e (fun z=>nomatch z) h
 | @lst a xs ea=>
  cases (show u=Value.ref a from rx)
  obtain⟨_,_,n,_,h1⟩:=(show ObjOk X.prog X.w H s.heap a (.lst xs)from I.hok a _ ea)
  exact W.kia_one W.kitx_list I.kIn ⟨_,h1,rfl⟩ e (fun z=>nomatch z) h
 | @frz a ob xs ea=>
  cases (show u=Value.ref a from rx)
  obtain⟨_,_,_,n,_,h1⟩:=(show ObjOk X.prog X.w H s.heap a (.frz ob (.lst xs))from I.hok a _ ea)
  exact W.kia_one W.kitx_list I.kIn ⟨_,h1,rfl⟩ e (fun z=>nomatch z) h
 | @tup a xs ea=>
  cases (show u=Value.ref a from rx)
  obtain⟨_,_,_,p⟩:=(show ObjOk X.prog X.w H s.heap a (.tup xs)from I.hok a _ ea)
  obtain⟨o,h1,h2,_⟩:=p
  exact W.kia_one W.kitx_tuple I.kIn ⟨o,h1,h2⟩ e (fun z=>nomatch z) h
 | @dK a kvs ea=>
  cases (show u=Value.ref a from rx)
  obtain⟨_,_,vs,_,p⟩:=(show ObjOk X.prog X.w H s.heap a (.dK kvs)from I.hok a _ ea)
  obtain⟨o,es,ep,h1,h2,_⟩:=p
  exact W.kia_one W.kitx_dict I.kIn ⟨o,h1,h2.1⟩ e (fun z=>nomatch z) h
 | @dT a kvs ea=>
  cases (show u=Value.ref a from rx)
  obtain⟨_,_,xs,_,o,es,ep,h1,h2,_⟩:=(show ObjOk X.prog X.w H s.heap a (.dT kvs)from I.hok a _ ea)
  exact W.kia_one W.kitx_dict I.kIn ⟨o,h1,h2.1⟩ e (fun z=>nomatch z) h
 | @ins a C dx fs ea cl ha hn htk hm=>
  cases (show u=Value.ref a from rx)
  obtain⟨mA,O,_⟩:=A5w I.hok ea
  obtain⟨od,J,_⟩:=O.look
  exact W.kia_one (W.kitx_own (cl.get _) cl.hd ha hn htk hm) I.kIn J e (fun z=>nomatch z) h
end
structure Room (k:Nat)(A:Around):Prop where
 hd:A.handled=none
 dp:A.depth+3*k+5<recursionLimit
 un:A.units+16*k+200<cLine
 gd:A.guards=some []
theorem Room.mono {j k:Nat}{A:Around}(r:Room k A)(h:j<=k):Room j A:=⟨r.hd,by have:=r.dp;omega,by have:=r.un;omega,r.gd⟩
theorem Room.deeper {k:Nat}{A:Around}(r:Room (k+1) A)(env:Env):Room k (A.deeper env):=
 ⟨r.hd,by have:=r.dp;show A.depth+1+3*k+5<_;omega,by have:=r.un;show A.units+3+16*k+200<_;omega,r.gd⟩
theorem Room.depth {k:Nat}{A:Around}(r:Room k A):A.depth<recursionLimit:=by have:=r.dp;omega
theorem Room.units {k:Nat}{A:Around}(r:Room k A):A.units+64<cLine:=by have:=r.un;omega
def gZ:TA:=fun _ H Q=>Q [] H
def bZ (ta:TE)(tr:TA):TA:=fun σ H Q=>ta σ H fun x H1=>tr σ H1 fun xs H2=>Q (x::xs) H2
section
variable {X:Cx}{e:Expr}{es:List Expr}{te:TE}{t:TA}{pos:Pos}
theorem aA:PA X [] gZ:=fun _ _ _ _ H Q I h=>Calls.spliced_nil ⟨[],H,I,.nil,h⟩
theorem bH (ha:PE X e te)(hr:PA X es t)(hs:starEach (e::es) X.env=(false,eval e X.env)::starEach es X.env:=by rfl):PA X (e::es) (bZ te t):=by
 intro pos pins s σ H Q I h
 rw [hs]
 show wpAny _ _ (spliced ((false,eval e X.env)::backTo pos (starEach es X.env))) _ _ s
 refine Calls.spliced_cons (thn (ha pins s σ H _ I h) fun u s1 ⟨x,H1,I1,r1,q1⟩=> ?_)
 exact thn (hr pos pins s1 σ H1 _ I1 q1) fun us s2 ⟨xs,H2,I2,r2,q2⟩=> ⟨x::xs,H2,I2,.cons r1 r2,q2⟩
def jS (t:TA):TE:=fun σ H Q=>t σ H fun xs H1=>xs.length<=sizeLine/\∀p,H1 p=none->Q (.ref p) (upd H1 p (.tup xs))
def nA (t:TA):TE:=fun σ H Q=>t σ H fun xs H1=>xs.length<=sizeLine/\∀p,H1 p=none->Q (.ref p) (upd H1 p (.lst xs))
theorem cZ {x1}(h:PA X es t):PE X (.Tuple es x1 pos) (jS t):=by
 intro pins s σ H Q I hq
 refine wpAny_Tuple_spliced (thn (h pos pins s σ H _ I hq) fun us s1 ⟨xs,H1,I1,r,z,q⟩=> ⟨by rw [←r.length];exact z,?_⟩)
 have hf:H1 s1.heap.objs.size=none:=I1.hok.fresh (zjQ _)
 refine⟨.ref s1.heap.objs.size,upd H1 s1.heap.objs.size (.tup xs),I1.laid (t':=s1.toks) (fun b u e=>zjX _ e) (zjQ _) ?_,rfl,q _ hf⟩
 exact⟨z,us,r,⟨_,get?_push_size _ rfl,rfl,_,rfl⟩⟩
theorem dU (h:PA X es t):PE X (.List es pos) (nA t):=by
 intro pins s σ H Q I hq
 refine wpAny_List_spliced (thn (h pos pins s σ H _ I hq) fun us s1 ⟨xs,H1,I1,r,z,q⟩=> ⟨by rw [←r.length];exact z,?_⟩)
 have hf:H1 s1.heap.objs.size=none:=I1.hok.fresh (zjQ _)
 refine⟨.ref s1.heap.objs.size,upd H1 s1.heap.objs.size (.lst xs),I1.laid (t':=s1.toks) (fun b u e=>zjX _ e) (zjQ _) ?_,rfl,q _ hf⟩
 exact⟨z,us,0,r,get?_push_size _ rfl⟩
end
abbrev Sp:=List V->Hp->VK->XK->Prop
abbrev CXT:=List Env->Hp->Shared->XK->Value->Shared->Prop
structure jG (P:Program)(w:World)(K:W.Frag)(mg:Str->Option Value)(base:Heap)(A:Around)(outer:List Env)(s:Shared)(H:Hp):Prop where
 frames:A.frames=some outer
 mod:Mod K mg base
 bs:∀b o,base.get? b=some o->s.heap.get? b=some o/\H b=none
 bsz:base.objs.size<=s.heap.objs.size
 funs:s.heap.FunFrames base outer
 frf:∀b∈frs outer,H b=none
 hok:HOk P w H s.heap
 bare:AllBare s.gens
def CE (outer:List Env)(P:Program)(w:World)(H:Hp)(s:Shared)(Q:VK)(u:Value)(s':Shared):Prop:=
 ∃v H',s'.os=s.os/\AllBare s'.gens/\Un (frs outer) [] H H' s.heap s'.heap/\HOk P w H' s'.heap/\RelV v u/\Q v H'
def CR (CX:CXT)(outer:List Env)(P:Program)(w:World)(H:Hp)(s:Shared)(Q:VK)(E:XK)(r:Result)(s':Shared):Prop:=
 match r with
 | .ok (.ret u)=>CE outer P w H s Q u s'
 | .ok _=>False
 | .error e=>CX outer H s E e s'
structure FnOk (P:Program)(w:World)(K:W.Frag)(mg:Str->Option Value)(base:Heap)(CX:CXT)(k:Nat)(f:Addr)(fd:FuncData)(ps:List Str)(sp:Sp):Prop where
 len:∀vs H Q E,sp vs H Q E->vs.length=ps.length
 run:∀(A:Around)(outer:List Env)(s:Shared)(H:Hp)(args:Args)(us:List Value)(vs:List V)(Q:VK)(E:XK),Room k A->jG P w K mg base A outer s H->BindsTo s fd args (ps.zip us)->Vals vs us->sp vs H Q E->
  codeAny (model P w) A (.call (.ref f) args) (CR CX outer P w H s Q E) s
theorem FnOk.imp {P:Program}{w:World}{K:W.Frag}{mg:Str->Option Value}{base:Heap}{CX:CXT}{k:Nat}{f:Addr}{fd:FuncData}{ps:List Str}{sp sp':Sp}(F:FnOk P w K mg base CX k f fd ps sp)
  (h:∀vs H Q E,sp' vs H Q E->sp vs H Q E):FnOk P w K mg base CX k f fd ps sp':=
 ⟨fun vs H Q E q=>F.len vs H Q E (h _ _ _ _ q),fun A outer s H args us vs Q E hr he hb hv hs=>F.run A outer s H args us vs Q E hr he hb hv (h _ _ _ _ hs)⟩
section
variable {X:Cx}{pins:List (Addr×Obj)}{σ:St}{H:Hp}{s s':Shared}
theorem Inv.env0 (I:Inv X pins σ H s):jG X.prog X.w X.K X.mg X.base X.A X.stack s H:=
 ⟨I.ok.frames,I.ok.mod,I.bs,le_trans I.ok.bsz I.sz,I.stack,I.stkFree,I.hok,I.bare⟩
theorem Inv.after {Q:VK}{u:Value}(I:Inv X pins σ H s)(h:CE X.stack X.prog X.w H s Q u s'):EP X pins σ Q u s':=by
 obtain⟨v,H',os,bare,un,hok,r,q⟩:=h
 obtain⟨hh,g,d,t,os'⟩:=s'
 obtain rfl:os'=s.os:=os
 exact⟨v,H',I.call (h':=hh) (g':=g) (d':=d) (t':=t) (ch:=[]) un hok bare (fun b z=>absurd z (by simp)),r,q⟩
end
def yG (sp:Sp)(dvs:List V)(E:XK)(t:TA):TE:=fun σ H Q=>t σ H fun vs H1=>sp (vs++dvs) H1 Q E
def Binds (K:W.Frag)(fd:FuncData)(ps:List Str)(ds:List Value):Prop:=
 ∀(s:Shared)(us:List Value),K.In s.heap->(us++ds).length=ps.length->BindsTo s fd ⟨us,[]⟩ (ps.zip (us++ds))
theorem Binds.all {K:W.Frag}{fd:FuncData}{ps:List Str}(h:∀us:List Value,us.length=ps.length->bindArgs fd ⟨us,[]⟩=pure (ps.zip us)):Binds K fd ps []:=fun s us _ hl=>by
 rw [append_nil]at hl⊢
 exact .of_eq (h us hl)
def jR (CX:CXT)(X:Cx)(E:XK):Prop:=∀(pins:List (Addr×Obj))(σ:St)(H:Hp)(s:Shared)(e:Value)(s':Shared),Inv X pins σ H s->CX X.stack H s E e s'->X.xe e s'
section
variable {X:Cx}{CX:CXT}{k:Nat}{f C:Addr}{fd:FuncData}{ps:List Str}{sp:Sp}{dvs:List V}{ds:List Value}{E:XK}{x m:Str}{p pos apos:Pos}{e o:Expr}{es:List Expr}{ta:TE}{t:TA}
theorem A8u {pins:List (Addr×Obj)}{σ:St}{H:Hp}{s:Shared}{Q:VK}{us:List Value}{vs:List V}(F:FnOk X.prog X.w X.K X.mg X.base CX k f fd ps sp)(hr:Room k X.A)(hb:Binds X.K fd ps ds)(hd:Vals dvs ds)(hx:jR CX X E)
  (I:Inv X pins σ H s)(r:Vals vs us)(h:sp (vs++dvs) H Q E):wpAny (model X.prog X.w) X.A (call (.ref f) us) (EP X pins σ Q) X.xe s:=by
 have r2:Vals (vs++dvs) (us++ds):=r.append hd
 have hl:(us++ds).length=ps.length:=by rw [←r2.length];exact F.len _ _ _ _ h
 refine wpAny_call (codeAny_mono (F.run X.A X.stack s H ⟨us,[]⟩ (us++ds) (vs++dvs) Q E hr I.env0 (hb s us I.kIn hl) r2 h) fun r s' hq=> ?_)
 cases r with
 |error e=>exact hx pins σ H s e s' I hq
 |ok fl=>
  cases fl with
  |ret u=>exact I.after hq
  |next=>exact False.elim hq
  |brk=>exact False.elim hq
  |cont=>exact False.elim hq
theorem aX (F:FnOk X.prog X.w X.K X.mg X.base CX k f fd ps sp)(hr:Room k X.A)(hg:Gl X x)(hm:X.mg x=some (.ref f))(hk:W.keepIn X.K (.ref f)=true)(hb:Binds X.K fd ps ds)(hd:Vals dvs ds)(hx:jR CX X E)
  (ha:PA X (e::es) t)(hdb:(x==("__debug__":Str))=false:=by decide)(he:starEach (e::es) X.env=(false,eval e X.env)::starEach es X.env:=by rfl)(hpl:(backTo pos (starEach es X.env)).any (·.1)=false:=by rfl):
  PE X (.Call (.Name x p) (e::es) [] pos) (yG sp dvs E t):=by
 intro pins s σ H Q I h
 refine wpAny_Call_Name_kw (mG I hg hm ?_ hdb)
 refine W.callWith_K (h₀:=X.base) I.ok.mod.kin hk (thn (ha pos pins s σ H _ I h) fun us s1 ⟨vs,H1,I1,r,q⟩=> ⟨I1.kIn,?_⟩) he hpl
 exact A8u F hr hb hd hx I1 r q
structure Mk (K:W.Frag)(C f:Addr):Prop where
 makes:W.makesIn K C=true
 init:W.findIn K (.ref C) "__init__" =some (some (.ref f))
 fn:W.isFn K (.ref f)=true
 kp:W.keepIn K (.ref C)=true
end
section
variable {X:Cx}{CX:CXT}{k:Nat}{f C:Addr}{fd:FuncData}{ps ks:List Str}{sp:Sp}{E:XK}{x m:Str}{p pos apos kpos:Pos}{e o:Expr}{es:List Expr}{kws:List Keyword}{te ta:TE}{t tk:TA}{nm:Option Str}
variable {g:List Value->List Value->List Value}{gV:List V->List V->List V}
end
structure bV (N P:List Str)(sc:Scope):Prop where
 kind:sc.kind= .function
 co:sc.isCoroutine=false
 gen:sc.isGenerator=false
 nd:N.Nodup
 pre:N.take P.length=P
 par:∀x∈P,sc.names.lookup x=some .local\/sc.names.lookup x=some .cell
 nofree:∀y∈sc.names,y.2≠ .free
theorem zG {kindOf:Str->Option NameKind}{x:Str}:∀{binds:List (Str×Value)}{m:Str->Option Value},(∀v,(x,v)∉binds)->bindL kindOf binds m x=m x
 | [],_,_=>rfl
 | (n,v)::r,m,h=>by
  unfold bindL
  rw [zG fun w hw=>h w (zjS _ hw)]
  split
  ·have:x≠n:=by rintro rfl;exact h v zjR
   simp [this]
  ·rfl
theorem uI {kindOf:Str->Option NameKind}{x:Str}:∀{binds:List (Str×Value)}{m:Str->Option Value},(∀v,(x,v)∉binds)->bindC kindOf binds m x=m x
 | [],_,_=>rfl
 | (n,v)::r,m,h=>by
  unfold bindC
  rw [uI fun w hw=>h w (zjS _ hw)]
  split
  ·rfl
  ·have:x≠n:=by rintro rfl;exact h v zjR
   simp [this]
theorem zO {kindOf:Str->Option NameKind}{x:Str}{v:Value}:∀{P:List Str}{vs:List Value}{i:Nat}{m:Str->Option Value},P.Nodup->P[i]?=some x->vs[i]?=some v->kindOf x=some .local->
  bindL kindOf (P.zip vs) m x=some v
 | [],_,_,_,_,h,_,_=>by simp at h
 |_::_,[],_,_,_,_,h,_=>by simp at h
 |p::P,w::vs,0,m,nd,h1,h2,hk=>by
  simp at h1 h2;subst h1;subst h2
  show bindL kindOf ((p,w)::P.zip vs) m p=_
  unfold bindL
  rw [zG fun v hv=>(nodup_cons.mp nd).1 (of_mem_zip hv).1,if_pos hk]
  simp
 |p::P,w::vs,i+1,m,nd,h1,h2,hk=>by
  show bindL kindOf ((p,w)::P.zip vs) m x=_
  unfold bindL
  exact zO (i:=i) (nodup_cons.mp nd).2 (by simpa using h1) (by simpa using h2) hk
theorem yO {kindOf:Str->Option NameKind}{x:Str}{v:Value}:∀{P:List Str}{vs:List Value}{i:Nat}{m:Str->Option Value},P.Nodup->P[i]?=some x->vs[i]?=some v->kindOf x≠some .local->
  bindC kindOf (P.zip vs) m x=some v
 | [],_,_,_,_,h,_,_=>by simp at h
 |_::_,[],_,_,_,_,h,_=>by simp at h
 |p::P,w::vs,0,m,nd,h1,h2,hk=>by
  simp at h1 h2;subst h1;subst h2
  show bindC kindOf ((p,w)::P.zip vs) m p=_
  unfold bindC
  rw [uI fun v hv=>(nodup_cons.mp nd).1 (of_mem_zip hv).1,if_neg hk]
  simp
 |p::P,w::vs,i+1,m,nd,h1,h2,hk=>by
  show bindC kindOf ((p,w)::P.zip vs) m x=_
  unfold bindC
  exact yO (i:=i) (nodup_cons.mp nd).2 (by simpa using h1) (by simpa using h2) hk
def start (N:List Str)(vs:List V):St:=vs.map some++replicate (N.length - vs.length) none
def cV (CX:CXT)(P:Program)(w:World)(K:W.Frag)(mg:Str->Option Value)(base:Heap)(N:List Str)(qual:Str)(scope:Scope)(f:Addr)(cd:Value)(A:Around)(outer:List Env)(s:Shared)(H:Hp)(E:XK):Cx where
 prog:=P
 w:=w
 K:=K
 mg:=mg
 base:=base
 A:=A.deeper (envOfC qual scope s.heap.objs.size f cd)
 N:=N
 s₀:=s
 H₀:=H
 env:=envOfC qual scope s.heap.objs.size f cd
 outer:=outer
 stack:=envOfC qual scope s.heap.objs.size f cd::outer
 ex:=[]
 calm:=true
 fn:=fun _=>true
 pn:=[]
 xe:=fun e s'=>wpAny (model P w) (A.deeper (envOfC qual scope s.heap.objs.size f cd)) (leaving (envOfC qual scope s.heap.objs.size f cd) e) (fun _ s''=>CX outer H s E e s'') (fun e' s''=>CX outer H s E e' s'') s'
theorem zU {sc:Scope}{n:Nat}{x:Str}(h:sc.names.lookup x=some .cell):∃c,(cellsFrom n sc.names []).lookup x=some c:=by
 have q:=W.cellsFrom_some sc.names n [] (.inl h)
 exact Option.isSome_iff_exists.mp q
theorem wA {CX:CXT}{P:Program}{w:World}{K:W.Frag}{mg:Str->Option Value}{base:Heap}{N ps:List Str}{qual:Str}{scope:Scope}{f:Addr}{cd:Value}{A:Around}{outer:List Env}{s s1:Shared}{H:Hp}{E:XK}{us:List Value}{vs:List V}
  (S:bV N ps scope)(hd:A.handled=none)(e0:jG P w K mg base A outer s H)(hl:vs.length=ps.length)(r:Vals vs us)
  (x:InCallC s s.heap.objs.size (bindL (envOfC qual scope s.heap.objs.size f cd).kindOf (ps.zip us) fun _=>none) (cellsFrom (s.heap.objs.size+1) scope.names []) (bindC (envOfC qual scope s.heap.objs.size f cd).kindOf (ps.zip us) fun _=>none) s1):
  Inv (cV CX P w K mg base N qual scope f cd A outer s H E) [] (start N vs) H s1:=by
 have hpl:ps.length<=N.length:=by have:=congrArg List.length S.pre;rw [length_take]at this;omega
 obtain⟨h1,tk,rfl,hk⟩:=x.done
 have noA:∀b:Addr,b∉(cV CX P w K mg base N qual scope f cd A outer s H E).ex:=fun b z=>absurd (show b∈([]:List Addr)from z) (by simp)
 refine⟨⟨e0.mod,S.kind,rfl,rfl,zjQ _,fun y z c h1 h2=> ?_,fun y hy=> ?_,fun y c _ h=> ?_,fun _=>hd,Around.frames_deeper e0.frames,.inr ⟨rfl,rfl⟩,fun b z=>absurd z (noA b),e0.bs,e0.bsz,fun b _ _=>noA b,fun b z=>absurd z (noA b),e0.funs,e0.frf⟩,
  rfl,e0.bare,Un.kept hk,⟨_,x.toInCall.ns,fun i y v h1 h2 h3=> ?_⟩,fun y c h=> ⟨_,x.cell y c h⟩,e0.hok.fresh (zjQ _),fun y c h=> ?_,fun p hp=>absurd (show p∈([]:List (Addr×Obj))from hp) (by simp),e0.hok.kept hk,?_⟩
 ·exact name_of_addr x.apart (PySem.mem_of_lookup h1) (PySem.mem_of_lookup h2)
 ·have hy:scope.names.lookup y=some .cell\/scope.names.lookup y=some .free:=hy
  rcases hy with hy|hy
  ·exact zU hy
  ·exact absurd rfl (S.nofree _ (PySem.mem_of_lookup hy))
 ·exact le_of_lt (x.above y c (PySem.mem_of_lookup h))
 ·have hi:i<vs.length:=by
   unfold start at h2
   by_cases hi:i<vs.length
   ·exact hi
   ·rw [getElem?_append_right (by simpa using hi)]at h2
    rw [getElem?_replicate]at h2
    split at h2<;>cases h2
  have ha:vs[i]?=some v:=by
   unfold start at h2
   rw [getElem?_append_left (by simpa using hi),getElem?_map]at h2
   cases e:vs[i]? with
   |none=>rw [e]at h2;cases h2
   |some a=>rw [e]at h2;cases h2;rfl
  obtain⟨u,hu,rv⟩:=r.get ha
  have hp:ps[i]?=some y:=by
   rw [←S.pre,List.getElem?_take_of_lt (by omega)];exact h1
  have ndP:ps.Nodup:=by rw [←S.pre];exact S.nd.sublist (List.take_sublist _ _)
  refine⟨u,rv,?_⟩
  rcases S.par y (mem_of_getElem? hp)with k|k
  ·exact .inl ⟨k,zO ndP hp hu k⟩
  ·obtain⟨c,e⟩:=zU (n:=s.heap.objs.size+1) k
   refine .inr ⟨.inl k,c,e,?_⟩
   have q:=x.cell y c e
   rw [yO ndP hp hu (by show scope.names.lookup y≠_;rw [k];decide)]at q
   exact q
 ·exact e0.hok.fresh (le_of_lt (x.above y c (PySem.mem_of_lookup h)))
 ·unfold start
  show _=N.length
  rw [length_append,length_map,length_replicate]
  omega
theorem sX {CX:CXT}{P:Program}{w:World}{K:W.Frag}{mg:Str->Option Value}{base:Heap}{k:Nat}{f:Addr}{name qual:Str}{params:Arguments}{body:List Stmt}{scope:Scope}{dV kV doc pm cdv ct oc:Value}{an od:Option Addr}
  {osl:Array (Option Value)}{N ps:List Str}{sp:Sp}(lk:K.lookup f=some ⟨oc,od,.func (W.fnOf name qual params body scope dV kV doc pm an cdv ct),osl⟩)(hcd:W.codeIn K cdv qual=true)(S:bV N ps scope)
  (len:∀vs H Q E,sp vs H Q E->vs.length=ps.length)
  (hbody:∀(A:Around)(outer:List Env)(s:Shared)(H:Hp)(vs:List V)(Q:VK)(E:XK),Room k (A.deeper (envOfC qual scope s.heap.objs.size f cdv))->sp vs H Q E->
   ∃t,PSs (cV CX P w K mg base N qual scope f cdv A outer s H E) body t/\t {nx:=fun _ H'=>Q .non H',rt:=Q} (start N vs) H):
  FnOk P w K mg base CX (k+1) f (W.fnOf name qual params body scope dV kV doc pm an cdv ct) ps sp:=by
 refine⟨len,fun A outer s H args us vs Q E hr e0 hb r hsp=> ?_⟩
 have hl:=len _ _ _ _ hsp
 have KX:K.In s.heap:=e0.mod.kin.keeps fun b o e=>(e0.bs b o e).1
 have lim:s.heap.NoLimit:=e0.mod.nolimit.keeps fun b o e=>(e0.bs b o e).1
 have hkind:∀y∈ps.zip us,scope.names.lookup y.1=some .local\/(scope.names.lookup y.1=some .cell/\((cellsFrom (s.heap.objs.size+1) scope.names []).lookup y.1).isSome=true):=fun⟨n,v⟩ hy=>by
  rcases S.par n (of_mem_zip hy).1 with q|q
  ·exact .inl q
  ·exact .inr ⟨q,W.cellsFrom_some _ _ _ (.inl q)⟩
 refine codeAny_call_function hr.depth (KX _ _ lk) rfl S.co S.gen rfl (W.codeRec_of KX hcd) (hb _ _ _ _ ?_)
 refine wpAny_newFunctionEnv_cells S.kind hkind fun env he s1 x=> ?_
 subst he
 refine⟨lim.keeps x.toInCall.keep,codeAny_func ?_⟩
 obtain⟨t,ht,hq⟩:=hbody A outer s H vs Q E (hr.deeper _) hsp
 have I:Inv (cV CX P w K mg base N qual scope f cdv A outer s H E) [] (start N vs) H s1:=wA S hr.hd e0 hl r x
 refine wpAny_mono (ht [] s1 (start N vs) H _ I hq) (fun fl s' hs=> ?_) fun e s' hs=>hs
 have fin:∀{σ':St}{H':Hp}{v:V}{u:Value},Inv (cV CX P w K mg base N qual scope f cdv A outer s H E) [] σ' H' s'->RelV v u->Q v H'->CE outer P w H s Q u s':=
  fun{σ' H' v u} J rv q=> ⟨v,H',J.os,J.bare,J.base,J.hok,rv,q⟩
 cases fl with
 |ret u=>
  obtain⟨v,σ',H',J,rv,q⟩:=hs
  exact fin J rv q
 |next=>
  obtain⟨σ',H',J,q⟩:=hs
  exact fin (v:=V.non) (u:=Value.none) J rfl q
 |brk=>
  obtain⟨_,_,_,q⟩:=hs
  exact False.elim q
 |cont=>
  obtain⟨_,_,_,q⟩:=hs
  exact False.elim q
section
variable {X:Cx}{x:Str}{p pos:Pos}{e:Expr}{es:List Expr}{t:TA}{id T:String}{r:List V->Hp->VK->Prop}
def tCB (r:List V->Hp->VK->Prop)(t:TA):TE:=fun σ H Q=>t σ H fun vs H1=>r vs H1 Q
theorem bI (hc:fE X (.builtin id) r)(hg:Gl X x)(hm:X.mg x=none)(hv:bootBuiltins x=some (.builtin id))(ha:PA X (e::es) t)(hn:x≠ "__name__":=by decide)(hdb:(x==("__debug__":Str))=false:=by decide)
  (he:starEach (e::es) X.env=(false,eval e X.env)::starEach es X.env:=by rfl)(hpl:(backTo pos (starEach es X.env)).any (·.1)=false:=by rfl):PE X (.Call (.Name x p) (e::es) [] pos) (tCB r t):=by
 intro pins s σ H Q I h
 refine wpAny_Call_Name_kw (iZ I hg hm hv ?_ hn hdb)
 exact PyProof.Rows.callWith_builtin1 (thn (ha pos pins s σ H _ I h) fun us s1 ⟨vs,H1,I1,r1,q1⟩=>hc pins s1 σ H1 vs us Q I1 r1 q1) he hpl
theorem fW (hc:fE X (.type T) r)(hg:Gl X x)(hm:X.mg x=none)(hv:bootBuiltins x=some (.type T))(ha:PA X (e::es) t)(hn:x≠ "__name__":=by decide)(hdb:(x==("__debug__":Str))=false:=by decide)
  (he:starEach (e::es) X.env=(false,eval e X.env)::starEach es X.env:=by rfl)(hpl:(backTo pos (starEach es X.env)).any (·.1)=false:=by rfl):PE X (.Call (.Name x p) (e::es) [] pos) (tCB r t):=by
 intro pins s σ H Q I h
 refine wpAny_Call_Name_kw (iZ I hg hm hv ?_ hn hdb)
 exact PyProof.Rows.callWith_type1 (thn (ha pos pins s σ H _ I h) fun us s1 ⟨vs,H1,I1,r1,q1⟩=>hc pins s1 σ H1 vs us Q I1 r1 q1) he hpl
end
end L2
namespace HT
open PySem PyProof.Rows
def lexLt:List Int->List Int->Bool
 | [],[]=>false
 | [],_::_=>true
 |_::_,[]=>false
 |x::xs,y::ys=>if x=y then lexLt xs ys else decide (x<y)
theorem lexLt_cons (x y:Int)(xs ys:List Int):lexLt (x::xs) (y::ys)=if x=y then lexLt xs ys else decide (x<y):=rfl
theorem lexLt_nil_nil:lexLt [] []=false:=rfl
theorem A4c (y:Int)(ys:List Int):lexLt [] (y::ys)=true:=rfl
theorem A0d (x:Int)(xs:List Int):lexLt (x::xs) []=false:=rfl
theorem zR (A:Around)(s:Shared)(a:Int)(t:Tok)(c:Int)(u:Tok):∃e,SeqAt.EqAt A s (.int a t) (.int c u) e/\(e=true↔a=c):=
 ⟨(a==c),SeqAt.EqAt.int_int a t c u,by simp⟩
theorem A2n (A:Around)(s:Shared)(a:Int)(t:Tok)(c:Int)(u:Tok)(prog:Program)(w:World)(E:Value->Shared->Prop)(Q:Value->Shared->Prop)(h:Q (.bool (decide (a<c))) s):
  wpAny (model prog w) A (richCompare .Lt (.int a t) (.int c u)) Q E s:=
 (PyProof.Rows.lt_int h:wpAny (model prog w) A (compareOp .Lt (.int a t) (.int c u)) Q E s)
section
open PySem.SeqAt
open PySem.AutoSeq1 (wpAny_loadPart')
open PySem.MeetsSeq PySem.MeetsSeq2 PySem.MeetsSeq3
theorem A3z (l b:Addr)(items items2:Array Value)(n n2:Nat)(dd dd2:Option Addr)(sl sl2:Array (Option Value))(ns ms:List Int)(hi:IntsAre items.toList ns)(hj:IntsAre items2.toList ms):
  Meets (Builtin.«tuple.__lt__» ⟨[.ref l,.ref b],[]⟩)
   (fun _ R s=>s.heap.get? l=some {cls:=.type "tuple",dict:=dd,data:=.seq items n,slots:=sl}/\s.heap.get? b=some {cls:=.type "tuple",dict:=dd2,data:=.seq items2 n2,slots:=sl2}/\
    R (.ok (.ret (.bool (lexLt ns ms)))) s):=
 .of_wp fun prog w A R s h=>by
  obtain⟨hp,g,d,tk,os⟩:=s;obtain⟨hl,hb,h⟩:=h
  have f2:=AutoSeq1.sub_tuple_tuple
  have z1:items.size=ns.length:=by rw [←hi.length];simp
  have z2:items2.size=ms.length:=by rw [←hj.length];simp
  wp_walk using wpAny_loadPart' hl,wpAny_loadPart' hb,wpAny_forIn_list _ (fun rest b s'=>b.1=none/\s'=⟨hp,g,d,tk,os⟩/\∃(vs ws:List Value)(ns' ms':List Int),rest=vs.zip ws/\
   IntsAre vs ns'/\IntsAre ws ms'/\ns'.length+items2.size=ms'.length+items.size/\R (.ok (.ret (.bool (lexLt ns' ms')))) ⟨hp,g,d,tk,os⟩) _
  case turn=>
   rintro⟨y,x⟩ rest b s' ⟨hb',rfl,vs,ws,ns',ms',hz,hvi,hwi,hlen,hR⟩
   cases hvi with
   |nil=>rw [List.zip_nil_left]at hz;cases hz
   |cons a t hvi'=>
    cases hwi with
    |nil=>rw [List.zip_nil_right]at hz;cases hz
    |cons c u hwi'=>
     rw [zip_cons_cons]at hz
     injection hz with hyx hrest
     injection hyx with hy hx
     subst hy hx
     rw [lexLt_cons]at hR
     simp only [length_cons]at hlen
     obtain⟨e,he,hiff⟩:=zR A.in1 ⟨hp,g,d,tk,os⟩ a t c u
     refine zjZ (he prog w _ _ ?_)
     cases e with
     |true=>
      rw [if_pos (hiff.mp rfl)]at hR
      wp_walk
      exact⟨rfl,rfl,_,_,_,_,hrest,hvi',hwi',by omega,hR⟩
     |false=>
      rw [if_neg (fun q=>absurd (hiff.mpr q) Bool.false_ne_true)]at hR
      have hri:=A2n A.in1 ⟨hp,g,d,tk,os⟩ a t c u prog w
      wp_walk using hri
      exact⟨_,rfl,by simpa using hR⟩
  case fin=>
   rintro⟨b1,b2⟩ s' ⟨hb',rfl,vs,ws,ns',ms',hz,hvi,hwi,hlen,hR⟩
   simp only at hb'
   subst hb'
   have hv:lexLt ns' ms'=decide (items.size<items2.size):=by
    cases hvi with
    |nil=>
     cases hwi with
     |nil=>
      simp only [length_nil]at hlen
      rw [lexLt_nil_nil]
      exact(zjU (by omega)).symm
     |cons c u hw=>
      simp only [length_nil,length_cons]at hlen
      rw [A4c]
      exact(zjV (by omega)).symm
    |cons a t hv=>
     cases hwi with
     |nil=>
      simp only [length_nil,length_cons]at hlen
      rw [A0d]
      exact(zjU (by omega)).symm
     |cons c u hw=>
      rw [zip_cons_cons]at hz
      cases hz
   rw [hv]at hR
   wp_walk
   exact⟨_,rfl,by simpa [Builtin.Tuple.tupleCompareSizes]using hR⟩
  case h=>
   exact⟨rfl,rfl,items.toList,items2.toList,ns,ms,rfl,hi,hj,by omega,h⟩
end
section
variable {prog:Program}{w:World}{A:Around}{E:Value->Shared->Prop}{s:Shared}
theorem lt_tupInts {l b:Addr}{items items2:Array Value}{ns ms:List Int}{Q:Value->Shared->Prop}(hl:IsTup s.heap l items)(hb:IsTup s.heap b items2)(hi:IntsAre items.toList ns)(hj:IntsAre items2.toList ms)
  (hu:A.units<cLine)(h:Q (.bool (lexLt ns ms)) s):wpAny (model prog w) A (compareOp .Lt (.ref l) (.ref b)) Q E s:=by
 obtain⟨⟨cls,dd,data,sl⟩,ho,hc,n,hd⟩:=id hl
 obtain⟨⟨cls2,dd2,data2,sl2⟩,ho2,hc2,n2,hd2⟩:=id hb
 simp only at hc hd hc2 hd2
 subst hc hd hc2 hd2
 exact richCompare_meets_room (op:=.Lt) ⟨_,ho,rfl⟩ ⟨_,ho2,rfl⟩ PySem.F.slot_tuple_lt PySem.F.entry_tuple_lt (PySem.F.args_tuple_lt_2 _ _) (A3z l b items items2 n n2 dd dd2 sl sl2 ns ms hi hj)
  ⟨ho,ho2,show Value.bool (lexLt ns ms)≠Value.notImplemented/\Q (.bool (lexLt ns ms)) s from⟨(fun x=>nomatch x),h⟩⟩ hu
theorem cat_tup {t b:Addr}{vs ws:List Value}{Q:Value->Shared->Prop}(ht:IsTup s.heap t vs.toArray)(hb:IsTup s.heap b ws.toArray)(hv:vs≠[])
  (h1:ws=[]->Q (.ref t) s)(h2:ws≠[]->Q (.ref s.heap.objs.size) {s with heap:=s.heap.push {cls:=.type "tuple",data:=.seq (vs++ws).toArray}})
  (hsz:vs.length+ws.length<=sizeLine):wpAny (model prog w) A (binaryOp .Add (.ref t) (.ref b)) Q E s:=by
 obtain⟨⟨cls,dd,data,sl⟩,ho,hc,n,hd⟩:=id ht
 obtain⟨⟨cls2,dd2,data2,sl2⟩,ho2,hc2,n2,hd2⟩:=id hb
 simp only at hc hd hc2 hd2
 subst hc hd hc2 hd2
 have e:vs.toArray++ws.toArray=(vs++ws).toArray:=by simp
 by_cases hw:ws=[]
 ·exact concat_meets ⟨_,ho,rfl⟩ ⟨_,ho2,rfl⟩ noFill_tuple_add seq_tuple_add PySem.F.slot_tuple_add PySem.F.entry_tuple_add (PySem.F.args_tuple_add_2 _ _)
   (tuple_addW1 t b vs.toArray ws.toArray n n2 dd dd2 sl sl2 (by simpa using hv) (by simp [hw])) ⟨ho,ho2,h1 hw⟩
 ·refine concat_meets ⟨_,ho,rfl⟩ ⟨_,ho2,rfl⟩ noFill_tuple_add seq_tuple_add PySem.F.slot_tuple_add PySem.F.entry_tuple_add (PySem.F.args_tuple_add_2 _ _)
   (tuple_addW2 t b vs.toArray ws.toArray n n2 dd dd2 sl sl2 (by simpa using hv) (by simpa using hw) (by rw [size_toArray,size_toArray];exact hsz)) ⟨ho,ho2,?_⟩
  rw [e]
  exact h2 hw
def sIx (n d:Nat):Option Int->Nat
 |none=>d
 |some v=>if v<0 then(v+(n:Int)).toNat else min v.toNat n
theorem sIx_nat (n d k:Nat):sIx n d (some (k:Int))=min k n:=by
 show(if (k:Int)<0 then((k:Int)+(n:Int)).toNat else min (k:Int).toNat n)=min k n
 rw [if_neg (by omega),Int.toNat_natCast]
theorem A1m (n d:Nat)(hd:d<=n)(o:Option Int):sIx n d o<=n:=by
 cases o with
 |none=>exact hd
 |some v=>
  show(if v<0 then(v+(n:Int)).toNat else min v.toNat n)<=n
  by_cases hv:v<0
  ·rw [if_pos hv];omega
  ·rw [if_neg hv];exact Nat.min_le_right _ _
theorem vW (v:Int)(n d:Nat):(if v<0 then max (v+(n:Int)) 0 else min v (n:Int))=((sIx n d (some v):Nat):Int):=by
 show(if v<0 then max (v+(n:Int)) 0 else min v (n:Int))=(((if v<0 then(v+(n:Int)).toNat else min v.toNat n):Nat):Int)
 by_cases hv:v<0
 ·simp only [if_pos hv];omega
 ·simp only [if_neg hv];omega
theorem A16 (lo hi:Option Int)(n:Nat):Builtin.Slice.sliceAdjust lo hi 1 (n:Int)=(((sIx n 0 lo:Nat):Int),((sIx n n hi:Nat):Int)):=by
 have h1:¬((1:Int)<0):=by omega
 unfold Builtin.Slice.sliceAdjust
 simp only [h1,if_false]
 refine Prod.ext ?_ ?_
 ·cases lo with
  |none=>rfl
  |some v=>exact vW v n 0
 ·cases hi with
  |none=>rfl
  |some v=>exact vW v n n
theorem A9q (i j:Nat):Builtin.Slice.slicePlaces (i:Int) (j:Int) 1=j - i:=by
 unfold Builtin.Slice.slicePlaces
 have h1:(1:Int)>0:=by omega
 simp only [h1,if_true,Int.ediv_one]
 split<;>omega
theorem xQ {v:Value}{o:Option Int}{Q:Option Int->Shared->Prop}(p:IsPart v o)(h:Q o s):wpAny (model prog w) A (Builtin.Slice.slicePartIndex v) Q E s:=by
 cases p with
 |none=>exact slicePart_none h
 |int i t=>exact slicePart_int h
theorem sliceApplied_gen {sl:Addr}{vl vu:Value}{lo hi:Option Int}{n:Nat}{Q:Int×Int×Nat->Shared->Prop}(hs:s.heap.IsSliceOf sl vl vu .none)(pl:IsPart vl lo)(pu:IsPart vu hi)
  (h:Q (((sIx n 0 lo:Nat):Int),1,sIx n n hi - sIx n 0 lo) s):wpAny (model prog w) A (Builtin.Slice.sliceApplied (.ref sl) (pure (n:Int))) Q E s:=by
 obtain⟨os,hos,hcs,hds⟩:=id hs
 unfold Builtin.Slice.sliceApplied Builtin.Slice.sliceFields
 refine zjZ (zjZ (wpAny_field hos hds (x:=vl) rfl (zjZ (wpAny_field hos hds (x:=vu) rfl (zjZ (wpAny_field hos hds (x:=.none) rfl (zjY ?_)))))))
 refine zjZ (slicePart_none ?_)
 show wpAny _ _ (if ((1:Int)==0)=true then _ else _) _ _ s
 rw [if_neg (by decide)]
 refine zjZ (xQ pl (zjZ (xQ pu (zjZ (zjY ?_)))))
 show wpAny _ _ (match Builtin.Slice.sliceAdjust lo hi 1 (n:Int)with| (lo,hi)=>pure (lo,(1:Int),Builtin.Slice.slicePlaces lo hi 1)) _ _ s
 rw [A16 lo hi n]
 show wpAny _ _ (pure (((sIx n 0 lo:Nat):Int),(1:Int),Builtin.Slice.slicePlaces ((sIx n 0 lo:Nat):Int) ((sIx n n hi:Nat):Int) 1)) _ _ s
 rw [A9q]
 exact zjY h
theorem A5c (xs:Array Value)(i k:Nat):((List.range k).filterMap fun(m:Nat)=>xs[((i:Int)+(m:Int)*1).toNat]?).toArray=((xs.toList.drop i).take k).toArray:=by
 have e:(fun(m:Nat)=>xs[((i:Int)+(m:Int)*1).toNat]?)=fun m=>xs[i+m]?:=by
  funext m
  have:((i:Int)+(m:Int)*1).toNat=i+m:=by omega
  rw [this]
 rw [e]
 have:=pick_run xs i k
 rw [List.filterMap_map]at this
 have e2:((fun x=>xs[x]?)∘fun x=>i+x)=fun m=>xs[i+m]?:=rfl
 rw [e2]at this
 rw [this]
theorem getItem_tuple_cut {t sl:Addr}{items:Array Value}{vl vu:Value}{lo hi:Option Int}{Q:Value->Shared->Prop}(ht:IsTup s.heap t items)(hs:s.heap.IsSliceOf sl vl vu .none)(pl:IsPart vl lo)(pu:IsPart vu hi)
  (hw:¬(sIx items.size 0 lo=0/\sIx items.size items.size hi=items.size))
  (h:Q (.ref s.heap.objs.size) {s with heap:=s.heap.push {cls:=.type "tuple",data:=.seq ((items.toList.drop (sIx items.size 0 lo)).take (sIx items.size items.size hi - sIx items.size 0 lo)).toArray}})
  (hsz:items.size<=sizeLine):wpAny (model prog w) A (getItem (.ref t) (.ref sl)) Q E s:=by
 have htake:sizeOk (.seq ((items.toList.drop (sIx items.size 0 lo)).take (sIx items.size items.size hi - sIx items.size 0 lo)).toArray):=by
  show((items.toList.drop (sIx items.size 0 lo)).take (sIx items.size items.size hi - sIx items.size 0 lo)).toArray.size<=sizeLine
  rw [size_toArray,length_take,length_drop,Array.length_toList]
  omega
 have hj:sIx items.size items.size hi<=items.size:=A1m _ _ (zjQ _) hi
 obtain⟨os,hos,hcs,hds⟩:=id hs
 have hTs:s.TypeIs (.ref sl) "slice":=⟨os,hos,hcs⟩
 unfold getItem
 try with_reducible refine wpAny_holding ?_
 first|refine zjZ (zjY ?_)|skip
 refine zjZ (wpAny_sequenceKey ht.typeIs (by decide) ?_)
 refine zjZ (wpAny_callSpecial?_slot (name:=Str.ofString "__getitem__") ht.typeIs PyProof.Rows.slot_tuple_getitem
  (wpAny_call_entry PyProof.Rows.slot_tuple_getitem ht.typeIs entry_tuple_getitem ?_ (args_tuple_getitem _ _)))
 show wpAny _ _ (Builtin.Tuple.tupleItemsOf (.ref t)>>=_) _ _ s
 refine zjZ (tupleItemsOf_ ht ?_)
 refine zjZ (wpAny_typeOf hTs ?_)
 rw [if_pos (by decide)]
 refine zjZ (sliceApplied_gen hs pl pu ?_)
 have hno:¬((((sIx items.size 0 lo:Nat):Int)==0&&(1:Int)==1&&(sIx items.size items.size hi - sIx items.size 0 lo)==items.size)=true):=by
  intro q
  rw [Bool.and_eq_true,Bool.and_eq_true]at q
  have q1:((sIx items.size 0 lo:Nat):Int)=0:=eq_of_beq q.1.1
  have q2:sIx items.size items.size hi - sIx items.size 0 lo=items.size:=eq_of_beq q.2
  exact hw ⟨by omega,by omega⟩
 show wpAny _ _ (if (((sIx items.size 0 lo:Nat):Int)==0&&(1:Int)==1&&(sIx items.size items.size hi - sIx items.size 0 lo)==items.size)=true then _ else _) _ _ s
 rw [if_neg hno,A5c]
 first
  |exact zjZ (m:=Builtin.Tuple.tupleExact _) (wpAny_newObj_type (zjY ⟨_,rfl,zjY h⟩) htake)
  |exact zjZ (m:=Builtin.Tuple.tupleExact _) (wpAny_newObj_type (zjZ (zjY (zjY ⟨_,rfl,zjY h⟩))) htake)
  |exact zjZ (zjZ (m:=Builtin.Tuple.tupleExact _) (wpAny_newObj_type (zjY (zjY ⟨_,rfl,zjY h⟩)) htake))
  |exact zjZ (zjZ (m:=Builtin.Tuple.tupleExact _) (wpAny_newObj_type (zjY ⟨_,rfl,zjY h⟩) htake))
end
end HT
namespace L2
open PySem PySem.Spec PyProof.Rows
abbrev TO:=St->Hp->(Option Int->Hp->Prop)->Prop
def PO (X:Cx)(e:Option Expr)(t:TO):Prop:=
 ∀(pins:List (Addr×Obj))(s:Shared)(σ:St)(H:Hp)(Q:Option Int->Hp->Prop),Inv X pins σ H s->t σ H Q->
  wpAny (model X.prog X.w) X.A (evalPart e X.env) (fun u s'=> ∃o H',Inv X pins σ H' s'/\IsPart u o/\Q o H') X.xe s
def rM:TO:=fun _ H Q=>Q none H
def sD (t:TE):TO:=fun σ H Q=>t σ H fun x H1=> ∃i,x= .int i/\Q (some i) H1
theorem oX {ns:List Int}:∀{us:List Value},Vals (ns.map V.int) us->IntsAre us ns:=by
 induction ns with
 |nil=>intro us r;rw [map_nil]at r;cases r;exact .nil
 |cons n ns ih=>
  intro us r
  rw [map_cons]at r
  cases r with
  |cons r1 r2=>
   obtain⟨t,e⟩:=r1
   subst e
   exact .cons n t (ih r2)
section
variable {X:Cx}{e:Expr}{te:TE}{lo hi:Option Expr}{tl th:TO}{pos p2:Pos}
theorem jH:PO X none rM:=by
 intro pins s σ H Q I h
 rw [evalPart_none]
 exact zjY ⟨none,H,I,.none,h⟩
theorem iD (h:PE X e te):PO X (some e) (sD te):=by
 intro pins s σ H Q I hw
 rw [evalPart_some]
 refine thn (h pins s σ H _ I hw) fun u s1 ⟨x,H1,I1,r1,q1⟩=> ?_
 obtain⟨i,rfl,q⟩:=q1
 obtain⟨t,rfl⟩:=r1
 exact⟨some i,H1,I1,.int i t,q⟩
def SlR (X:Cx)(r:V->Option Int->Option Int->Hp->VK->Prop):Prop:=
 ∀(pins:List (Addr×Obj))(s:Shared)(σ:St)(H:Hp)(x:V)(v vl vu:Value)(lo hi:Option Int)(sl:Addr)(Q:VK),Inv X pins σ H s->RelV x v->s.heap.IsSliceOf sl vl vu .none->IsPart vl lo->IsPart vu hi->r x lo hi H Q->
  ∃T id,typeLookup (.type T) "__getitem__" =pure (some (.builtin id))/\s.TypeIs v T/\wpAny (model X.prog X.w) X.A (getItem v (.ref sl)) (EP X pins σ Q) X.xe s
def tSl (r:V->Option Int->Option Int->Hp->VK->Prop)(te:TE)(tl th:TO):TE:=fun σ H Q=>te σ H fun x H1=>tl σ H1 fun l H2=>th σ H2 fun u H3=>r x l u H3 Q
theorem iJ {r:V->Option Int->Option Int->Hp->VK->Prop}(hr:SlR X r)(he:PE X e te)(hl:PO X lo tl)(hu:PO X hi th):PE X (.Subscript e (.Slice lo hi none p2) pos) (tSl r te tl th):=by
 intro pins s σ H Q I h
 refine Subscript_ (thn (he pins s σ H _ I h) fun v s1 ⟨x,H1,I1,r1,q1⟩=> ?_)
 refine wpAny_Slice (thn (hl pins s1 σ H1 _ I1 q1) fun vl s2 ⟨l,H2,I2,pl,q2⟩=>thn (hu pins s2 σ H2 _ I2 q2) fun vu s3 ⟨u,H3,I3,pu,q3⟩=> ?_)
 rw [evalPart_none]
 refine zjY ?_
 have I4:Inv X pins σ H3 {s3 with heap:=s3.heap.push {cls:=.type "slice",data:=.fields #[vl,vu,.none]}}:=I3.kept (t':=s3.toks) fun b ob q=>zjX _ q
 obtain⟨T,id,hT,ht,hg⟩:=hr pins {s3 with heap:=s3.heap.push {cls:=.type "slice",data:=.fields #[vl,vu,.none]}} σ H3 x v vl vu l u s3.heap.objs.size Q I4 r1 (Heap.IsSliceOf.new ..) pl pu q3
 show wpAny (model X.prog X.w) X.A (subscriptTail e (.Slice lo hi none p2) v (.ref s3.heap.objs.size)) (EP X pins σ Q) X.xe {s3 with heap:=s3.heap.push {cls:=.type "slice",data:=.fields #[vl,vu,.none]}}
 exact tail_any (ops:=[.ref s3.heap.objs.size,v]) ht hT hg (by with_unfolding_all rfl)
def eG (xs:List V)(lo hi:Option Int):List V:=(xs.drop (HT.sIx xs.length 0 lo)).take (HT.sIx xs.length xs.length hi - HT.sIx xs.length 0 lo)
theorem jA (xs:List V)(lo hi:Option Int):(eG xs lo hi).length<=xs.length:=by
 unfold eG
 rw [length_take,length_drop]
 omega
theorem Vals.nil_iff {xs:List V}{us:List Value}(r:Vals xs us):us=[]↔xs=[]:=by
 cases r with
 |nil=>simp
 |cons _ _=>simp
end
def ixN (n:Nat)(i:Int):Option Nat:=if 0<=i then(if i<n then some i.toNat else none)else if -(n:Int)<=i then some (i+n).toNat else none
def atI {α:Type}(xs:List α)(i:Int):Option α:=(ixN xs.length i).bind fun j=>xs[j]?
theorem xY {n:Nat}{i:Int}{j:Nat}(h:ixN n i=some j):seqIndex? i n=some j/\j<n/\-(n:Int)<=i/\i<n:=by
 unfold ixN at h
 by_cases h0:0<=i
 ·rw [if_pos h0]at h
  by_cases h1:i<n
  ·rw [if_pos h1]at h
   have e:i.toNat=j:=Option.some.inj h
   exact⟨by rw [seqIndex_of h0 h1,e],by omega,by omega,h1⟩
  ·rw [if_neg h1]at h;cases h
 ·rw [if_neg h0]at h
  by_cases h1:-(n:Int)<=i
  ·rw [if_pos h1]at h
   have e:(i+n).toNat=j:=Option.some.inj h
   exact⟨by rw [seqIndex_neg (by omega) h1,e],by omega,h1,by omega⟩
  ·rw [if_neg h1]at h;cases h
theorem vF {α:Type}{xs:List α}{i:Int}{v:α}(h:atI xs i=some v):∃j,seqIndex? i xs.length=some j/\xs[j]?=some v/\j<xs.length/\-(xs.length:Int)<=i/\i<xs.length:=by
 unfold atI at h
 cases e:ixN xs.length i with
 |none=>rw [e]at h;cases h
 |some j=>
  rw [e]at h
  obtain⟨h1,h2,h3,h4⟩:=xY e
  exact⟨j,h1,h,h2,h3,h4⟩
theorem bL {α:Type}{xs:List α}{j:Nat}{v:α}(h:xs[j]?=some v):atI xs (j:Int)=some v:=by
 have hj:j<xs.length:=(zjW.mp h).1
 have e:ixN xs.length (j:Int)=some j:=by
  unfold ixN
  rw [if_pos (by omega),if_pos (by omega)];simp
 unfold atI;rw [e];exact h
def sZ (b:Expr):Prop:=∀o i,subscripted b false o i=operate [o,i] (getItem o i)
def IxR (X:Cx)(r:R2):Prop:=
 ∀(value slice:Expr)(pins:List (Addr×Obj))(s:Shared)(σ:St)(H:Hp)(x y:V)(v u:Value)(Q:VK),Inv X pins σ H s->RelV x v->RelV y u->r x y H Q->
  subscripted slice false v u=operate [v,u] (getItem v u)->wpAny (model X.prog X.w) X.A (subscriptTail value slice v u) (EP X pins σ Q) X.xe s
def MtR (X:Cx)(id:String)(r:V->List V->Hp->VK->Prop):Prop:=
 ∀(pins:List (Addr×Obj))(s:Shared)(σ:St)(H:Hp)(x:V)(xs:List V)(v:Value)(us:List Value)(Q:VK),Inv X pins σ H s->RelV x v->Vals xs us->r x xs H Q->
  wpAny (model X.prog X.w) X.A (call (.builtin id) (v::us)) (EP X pins σ Q) X.xe s
section
variable {X:Cx}{a b:Expr}{ta tb:TE}{pos:Pos}
theorem bM {r:R2}(hr:IxR X r)(ha:PE X a ta)(hb:PE X b tb)(hs:sZ b):PE X (.Subscript a b pos) (tOp r ta tb):=by
 intro pins s σ H Q I h
 exact Subscript_ (qJ ha hb I h fun v u s2 x y H2 I2 rx ry q=>hr a b pins s2 σ H2 x y v u Q I2 rx ry q (hs _ _))
def oO (K:W.Frag):R2:=fun x y H Q=> ∃p xs i v,x= .ref p/\y= .int i/\SqL K H p xs/\atI xs i=some v/\Q v H
def A35 (K:W.Frag):R2:=fun x y H Q=> ∃p xs i v,x= .ref p/\y= .int i/\SqT K H p xs/\atI xs i=some v/\Q v H
theorem eO:IxR X (oO X.K):=by
 intro value slice pins s σ H x y v u Q I rx ry h hs
 obtain⟨p,xs,i,z,rfl,rfl,hq,he,q⟩:=h
 cases rx
 obtain⟨t,rfl⟩:=ry
 obtain⟨its,r,pl,hz⟩:=I.list hq
 obtain⟨j,h1,h2,h3,h4,h5⟩:=vF he
 obtain⟨w,ew,rw'⟩:=r.get h2
 have hl:=r.length
 have hn:=nR
 have fin:EP X pins σ Q w s:=⟨z,H,I,rw',q⟩
 by_cases h0:0<=i
 ·have hj:i.toNat=j:=by
   rw [seqIndex_of h0 h5]at h1
   exact Option.some.inj h1
  exact item_listR pl.isList h0 (by omega) (by rw [hj];simpa using ew) fin hs
 ·have hj:(i+(its.toArray.size:Int)).toNat=j:=by
   rw [seqIndex_neg (by omega) h4]at h1
   rw [size_toArray,←hl]
   exact Option.some.inj h1
  exact subscriptTail_builtinR (x:=w) pl.isList.typeIs slot_list_getitem.lookup
   (wpAny_getItem_list_neg (Q:=fun r s'=>r=w/\EP X pins σ Q r s') pl.isList (by omega) (by rw [size_toArray]<;>omega) (by omega) (by rw [hj];simpa using ew) ⟨rfl,fin⟩) hs
theorem cY:IxR X (A35 X.K):=by
 intro value slice pins s σ H x y v u Q I rx ry h hs
 obtain⟨p,xs,i,z,rfl,rfl,hq,he,q⟩:=h
 cases rx
 obtain⟨t,rfl⟩:=ry
 obtain⟨its,r,pl,hz⟩:=I.tuple hq
 obtain⟨j,h1,h2,h3,h4,h5⟩:=vF he
 obtain⟨w,ew,rw'⟩:=r.get h2
 have hl:=r.length
 have hn:=nR
 have fin:EP X pins σ Q w s:=⟨z,H,I,rw',q⟩
 exact subscriptTail_builtinR (x:=w) pl.typeIs slot_tuple_getitem.lookup
  (getItem_tuple (j:=j) (Q:=fun r s'=>r=w/\EP X pins σ Q r s') pl (by omega) (by omega) (by rw [size_toArray,←hl];exact h1) (by simpa using ew) ⟨rfl,fin⟩) hs
theorem A7f (its:List Value)(n j:Nat)(u:Value):Obj.mapSeq (·.setIfInBounds j u) {cls:=.type "list",data:=.seq its.toArray n}={cls:=.type "list",data:=.seq (its.set j u).toArray n}:=by
 simp [Obj.mapSeq]
theorem Inv.lst {pins:List (Addr×Obj)}{σ:St}{H:Hp}{s:Shared}{p:Addr}{xs:List V}(I:Inv X pins σ H s)(h:H p=some (.lst xs)):
  ∃(its:List Value)(n:Nat),Vals xs its/\s.heap.get? p=some {cls:=.type "list",data:=.seq its.toArray n}/\xs.length<=sizeLine:=by
 obtain⟨z,its,n,r,e⟩:=I.hok p _ h
 exact⟨its,n,r,e,z⟩
theorem Inv.lstUpd {pins:List (Addr×Obj)}{σ:St}{H:Hp}{s:Shared}{p:Addr}{xs ys:List V}{its its':List Value}{n n':Nat}{f:Obj->Obj}(I:Inv X pins σ H s)(h:H p=some (.lst xs))
  (ho:s.heap.get? p=some {cls:=.type "list",data:=.seq its.toArray n})(hf:f {cls:=.type "list",data:=.seq its.toArray n}={cls:=.type "list",data:=.seq its'.toArray n'})(r:Vals ys its')(hz:ys.length<=sizeLine)(t:Nat):
  Inv X pins σ (upd H p (.lst ys)) {s with heap:=s.heap.update p f,toks:=t}:=by
 have e:(s.heap.update p f).get? p=some {cls:=.type "list",data:=.seq its'.toArray n'}:=by
  rw [get?_update_self f ho (by rw [hf]<;>rfl),hf]
 refine I.write (x:=p) (e:=p) (by rw [h];trivial) (.inl rfl) (fun b u hb q=>(Heap.get?_update_other _ _ (Ne.symm hb)).trans q) ⟨_,e⟩ ?_
 exact⟨hz,its',n',r,e⟩
def A5b:V->V->V->Hp->(Hp->Prop)->Prop:=fun o i v H Q=> ∃p xs k j,o= .ref p/\i= .int k/\H p=some (.lst xs)/\ixN xs.length k=some j/\Q (upd H p (.lst (xs.set j v)))
theorem tJ:vX X A5b:=by
 intro pins s σ H o i v ov iv u Q I ro ri rv h
 obtain⟨p,xs,k,j,rfl,rfl,hp,hj,q⟩:=h
 cases ro
 obtain⟨t,rfl⟩:=ri
 obtain⟨its,n,r,ho,hz⟩:=I.lst hp
 obtain⟨h1,h2,h3,h4⟩:=xY hj
 have hl:=r.length
 have hn:=nR
 have I':Inv X pins σ (upd H p (.lst (xs.set j v))) {s with heap:=s.heap.update p (Obj.mapSeq (·.setIfInBounds j u))}:=
  I.lstUpd hp ho (A7f its n j u) (r.set rv j) (by rw [List.length_set];exact hz) s.toks
 by_cases h0:0<=k
 ·have hk:k.toNat=j:=by
   rw [seqIndex_of h0 h4]at h1
   exact Option.some.inj h1
  exact W.ki_setAt ho h0 (by omega) (by rw [size_toArray,←hl];exact h4) (by rw [hk];exact⟨_,I',q⟩)
 ·have hk:(k+(its.toArray.size:Int)).toNat=j:=by
   rw [seqIndex_neg (by omega) h3]at h1
   rw [size_toArray,←hl]
   exact Option.some.inj h1
  exact W.ki_setBack ho (by omega) (by rw [size_toArray,←hl];exact h3) (by omega) (by rw [hk];exact⟨_,I',q⟩)
theorem A7u (lo hi:Option Int)(n:Nat):(sliceBounds lo hi none n).1=((HT.sIx n 0 lo:Nat):Int)/\(sliceBounds lo hi none n).2.1=((HT.sIx n n hi:Nat):Int)/\(sliceBounds lo hi none n).2.2=1:=by
 refine⟨?_,?_,rfl⟩
 ·cases lo with
  |none=>simp [sliceBounds,HT.sIx]
  |some i=>
   simp only [sliceBounds,HT.sIx,Option.getD_none,show(1:Int)>0 by decide,if_true]
   by_cases h:i<0
   ·simp only [h,if_true]<;>omega
   ·simp only [h,if_false]<;>omega
 ·cases hi with
  |none=>simp [sliceBounds,HT.sIx]
  |some i=>
   simp only [sliceBounds,HT.sIx,Option.getD_none,show(1:Int)>0 by decide,if_true]
   by_cases h:i<0
   ·simp only [h,if_true]<;>omega
   ·simp only [h,if_false]<;>omega
theorem A5l (its:List Value)(lo hi:Option Int):slicePick its.toArray lo hi none=((its.drop (HT.sIx its.length 0 lo)).take (HT.sIx its.length its.length hi - HT.sIx its.length 0 lo)).toArray:=by
 obtain⟨h1,h2,h3⟩:=A7u lo hi its.toArray.size
 unfold slicePick
 rw [h1,h2,h3]
 simp only [sliceRange_one,pick_run,size_toArray]<;>rfl
def A5r (K:W.Frag):V->Option Int->Option Int->Hp->VK->Prop:=fun x lo hi H Q=> ∃a xs,x= .ref a/\SqL K H a xs/\∀p,H p=none->Q (.ref p) (upd H p (.lst (eG xs lo hi)))
theorem A3n:SlR X (A5r X.K):=by
 intro pins s σ H x v vl vu lo hi sl Q I rx hs pl pu h
 obtain⟨a,xs,rfl,hx,q⟩:=h
 cases rx
 obtain⟨its,r,ht,hz⟩:=I.list hx
 have hlen:=r.length
 refine⟨"list",_,slot_list_getitem.lookup,ht.isList.typeIs,?_⟩
 refine wpAny_getItem_list_slice ht.isList hs pl pu .none (by simp) ?_ (by rw [size_toArray]<;>omega)
 rw [A5l,←hlen]
 refine⟨.ref s.heap.objs.size,_,I.laid (t':=s.toks) (o:=.lst (eG xs lo hi)) (fun b ob q=>zjX _ q) (zjQ _) ?_,rfl,q _ (I.hok.fresh (zjQ _))⟩
 exact⟨le_trans (jA xs lo hi) hz,_,0,(r.drop (HT.sIx xs.length 0 lo)).take (HT.sIx xs.length xs.length hi - HT.sIx xs.length 0 lo),get?_push_size _ rfl⟩
theorem eN:fE X (.builtin "len") (fun xs H Q=> ∃p ys,xs=[.ref p]/\(SqL X.K H p ys\/SqT X.K H p ys)/\Q (.int ys.length) H):=by
 intro pins s σ H xs us Q I r h
 obtain⟨p,ys,rfl,hq,q⟩:=h
 obtain⟨u,rfl,rx⟩:=fT r
 cases rx
 have hn:=nR
 rcases hq with hq|hq
 ·obtain⟨its,r',pl,hz⟩:=I.list hq
  have hlen:=r'.length
  exact Calls.call_len_list pl.isList (by simp only [size_toArray]<;>omega) ⟨.int ys.length,H,I.tok _,⟨s.toks+1,by rw [size_toArray,hlen]⟩,q⟩
 ·obtain⟨its,r',pl,hz⟩:=I.tuple hq
  have hlen:=r'.length
  exact len_tuple pl (by simp only [size_toArray]<;>omega) ⟨.int ys.length,H,I.tok _,⟨s.toks+1,by rw [size_toArray,hlen]⟩,q⟩
theorem yX:fE X (.type "list") (fun xs H Q=> ∃p ys,xs=[.ref p]/\(SqL X.K H p ys\/SqT X.K H p ys)/\∀l,H l=none->Q (.ref l) (upd H l (.lst ys))):=by
 intro pins s σ H xs us Q I r h
 obtain⟨p,ys,rfl,hq,q⟩:=h
 obtain⟨u,rfl,rx⟩:=fT r
 cases rx
 have fin:∀(its:List Value),Vals ys its->ys.length<=sizeLine->∀(h':Heap)(c':Nat),(∀b o',s.heap.get? b=some o'->h'.get? b=some o')->
   h'.get? s.heap.objs.size=some {cls:=.type "list",dict:=none,data:=.seq its.toArray c',slots:=#[]}->EP X pins σ Q (.ref s.heap.objs.size) {s with heap:=h'}:=fun its r' hz h' c' kp e=>
  ⟨.ref s.heap.objs.size,_,I.laid (t':=s.toks) kp (zjQ _) (show ObjOk X.prog X.w _ h' _ (.lst ys)from⟨hz,its,c',r',e⟩),rfl,q _ (I.hok.fresh (zjQ _))⟩
 rcases hq with hq|hq
 ·obtain⟨its,r',pl,hz⟩:=I.list hq
  have hlen:=r'.length
  obtain⟨o,ho,hc,n,hd⟩:=pl.isList
  exact call_list_seq p (.inl rfl) ho hc hd (fun h' c' kp e=>fin its r' hz h' c' kp e) (by simp only [size_toArray]<;>omega)
 ·obtain⟨its,r',pl,hz⟩:=I.tuple hq
  have hlen:=r'.length
  obtain⟨o,ho,hc,n,hd⟩:=pl
  exact call_list_seq p (.inr rfl) ho hc hd (fun h' c' kp e=>fin its r' hz h' c' kp e) (by simp only [size_toArray]<;>omega)
theorem nZ:fE X (.type "tuple") (fun xs H Q=> ∃p ys,xs=[.ref p]/\((SqL X.K H p ys/\∀l,H l=none->Q (.ref l) (upd H l (.tup ys)))\/(SqT X.K H p ys/\Q (.ref p) H))):=by
 intro pins s σ H xs us Q I r h
 obtain⟨p,ys,rfl,h⟩:=h
 obtain⟨u,rfl,rx⟩:=fT r
 cases rx
 rcases h with⟨hq,q⟩| ⟨hq,q⟩
 ·obtain⟨its,r',pl,hz⟩:=I.list hq
  have hlen:=r'.length
  refine call_tuple_list pl.isList (fun h' kp=> ?_) (by simp only [size_toArray]<;>omega)
  have I1:Inv X pins σ H {s with heap:=h'}:=I.kept (t':=s.toks) kp
  have I2:Inv X pins σ (upd H h'.objs.size (.tup ys)) {s with heap:=h'.push {cls:=.type "tuple",data:=.seq its.toArray}}:=
   I1.laid (t':=s.toks) (fun b o e=>zjX _ e) (zjQ _) (show ObjOk X.prog X.w _ _ _ (.tup ys)from⟨hz,its,r',IsTup.new _ _⟩)
  exact⟨.ref h'.objs.size,_,I2,rfl,q _ (I1.hok.fresh (zjQ _))⟩
 ·obtain⟨its,r',pl,hz⟩:=I.tuple hq
  exact call_tuple_same pl ⟨.ref p,H,I,rfl,q⟩
def tyV (K:W.Frag)(T:String)(x:V)(H:Hp):Prop:=match x with
 | .str _=>T= "str"
 | .int _=>T= "int"
 | .ref p=>(T= "list"/\∃xs,SqL K H p xs)\/(T= "tuple"/\∃o,K.lookup p=some o/\o.cls= .type "tuple"/\o.dict=none)\/
   (T= "dict"/\((∃kvs,H p=some (.dK kvs))\/ ∃kvs,H p=some (.dT kvs)))\/(T= "set"/\∃S n,H p=some (.set S n))
 |_=>False
theorem A1g {pins:List (Addr×Obj)}{σ:St}{H:Hp}{s:Shared}{T:String}{x:V}{v:Value}(I:Inv X pins σ H s)(r:RelV x v)(ty:tyV X.K T x H):
  s.TypeIs v T/\∀a,v= .ref a->∃ob,s.heap.get? a=some ob/\ob.dict=none:=by
 cases x with
 |str z=>
  obtain⟨t,rfl⟩:=r
  cases (show T= "str" from ty)
  exact⟨typeIs_str s z t,fun _ e=>nomatch e⟩
 |int i=>
  obtain⟨t,rfl⟩:=r
  cases (show T= "int" from ty)
  exact⟨typeIs_int s i t,fun _ e=>nomatch e⟩
 |ref p=>
  cases r
  rcases ty with⟨rfl,xs,hq⟩| ⟨rfl,o,hk,hc,hd⟩| ⟨rfl,hk⟩| ⟨rfl,S,n,hk⟩
  ·obtain⟨its,_,pl,_⟩:=I.list hq
   refine⟨pl.isList.typeIs,fun a e=> ?_⟩
   cases e
   obtain⟨o,n,e,c,hd,_⟩:=pl
   exact⟨o,e,hd⟩
  ·refine⟨⟨o,I.kIn p o hk,hc⟩,fun a e=> ?_⟩
   cases e
   exact⟨o,I.kIn _ o hk,hd⟩
  ·have z:∃o,s.heap.get? p=some o/\o.ExactDict:=by
    rcases hk with⟨kvs,hk⟩| ⟨kvs,hk⟩
    ·obtain⟨_,_,_,_,o,_,_,e,ex,_⟩:=I.hok p _ hk
     exact⟨o,e,ex⟩
    ·obtain⟨_,_,_,_,o,_,_,e,ex,_⟩:=I.hok p _ hk
     exact⟨o,e,ex⟩
   obtain⟨o,e,ex⟩:=z
   refine⟨⟨o,e,ex.1⟩,fun a e2=> ?_⟩
   cases e2
   exact⟨o,e,ex.2.1⟩
  ·obtain⟨o,_,_,_,e,ex,_⟩:=I.hok p _ hk
   refine⟨⟨o,e,ex.1⟩,fun a e2=> ?_⟩
   cases e2
   exact⟨o,e,ex.2.1⟩
 |_=>exact False.elim ty
def tBM (K:W.Frag)(T:String)(r:V->List V->Hp->VK->Prop)(to:TE)(t:TA):TE:=fun σ H Q=>to σ H fun x H1=>tyV K T x H1/\t σ H1 fun xs H2=>r x xs H2 Q
variable {o e:Expr}{es:List Expr}{to:TE}{t:TA}{name:Str}{apos cpos:Pos}{T id:String}{r:V->List V->Hp->VK->Prop}
theorem jZ (pa:PlainAttrs T)(slot:Slot T name id)(hty:typeOf (.builtin id)=pure (.type "method_descriptor"))(hm:MtR X id r)(ho:PE X o to)(ha:PA X (e::es) t)
  (hbase:attributeBase o name X.env (eval o X.env)=eval o X.env:=by rfl)
  (hfew:((backTo cpos (starEach (e::es) X.env)).all (fun x=> !x.1)&&(backToKw cpos (keywordEach [] X.env)).all (fun x=>x.1.isSome)
   &&decide ((e::es).length+([]:List Keyword).length+(if ([]:List Keyword).isEmpty then 0 else 1)<30))=true:=by rfl)
  (hline:(apos.endLine==cpos.line)=true:=by rfl)(hs:starEach (e::es) X.env=(false,eval e X.env)::starEach es X.env:=by rfl)(hplain:(backTo cpos (starEach es X.env)).any (·.1)=false:=by rfl):
  PE X (.Call (.Attribute o name apos) (e::es) [] cpos) (tBM X.K T r to t):=by
 intro pins s σ H Q I h
 refine wpAny_Call_method_late hbase hfew hline rfl (thn (ho pins s σ H _ I h) fun v s1 ⟨x,H1,I1,r1,ty,q1⟩=> ?_)
 obtain⟨h1,h2⟩:=A1g I1 r1 ty
 refine⟨T,id,pa,slot,hty,h1,h2,?_⟩
 have hA:=ha cpos pins s1 σ H1 _ I1 q1
 rw [hs]at hA⊢
 refine Calls.callWith_builtin (by show(false|| (backTo cpos (starEach es X.env)).any (·.1))=false;rw [hplain]<;>rfl) (Calls.evalArgs_plain ?_)
 exact thn hA fun us s2 ⟨vs,H2,I2,r2,q2⟩=>hm pins s2 σ H2 x vs v us Q I2 r1 r2 q2
/- xs.append(e),list.index on a module's tuple .. are MtR facts of 06m -/
end
def MtM (X:Cx)(id:String)(r:V->List V->Hp->VK->Prop):Prop:=
 ∀(pins:List (Addr×Obj))(s:Shared)(σ:St)(H:Hp)(x:V)(xs:List V)(v:Value)(us:List Value)(Q:VK),Inv X pins σ H s->RelV x v->Vals xs us->r x xs H Q->
  wpAny (model X.prog X.w) X.A (call (.builtin id) (v::us)) (EP X pins σ Q) X.xe s
theorem Vals.one:∀{x:V}{us:List Value},Vals [x] us->∃u,us=[u]/\RelV x u
 |_,_,.cons r .nil=> ⟨_,rfl,r⟩
theorem Vals.two:∀{x y:V}{us:List Value},Vals [x,y] us->∃u v,us=[u,v]/\RelV x u/\RelV y v
 |_,_,_,.cons r (.cons q .nil)=> ⟨_,_,rfl,r,q⟩
section
variable {X:Cx}{pins:List (Addr×Obj)}{σ:St}{H:Hp}{s:Shared}{l b:Addr}{xs ys zs:List V}
theorem Inv.lset {its its':List Value}{n:Nat}{f:Array Value->Array Value}{t':Nat}(I:Inv X pins σ H s)(hH:H l=some (.lst xs))
  (e:s.heap.get? l=some {cls:=.type "list",data:=.seq its.toArray n})(hf:f its.toArray=its'.toArray)(hv:Vals ys its')(hz:ys.length<=sizeLine):
  Inv X pins σ (upd H l (.lst ys)) {s with heap:=s.heap.update l (Obj.mapSeq f),toks:=t'}:=by
 have q:=PySem.IsL.update e f
 rw [hf]at q
 refine I.write (x:=l) (e:=l) (by rw [hH];exact trivial) (.inl rfl) (fun b' u hb hu=>(Heap.get?_update_other s.heap (Obj.mapSeq f) (Ne.symm hb)).trans hu) ⟨_,q⟩ ?_
 exact⟨hz,its',_,hv,q⟩
theorem Inv.lnew {its:List Value}{t':Nat}(I:Inv X pins σ H s)(hv:Vals ys its)(hz:ys.length<=sizeLine):
  Inv X pins σ (upd H s.heap.objs.size (.lst ys)) {s with heap:=s.heap.push {cls:=.type "list",data:=.seq its.toArray},toks:=t'}:=
 I.laid (fun _ _ q=>zjX _ q) (zjQ _) ⟨hz,its,0,hv,get?_push_size _ rfl⟩
theorem Inv.fresh (I:Inv X pins σ H s):H s.heap.objs.size=none:=I.hok.fresh (zjQ _)
theorem Inv.lstM (I:Inv X pins σ H s)(hH:H l=some (.lst xs)):xs.length<=sizeLine/\∃(its:List Value)(n:Nat),Vals xs its/\xs.length=its.length/\s.heap.get? l=some {cls:=.type "list",data:=.seq its.toArray n}:=by
 obtain⟨z,its,n,r,e⟩:=I.hok l _ hH
 exact⟨z,its,n,r,r.length,e⟩
theorem A76 {n:Nat}(h:n<=sizeLine):Builtin.List.listTooLong n=false:=by
 unfold Builtin.List.listTooLong
 exact zjU (by omega)
end
section
variable {X:Cx}
def A7w:V->List V->Hp->VK->Prop:=fun x vs H Q=> ∃l xs y,x= .ref l/\vs=[y]/\H l=some (.lst xs)/\xs.length<sizeLine/\Q .non (upd H l (.lst (xs++[y])))
theorem jT:MtM X "list.append" A7w:=by
 intro pins s σ H x vs v us Q I rx rv h
 obtain⟨l,xs,y,rfl,rfl,hH,hz,q⟩:=h
 cases rx
 obtain⟨u,rfl,ru⟩:=rv.one
 obtain⟨z,its,n,r,hl,e⟩:=I.lstM hH
 refine call_meets F.slot_list_append ⟨_,e,rfl⟩ F.entry_list_append (F.args_list_append_2 _ _) (PySem.list_append l its.toArray n u (by rw [size_toArray];omega)) ⟨e,?_⟩
 refine⟨.non,_,I.lset (its':=its++[u]) hH e (by simp) (r.append (.cons ru .nil)) ?_,rfl,q⟩
 rw [length_append,List.length_singleton]
 omega
def A3s:V->List V->Hp->VK->Prop:=fun x vs H Q=> ∃l b xs zs,x= .ref l/\vs=[.ref b]/\H l=some (.lst xs)/\H b=some (.lst zs)/\xs.length+zs.length<=sizeLine/\Q .non (upd H l (.lst (xs++zs)))
theorem A2m:MtM X "list.extend" A3s:=by
 intro pins s σ H x vs v us Q I rx rv h
 obtain⟨l,b,xs,zs,rfl,rfl,hH,hB,hz,q⟩:=h
 cases rx
 obtain⟨u,rfl,ru⟩:=rv.one
 cases ru
 obtain⟨z,its,n,r,hl,e⟩:=I.lstM hH
 obtain⟨z2,its2,n2,r2,hl2,e2⟩:=I.lstM hB
 have hsz:its.toArray.size+its2.toArray.size<=sizeLine:=by rw [size_toArray,size_toArray];omega
 have hlong:¬(!its.toArray.isEmpty&&Builtin.List.listTooLong (its.toArray.size+its2.toArray.size))=true:=by
  rw [A76 hsz,Bool.and_false]
  exact Bool.false_ne_true
 refine call_meets F.slot_list_extend ⟨_,e,rfl⟩ F.entry_list_extend (F.args_list_extend_2 _ _)
  (AutoSeq1.list_extend_list_list_0 l its.toArray n b its2.toArray n2 hlong (by rw [size_toArray];omega) (by omega)) ⟨e,e2,?_⟩
 refine⟨.non,_,I.lset (its':=its++its2) hH e (by simp) (r.append r2) ?_,rfl,q⟩
 rw [length_append]
 omega
def A2z:R2:=fun x y H Q=> ∃l b xs zs,x= .ref l/\y= .ref b/\H l=some (.lst xs)/\H b=some (.lst zs)/\xs.length+zs.length<=sizeLine/\∀p,H p=none->Q (.ref p) (upd H p (.lst (xs++zs)))
theorem pT:OpR X (binaryOp .Add) A2z:=by
 intro pins s σ H x y v u Q I rx ry h
 obtain⟨l,b,xs,zs,rfl,rfl,hH,hB,hz,q⟩:=h
 cases rx
 cases ry
 obtain⟨z,its,n,r,hl,e⟩:=I.lstM hH
 obtain⟨z2,its2,n2,r2,hl2,e2⟩:=I.lstM hB
 refine PySem.P.add_list e e2 ?_ (by rw [size_toArray,size_toArray];omega)
 have ea:its.toArray++its2.toArray=(its++its2).toArray:=by simp
 rw [ea]
 exact⟨.ref _,_,I.lnew (t':=s.toks) (r.append r2) (by rw [length_append];omega),rfl,q _ I.fresh⟩
end
section
variable {prog:Program}{w:World}{A:Around}{E:Value->Shared->Prop}{s:Shared}
set_option maxRecDepth 100000 in
end
section
variable {X:Cx}
end
end L2
namespace Att
open PySem PySem.W PySem.Calls PyProof.Rows
theorem A3i {P:Params}{h:Heap}:∀(ns:List Int)(vs:List Value),WellAll P h vs (ns.map WData.int)->IntsAre vs ns:=by
 intro ns
 induction ns with
 |nil=>
  intro vs w
  rw [map_nil]at w
  cases w
  exact .nil
 |cons n ns ih=>
  intro vs w
  rw [map_cons]at w
  cases w with
  |cons a b=>
   cases a
   exact .cons _ _ (ih _ b)
theorem A5h {l:OpenLaw}{n:Nat}(hn:l.most=some n){P:Params}{h:Heap}{args:List WData}{vals:List Value}
  (hpre:l.row.toRowW.claim.pre args=true)(hwl:WellAll P h vals args):
  ∃a vs ns,vals=[Value.ref a]/\args=[WData.list (ns.map WData.int)]/\h.get? a=some {cls:=.type "list",data:=.seq vs.toArray}/\IntsAre vs ns/\ns.length<=n:=by
 have hsh:WShape.hasAll [] args [.list .int]=true:=(pre_splitW hpre).1
 have hc:l.pre.holds [] {args:=args}=true:=(pre_splitW hpre).2
 obtain⟨d,r,rfl,h1,h2⟩:=hasAllW_cons hsh
 obtain rfl:=hasAllW_nil h2
 obtain⟨xs,rfl,h3⟩:=hasW_list h1
 obtain⟨ns,rfl⟩:=items_int h3
 have hlen:ns.length<=n:=by
  unfold OpenLaw.pre at hc
  have h4:(WTm.not (.lt (.lit (.int (n:Int))) (.len (.arg 0)))).holds [] {args:=[.list (ns.map .int)]}=true:=by
   have h4:=(holds_andW hc).1
   rw [hn]at h4
   exact h4
  have h5:=condW_of h4 (w_not (w_lt w_lit (w_len_list (w_arg rfl))))
  rw [length_map]at h5
  refine Nat.le_of_not_lt fun q=> ?_
  have q':(n:Int)<((ns.length:Nat):Int):=by omega
  first
   | (rw [zjV q']at h5;exact absurd h5 (by decide))
   | (simp at h5;omega)
 cases hwl with
 |cons w1 w2=>
  cases w2
  cases w1 with
  |list ho hall=>exact⟨_,_,ns,rfl,rfl,ho,A3i ns _ hall,hlen⟩
theorem A59 (l:OpenLaw)(args:List WData):l.row.toRowW.claim.post args (.bool true) args=true:=
 postW_of (r:=l.row.toRowW) (X:=(true==true))
  (show WShape.has [] (.bool true) .bool=true by first|rfl|decide|simp [WShape.has,WShape.arms,WShape.armsAll])
  (show(WTm.eq .res (.lit (.bool true))).value [] {args:=args,res:=some (.bool true),after:=args}=some (.bool (true==true))from w_eq_bool (w_res rfl) w_lit) rfl
theorem attach_call {l:OpenLaw}{n:Nat}{q:Program}{loose:List Str}{XP:(Str->Option Value)->Heap->Prop}{YP:World->Heap->Prop}{d:DefRec}
  (hn:l.most=some n)(hdf:d.params.defaults=[])
  (call:∀(w:World)(s₀ s₁:Shared)(mg mb:Str->Option Value)(fa:Addr)(o:Obj)(pm cd doc:Value)(a:Addr)(vs:List Value)(ns:List Int),
   Ground q loose [] XP w s₀ mg mb s₁.heap->YP w s₁.heap->
   s₁.heap.get? fa=some o->o.data= .func (docDef d.name d.params d.body d.scope pm cd doc)->s₁.heap.CodeRec cd d.name->mg d.name=some (.ref fa)->
   s₁.heap.get? a=some {cls:=.type "list",data:=.seq vs.toArray}->IntsAre vs ns->ns.length<=n->s₁.gens= #[]->
   codeAny (model l.prog w) callerA (.call (.ref fa) ⟨[.ref a],[]⟩) (fun r s'=>r= .ok (.ret (.bool true))/\OldK s₁.heap s'.heap/\s'.os=s₁.os/\AllBare s'.gens) s₁):
  WalkO q loose XP YP l.row.toRowW d [] (fun f vs=>PySem.call f vs):=by
 intro w s₀ s₁ mg mb G Y fa o pm cd doc dV kV ho hd hcd hD hmg hg args vals as hpre hlay hrd hwl hlo
 obtain rfl:dV= .none:=Dflts.none hD hdf
 obtain rfl:kV= .none:=Dflts.noKw hD
 obtain⟨a,vs,ns,rfl,rfl,hobj,hints,hlen⟩:=A5h hn hpre hwl
 refine enter_call (codeAny_mono (call w s₀ s₁ mg mb fa o pm cd doc a vs ns G Y ho (fd_plain hd) hcd hmg hobj hints hlen hg) fun r s' hq=> ?_)
 obtain⟨rfl,h2,h3,h4⟩:=hq
 exact⟨.inl ⟨.bool true,.bool true,[],rfl,fun _=>rfl,.bool true,A59 l _,fun _=> ⟨List.Pairwise.nil,fun _ hm=>(nomatch hm)⟩⟩,h2,h3,h4⟩
section
variable {prog:Program}{w:World}{A:Around}{E:Value->Shared->Prop}{s:Shared}{K:Frag}
def ledger (h:Heap)(L d:Addr):List (Addr×Obj):=(List.range h.objs.size).filterMap fun a=>if a=L\/a=d then none else(h.get? a).map fun o=>(a,o)
end
end Att
namespace L2
open PySem PySem.Spec PyProof.Rows
theorem uN:∀{vs:List Value}{ns:List Int},IntsAre vs ns->Vals (ns.map V.int) vs
 |_,_,.nil=> .nil
 |_,_,.cons n t h=> .cons ⟨t,rfl⟩ (uN h)
def fH (s:Stmt):Arguments:=match s with
 | .FunctionDef _ a _ _ _ _ _ _ _ _=>a
 |_=> {posonlyargs:=[],args:=[],vararg:=none,kwonlyargs:=[],kw_defaults:=[],kwarg:=none,defaults:=[]}
def bJ (s:Stmt):List Stmt:=match s with
 | .FunctionDef _ _ b _ _ _ _ _ _ _=>b
 |_=> []
def aK (s:Stmt):Scope:=match s with
 | .FunctionDef _ _ _ _ _ _ sc _ _ _=>sc
 |_=> {kind:=.function,names:=[],isGenerator:=false,isCoroutine:=false}
abbrev CX0:CXT:=fun _ _ _ _ _ _=>False
abbrev E0:XK:=fun _ _ _=>False
theorem bA {X:Cx}:jR CX0 X E0:=fun _ _ _ _ _ _ _ h=>h.elim
structure Fun (K:W.Frag)(x qual:Str)(st:Stmt)(f:Addr)(fd:FuncData):Prop where
 ex:∃(oc:Value)(od:Option Addr)(kV doc pm:Value)(an:Option Addr)(cdv ct:Value)(osl:Array (Option Value)),
  fd=W.fnOf x qual (fH st) (bJ st) (aK st) .none kV doc pm an cdv ct/\K.lookup f=some ⟨oc,od,.func fd,osl⟩/\W.codeIn K cdv qual=true
 kp:W.keepIn K (.ref f)=true
section
variable {P:Program}{w:World}{K:W.Frag}{mg:Str->Option Value}{base:Heap}
theorem Fun.ok {x qual:Str}{st:Stmt}{f:Addr}{fd:FuncData}{N ps:List Str}{k:Nat}{sp:Sp}(F:Fun K x qual st f fd)(S:bV N ps (aK st))(len:∀vs H Q E,sp vs H Q E->vs.length=ps.length)
  (hbody:∀(cdv:Value)(A:Around)(outer:List Env)(s:Shared)(H:Hp)(vs:List V)(Q:VK)(E:XK),Room k (A.deeper (envOfC qual (aK st) s.heap.objs.size f cdv))->sp vs H Q E->
   ∃t,PSs (cV CX0 P w K mg base N qual (aK st) f cdv A outer s H E).nox (bJ st) t/\t {nx:=fun _ H'=>Q .non H',rt:=Q} (start N vs) H):FnOk P w K mg base CX0 (k+1) f fd ps sp:=by
 obtain⟨oc,od,kV,doc,pm,an,cdv,ct,osl,rfl,lk,hcd⟩:=F.ex
 refine sX lk hcd S len fun A outer s H vs Q E hr hsp=> ?_
 obtain⟨t,h,q⟩:=hbody cdv A outer s H vs Q E hr hsp
 exact⟨t,h.nox,q⟩
theorem Fun.binds {x qual:Str}{st:Stmt}{f:Addr}{fd:FuncData}{ps:List Str}(F:Fun K x qual st f fd)
  (h:∀(kV doc pm:Value)(an:Option Addr)(cdv ct:Value)(us:List Value),us.length=ps.length->bindArgs (W.fnOf x qual (fH st) (bJ st) (aK st) .none kV doc pm an cdv ct) ⟨us,[]⟩=pure (ps.zip us)):Binds K fd ps []:=by
 obtain⟨oc,od,kV,doc,pm,an,cdv,ct,osl,rfl,lk,hcd⟩:=F.ex
 exact .all (h kV doc pm an cdv ct)
theorem wN {x qual:Str}{st:Stmt}{f:Addr}{oc:Value}{od an:Option Addr}{osl:Array (Option Value)}{kV doc pm cdv ct:Value}(l:K.lookup f=some ⟨oc,od,.func (W.fnOf x qual (fH st) (bJ st) (aK st) .none kV doc pm an cdv ct),osl⟩)
  (c:W.codeIn K cdv qual=true)(k:W.keepIn K (.ref f)=true):Fun K x qual st f (W.fnOf x qual (fH st) (bJ st) (aK st) .none kV doc pm an cdv ct):=⟨⟨oc,od,kV,doc,pm,an,cdv,ct,osl,rfl,l,c⟩,k⟩
end
theorem lI {A:Around}{k:Nat}(hr:Room k A):A.units+1<cLine:=lt_of_le_of_lt (add_le_add_left (by decide:1<=64) _) hr.units
theorem eI {n:Nat}(h:n<=1000):n<sizeLine:=lt_of_le_of_lt h (by decide)
section
variable {X:Cx}
theorem pv (i:Nat){x:Str}{pos:Pos}(hN:X.N[i]?=some x:=by rfl)(hv:Vis X.env.scope x:=by first|exact Or.inl rfl|exact Or.inr (Or.inl rfl)|exact Or.inr (Or.inr rfl))(hd:(x==("__debug__":Str))=false:=by decide)
  (hcd:(x==("__classdict__":Str))=false:=by decide):PE X (.Name x pos) (eL i):=xZ hN hv hd hcd
end
theorem cO {A B:Prop}(h:B):if false=true then A else B:=by
 rw [if_neg Bool.false_ne_true]
 exact h
theorem cN {A B:Prop}(h:A):if true=true then A else B:=by
 rw [if_pos rfl]
 exact h
theorem tI {c A B:Prop} [Decidable c](hc:c)(h:B):if (!decide c)=true then A else B:=by
 rw [zjV hc]
 exact cO h
def Same (H H':Hp):Prop:=∀b o,H b=some o->H' b=some o
theorem Same.refl (H:Hp):Same H H:=fun _ _ h=>h
theorem Same.trans {H H1 H2:Hp}(a:Same H H1)(b:Same H1 H2):Same H H2:=fun c o h=>b c o (a c o h)
theorem Same.free {H H':Hp}(e:Same H H'){l:Addr}(h:H' l=Option.none):H l=Option.none:=by
 cases q:H l with
 |none=>rfl
 |some o=>
  rw [e l o q]at h
  cases h
theorem Same.seq {K:W.Frag}{H H':Hp}{a:Addr}{xs:List V}(e:Same H H')(h:SqL K H a xs):SqL K H' a xs:=by
 rcases h with(h| ⟨o,h⟩)|h
 ·exact .inl (.inl (e _ _ h))
 ·exact .inl (.inr ⟨o,e _ _ h⟩)
 ·exact .inr h
section
variable {κ:Type} [DecidableEq κ]
def eE (kvs:List (κ×V))(k:κ):Option V:=(kvs.find? fun kv=>decide (kv.1=k)).map (·.2)
def fI (kvs:List (κ×V))(k:κ)(v:V):List (κ×V):=
 if (kvs.any fun kv=>decide (kv.1=k))=true then kvs.map (fun kv=>if kv.1=k then(kv.1,v)else kv)else kvs++[(k,v)]
theorem oS {p:κ×V}{r:List (κ×V)}{k:κ}(e:p.1=k):eE (p::r) k=some p.2:=by simp [eE,find?_cons,e]
theorem oY {p:κ×V}{r:List (κ×V)}{k:κ}(e:¬p.1=k):eE (p::r) k=eE r k:=by simp [eE,find?_cons,e]
theorem sR (k:κ):∀kvs:List (κ×V),(kvs.any fun kv=>decide (kv.1=k))=(eE kvs k).isSome
 | []=>rfl
 |p::r=>by
  rw [any_cons]
  by_cases e:p.1=k
  ·simp only [oS e,zjV e,Bool.true_or,Option.isSome_some]
  ·rw [oY e,zjU e,Bool.false_or];exact sR k r
theorem zE (kvs:List (κ×V))(k:κ)(v:V):(fI kvs k v).length<=kvs.length+1:=by
 unfold fI
 split
 ·rw [length_map];omega
 ·rw [length_append,length_cons,length_nil];omega
theorem A7v {kvs:List (κ×V)}{k:κ}(v:V)(h:eE kvs k=none):fI kvs k v=kvs++[(k,v)]:=by
 unfold fI
 rw [sR,h]
 exact if_neg (by decide)
theorem RelO.isSome_eq {o:Option V}{u:Option Value}(r:RelO o u):o.isSome=u.isSome:=by
 cases o with
 |none=>cases u with
  |none=>rfl
  |some _=>exact(show False from r).elim
 |some _=>cases u with
  |none=>exact(show False from r).elim
  |some _=>rfl
theorem RelO.getD {o:Option V}{u:Option Value}{d:V}{d':Value}(r:RelO o u)(rd:RelV d d'):RelV (o.getD d) (u.getD d'):=by
 cases o with
 |none=>cases u with
  |none=>exact rd
  |some _=>exact(show False from r).elim
 |some _=>cases u with
  |none=>exact(show False from r).elim
  |some _=>exact r
theorem KV.val {kvs:List (κ×V)}{vs:List (κ×Value)}(r:KV kvs vs)(k:κ):RelO (eE kvs k) (valueAt vs k):=by
 unfold KV at r
 induction r with
 |nil=>exact True.intro
 | @cons p q ps qs h t ih=>
  obtain⟨h1,h2⟩:=h
  by_cases e:p.1=k
  ·have e':q.1=k:=h1.symm.trans e
   have b:valueAt (q::qs) k=some q.2:=by simp [valueAt,find?_cons,e']
   rw [oS e,b];exact h2
  ·have e':¬q.1=k:=fun z=>e (h1.trans z)
   have b:valueAt (q::qs) k=valueAt qs k:=by simp [valueAt,find?_cons,e']
   rw [oY e,b];exact ih
theorem KV.any {kvs:List (κ×V)}{vs:List (κ×Value)}(r:KV kvs vs)(k:κ):(kvs.any fun kv=>decide (kv.1=k))=vs.any fun kv=>decide (kv.1=k):=by
 unfold KV at r
 induction r with
 |nil=>rfl
 |cons h t ih=>rw [any_cons,any_cons,ih,h.1]
theorem KV.repl {kvs:List (κ×V)}{vs:List (κ×Value)}(r:KV kvs vs)(k:κ){y:V}{u:Value}(ry:RelV y u):
  KV (kvs.map fun kv=>if kv.1=k then(kv.1,y)else kv) (vs.map fun kv=>if kv.1=k then(kv.1,u)else kv):=by
 unfold KV at r⊢
 induction r with
 |nil=>exact .nil
 | @cons p q ps qs h t ih=>
  rw [map_cons,map_cons]
  refine .cons ?_ ih
  obtain⟨h1,h2⟩:=h
  by_cases e:p.1=k
  ·rw [if_pos e,if_pos (h1.symm.trans e)];exact⟨h1,ry⟩
  ·rw [if_neg e,if_neg (fun z=>e (h1.trans z))];exact⟨h1,h2⟩
theorem KV.put {kvs:List (κ×V)}{vs:List (κ×Value)}(r:KV kvs vs)(k:κ){y:V}{u:Value}(ry:RelV y u):KV (fI kvs k y) (stored vs k u):=by
 unfold fI stored
 rw [r.any k]
 by_cases e:(vs.any fun kv=>decide (kv.1=k))=true
 ·rw [if_pos e,if_pos e];exact r.repl k ry
 ·rw [if_neg e,if_neg e];exact Paired.snoc r ⟨rfl,ry⟩
end
theorem pA {P:Program}{w:World}{k:Key}{u:Value}(r:RelV (kV k) u):(eB P w).is k u=true:=by
 cases k with
 |inl i=>obtain⟨t,e⟩:=(show∃t,u=Value.int i t from r);subst e;exact wV P w i t
 |inr x=>obtain⟨t,e⟩:=(show∃t,u=Value.str x t from r);subst e;exact A24 P w x t
theorem zQ {P:Program}{w:World}:∀{ks:List Key}{us:List Value},Vals (ks.map kV) us->ItemsAre (eB P w) ks us
 | [],_,r=>by rw [map_nil]at r;cases r;exact .nil
 |k::ks,_,r=>by
  rw [map_cons]at r
  cases r with
  |cons h t=>exact .cons (pA h) (zQ t)
abbrev KT (H:Hp):List (List Key×V)->List (List Key×Addr×Value)->Prop:=Paired fun p q=>p.1=q.1/\H q.2.1=some (.tup (p.1.map kV))/\RelV p.2 q.2.2
theorem KT.val {H:Hp}{kvs:List (List Key×V)}{xs:List (List Key×Addr×Value)}(r:KT H kvs xs)(k:List Key):RelO (eE kvs k) ((atKey xs k).map (·.2)):=by
 induction r with
 |nil=>exact True.intro
 | @cons p q ps qs h t ih=>
  obtain⟨h1,_,h2⟩:=h
  by_cases e:p.1=k
  ·have e':q.1=k:=h1.symm.trans e
   have b:atKey (q::qs) k=some q.2:=by simp [atKey,find?_cons,e']
   rw [oS e,b];exact h2
  ·have e':¬q.1=k:=fun z=>e (h1.trans z)
   have b:atKey (q::qs) k=atKey qs k:=by simp [atKey,find?_cons,e']
   rw [oY e,b];exact ih
theorem KT.repl {H:Hp}{kvs:List (List Key×V)}{xs:List (List Key×Addr×Value)}(r:KT H kvs xs)(k:List Key){y:V}{u:Value}(ry:RelV y u):
  KT H (kvs.map fun kv=>if kv.1=k then(kv.1,y)else kv) (xs.map (putAt k u)):=by
 induction r with
 |nil=>exact .nil
 | @cons p q ps qs h t ih=>
  rw [map_cons,map_cons]
  refine .cons ?_ ih
  obtain⟨h1,h2,h3⟩:=h
  unfold putAt
  by_cases e:p.1=k
  ·rw [if_pos e,if_pos (h1.symm.trans e)];exact⟨h1,h2,ry⟩
  ·rw [if_neg e,if_neg (fun z=>e (h1.trans z))];exact⟨h1,h2,h3⟩
theorem KT.put {H:Hp}{kvs:List (List Key×V)}{xs:List (List Key×Addr×Value)}(r:KT H kvs xs)(k:List Key){b:Addr}{y:V}{u:Value}(hb:H b=some (.tup (k.map kV)))(ry:RelV y u):
  KT H (fI kvs k y) (storedH xs k b u):=by
 have e:(kvs.any fun kv=>decide (kv.1=k))=(atKey xs k).isSome:=by
  rw [sR,(r.val k).isSome_eq,Option.isSome_map]
 unfold fI storedH
 rw [e]
 by_cases q:(atKey xs k).isSome=true
 ·rw [if_pos q,if_pos q];exact r.repl k ry
 ·rw [if_neg q,if_neg q];exact Paired.snoc r ⟨rfl,hb,ry⟩
theorem KT.keeps {H H':Hp}{kvs:List (List Key×V)}{xs:List (List Key×Addr×Value)}(r:KT H kvs xs)(ht:∀b ys,H b=some (.tup ys)->H' b=some (.tup ys)):KT H' kvs xs:=
 Paired.mapP r fun _ _ z=> ⟨z.1,ht _ _ z.2.1,z.2.2⟩
section
variable {P:Program}{w:World}{H:Hp}{h:Heap}{a:Addr}
theorem vZ {u:HO}(ok:HOk P w H h)(e:Rd H a u):ObjOk P w H h a u:=e.ok ok
theorem lT {kvs:List (Key×V)}(ok:HOk P w H h)(e:Rd H a (.dK kvs)):kvs.length<=sizeLine/\(a==sysModules)=false/\∃vs,KV kvs vs/\h.DictOf (eB P w) a vs:=
 show ObjOk P w H h a (.dK kvs)from vZ ok e
theorem A12 {kvs:List (Key×V)}(ok:HOk P w H h)(e:H a=some (.dK kvs)):kvs.length<=sizeLine/\(a==sysModules)=false/\∃vs,KV kvs vs/\h.DictOf (eB P w) a vs:=lT ok (.inl e)
theorem oR {ks:List Key}(ok:HOk P w H h)(e:H a=some (.tup (ks.map kV))):(tupleKind (eB P w)).is h ks a:=by
 obtain⟨_,its,r,o,h1,h2,n,h3⟩:=(show ObjOk P w H h a (.tup (ks.map kV))from ok a _ e)
 exact⟨o,its.toArray,n,h1,h2,h3,by simpa using zQ r⟩
theorem mO {kvs:List (List Key×V)}(ok:HOk P w H h)(e:Rd H a (.dT kvs)):kvs.length<=sizeLine/\(a==sysModules)=false/\
  ∃xs,KT H kvs xs/\h.DictOfH (tupleKind (eB P w)) a xs:=by
 obtain⟨z,y,xs,r,o,es,ep,h1,h2,h3,h4,h5⟩:=(show ObjOk P w H h a (.dT kvs)from vZ ok e)
 refine⟨z,y,xs,r,o,es,ep,h1,h2,h3,h4,fun x hx=> ?_,h5⟩
 have all:∀{l:List (List Key×V)}{m:List (List Key×Addr×Value)},KT H l m->∀x∈m,(tupleKind (eB P w)).is h x.1 x.2.1:=by
  intro l m q
  induction q with
  |nil=>intro x hx;exact nomatch hx
  | @cons p q ps qs hq t ih=>
   intro x hx
   rcases mem_cons.mp hx with e|hx
   ·subst e
    exact oR ok (by rw [←hq.1];exact hq.2.1)
   ·exact ih x hx
 exact all r x hx
theorem A2t {kvs:List (List Key×V)}(ok:HOk P w H h)(e:H a=some (.dT kvs)):kvs.length<=sizeLine/\(a==sysModules)=false/\
  ∃xs,KT H kvs xs/\h.DictOfH (tupleKind (eB P w)) a xs:=mO ok (.inl e)
end
def DGet (H:Hp)(a:Addr)(y:V)(r:Option V):Prop:=
 (∃kvs k,Rd H a (.dK kvs)/\y=kV k/\r=eE kvs k)\/ ∃kvs k b,Rd H a (.dT kvs)/\y= .ref b/\H b=some (.tup (k.map kV))/\r=eE kvs k
theorem DGet.t {H:Hp}{a b:Addr}{kvs:List (List Key×V)}{k:List Key}(e:H a=some (.dT kvs))(eb:H b=some (.tup (k.map kV))):DGet H a (.ref b) (eE kvs k):=.inr ⟨kvs,k,b,.inl e,rfl,eb,rfl⟩
section
variable {X:Cx}{pins:List (Addr×Obj)}{σ:St}{H:Hp}{s:Shared}{a:Addr}{y v:V}{u r:Value}{o:Option V}{A:Around}{E:Value->Shared->Prop}
theorem Inv.big (I:Inv X pins σ H s):sysModules<s.heap.objs.size:=by
 have h:mainGlobals<s.heap.objs.size:=(I.mod.glob.keeps I.bk).lt
 exact lt_trans (by decide) h
theorem A1z {Q:Value->Shared->Prop}(hu:A.units+1<cLine)(I:Inv X pins σ H s)(g:DGet H a y (some v))(ry:RelV y u)(h:∀w' s',Inv X pins σ H s'->RelV v w'->Q w' s'):
  wpAny (model X.prog X.w) A (getItem (.ref a) u) Q E s:=by
 rcases g with⟨kvs,k,e,ey,l⟩| ⟨kvs,k,b,e,ey,eb,l⟩
 ·subst ey
  obtain⟨z,hd,vs,rel,dd⟩:=lT I.hok e
  obtain⟨w',hw,rw'⟩:=RelO.some_of (v:=v) (o:=valueAt vs k) (by rw [l];exact rel.val k)
  exact wpAny_getItem_of (pA ry) dd.mapOf hw (h w' _ (I.tok _) rw')
 ·subst ey
  cases (show u=Value.ref b from ry)
  obtain⟨z,hd,xs,rel,dd⟩:=mO I.hok e
  obtain⟨w',hw,rw'⟩:=RelO.some_of (v:=v) (o:=(atKey xs k).map (·.2)) (by rw [l];exact rel.val k)
  obtain⟨p,hp,hp2⟩:=Option.map_eq_some_iff.mp hw
  refine wpAny_getItem_heap (tupleKind_room_in1 hu) (oR I.hok eb) dd hp ?_
  rw [hp2]
  exact h w' _ (I.tok _) rw'
theorem xF {h':Heap}{t':Nat}{ob:HO}(I:Inv X pins σ H s)(mu:Mut (H a))(hs:Heap.SameBut a s.heap h')(he:∃q,h'.get? a=some q)(new:ObjOk X.prog X.w (upd H a ob) h' a ob):
  Inv X pins σ (upd H a ob) {s with heap:=h',toks:=t'}:=
 I.write (x:=a) (e:=a) mu (.inl rfl) (fun b q hb z=>(hs.2 b hb).trans z) he new
theorem A07 {P:Program}{w:World}{H':Hp}{h':Heap}{kvs:List (Key×V)}{vs:List (Key×Value)}(z:kvs.length<=sizeLine)(hd:(a==sysModules)=false)(rel:KV kvs vs)(dd:h'.DictOf (eB P w) a vs):
  ObjOk P w H' h' a (.dK kvs):=⟨z,hd,vs,rel,dd⟩
end
section
variable {X:Cx}{pins:List (Addr×Obj)}{σ:St}{H:Hp}{s:Shared}{a:Addr}{kvs:List (Key×V)}{k:Key}{u:Value}{A:Around}{E:Value->Shared->Prop}
end
def uV (i:Expr):Prop:=∀ov iv,subscripted i false ov iv=operate [ov,iv] (getItem ov iv)
theorem A7m {prog:Program}{w:World}{A:Around}{E:Value->Shared->Prop}{s:Shared}{env:Env}{value slice:Expr}{pos:Pos}{T id:String}{Q:Value->Shared->Prop}
  (hl:typeLookup (.type T) "__getitem__" =pure (some (.builtin id)))(hs:uV slice)
  (h:wpAny (model prog w) A (eval value env) (fun o s₁=>wpAny (model prog w) A (eval slice env) (fun i s₂=>s₂.TypeIs o T/\wpAny (model prog w) A (getItem o i) Q E s₂) E s₁) E s):
  wpAny (model prog w) A (eval (.Subscript value slice pos) env) Q E s:=by
 refine Subscript_ (wpAny_mono h (fun o s₁ h₁=>wpAny_mono h₁ (fun i s₂ h₂=> ?_) fun _ _ x=>x) fun _ _ x=>x)
 obtain⟨hT,h₂⟩:=h₂
 unfold subscriptTail
 refine zjZ ?_
 rw [getitemInPython_of_ne hT.not_modules]
 refine zjZ (wpAny_specialOf hT hl ?_)
 have fin:wpAny (model prog w) A (subscripted slice false o i) (fun r s₃=>wpAny (model prog w) A (letTemporaryGo value o r>>=fun _=>pure r) Q E s₃) E s₂:=by
  rw [hs o i]
  exact wpAny_operating (wpAny_mono h₂ (fun r s₃ h₃=>zjZ (wpAny_letTemporaryGo (zjY h₃))) fun _ _ x=>x)
 first
  |exact zjY (zjZ fin)
  |exact zjZ (zjY (zjZ fin))
  |exact zjZ fin
theorem A7j {X:Cx}{pins:List (Addr×Obj)}{σ:St}{H:Hp}{s:Shared}{a:Addr}{y:V}{o:Option V}(I:Inv X pins σ H s)(g:DGet H a y o):s.TypeIs (.ref a) "dict":=by
 rcases g with⟨kvs,k,e,_,_⟩| ⟨kvs,k,b,e,_,_,_⟩
 ·obtain⟨_,_,vs,_,dd⟩:=lT I.hok e
  exact dd.typeIs
 ·obtain⟨_,_,xs,_,dd⟩:=mO I.hok e
  exact dd.typeIs
def A4u (td ty:TE):TE:=fun σ H Q=>td σ H fun x H1=>ty σ H1 fun y H2=> ∃a v,x= .ref a/\DGet H2 a y (some v)/\Q v H2
section
variable {X:Cx}{o i e value:Expr}{pos pos' tpos:Pos}{td ty tv:TE}
theorem vU (hu:X.A.units+1<cLine)(ho:PE X o td)(hi:PE X i ty)(hs:uV i):PE X (.Subscript o i pos) (A4u td ty):=by
 intro pins s σ H Q I h
 refine A7m PySem.F.slot_dict_getitem.lookup hs (thn (ho pins s σ H _ I h) fun u s1 ⟨x,H1,I1,rx,q1⟩=>thn (hi pins s1 σ H1 _ I1 q1) fun iv s2 ⟨y,H2,I2,ry,a,v,ex,g,q2⟩=> ?_)
 subst ex
 obtain rfl:u=Value.ref a:=rx
 exact⟨A7j I2 g,A1z hu I2 g ry fun w' s3 I3 rw'=> ⟨v,H2,I3,rw',q2⟩⟩
end
theorem A64 {P:Program}{w:World}{H:Hp}(h:Heap)(hb:sysModules<h.objs.size):ObjOk P w H (h.push {cls:=.type "dict",data:=.dict #[]}) h.objs.size (.dK []):=
 ⟨zero_le _,beq_eq_false_iff_ne.mpr (Ne.symm (ne_of_lt hb)),[],.nil,Heap.DictOf.new h⟩
section
variable {X:Cx}{pos:Pos}
end
def rL:List (TE×TE)->St->Hp->(List (V×V)->Hp->Prop)->Prop
 | [],_,H,Q=>Q [] H
 | (tk,tv)::r,σ,H,Q=>tk σ H fun x H1=>tv σ H1 fun y H2=>rL r σ H2 fun ps H3=>Q ((x,y)::ps) H3
abbrev VV:List (V×V)->List (Value×Value)->Prop:=Paired fun p q=>RelV p.1 q.1/\RelV p.2 q.2
def PPs (X:Cx)(pos:Pos)(keys:List (Option Expr))(values:List Expr)(trs:List (TE×TE)):Prop:=
 ∀(pins:List (Addr×Obj))(s:Shared)(σ:St)(H:Hp)(Q:List (V×V)->Hp->Prop),Inv X pins σ H s->rL trs σ H Q->
  wpAny (model X.prog X.w) X.A (evalPairs (pairTrees keys values X.env pos)) (fun vs s'=> ∃ps H',Inv X pins σ H' s'/\VV ps vs/\Q ps H') X.xe s
theorem A08 {X:Cx}{pos:Pos}:PPs X pos [] [] []:=fun pins s σ H Q I h=>pairTrees_nil_walk ⟨[],H,I,.nil,h⟩
theorem zI {X:Cx}{pos:Pos}{k v:Expr}{ks:List (Option Expr)}{vs:List Expr}{tk tv:TE}{trs:List (TE×TE)}(hk:PE X k tk)(hv:PE X v tv)(hr:PPs X pos ks vs trs):
  PPs X pos (some k::ks) (v::vs) ((tk,tv)::trs):=fun pins s σ H Q I h=>
 pairTrees_cons_walk (thn (hk pins s σ H _ I h) fun u s1 ⟨x,H1,I1,rx,q1⟩=>thn (hv pins s1 σ H1 _ I1 q1) fun w2 s2 ⟨y,H2,I2,ry,q2⟩=>
  thn (hr pins s2 σ H2 _ I2 q2) fun ws s3 ⟨ps,H3,I3,rel,q3⟩=> ⟨(x,y)::ps,H3,I3,.cons ⟨rx,ry⟩ rel,q3⟩)
def kI (kvs more:List (Key×V)):List (Key×V):=more.foldl (fun acc kv=>fI acc kv.1 kv.2) kvs
theorem KV.merge:∀{more:List (Key×V)}{rs:List (Key×Value)}{kvs:List (Key×V)}{vs:List (Key×Value)},KV more rs->KV kvs vs->KV (kI kvs more) (merged vs rs):=by
 intro more rs kvs vs r
 unfold KV at r
 induction r generalizing kvs vs with
 |nil=>intro q;exact q
 | @cons p q ps qs h t ih=>
  intro r0
  have e:KV (fI kvs p.1 p.2) (stored vs q.1 q.2):=by
   have:=r0.put p.1 h.2
   rw [←h.1];exact this
  exact ih e
theorem zS:∀(more kvs:List (Key×V)),(kI kvs more).length<=kvs.length+more.length
 | [],kvs=>by show kvs.length<=kvs.length+0;omega
 |p::r,kvs=>by
  have h1:=zS r (fI kvs p.1 p.2)
  have h2:=zE kvs p.1 p.2
  show(kI (fI kvs p.1 p.2) r).length<=_
  rw [length_cons];omega
theorem zM {P:Program}{w:World}:∀{kvs:List (Key×V)}{ws:List (Value×Value)},VV (kvs.map fun kv=>(kV kv.1,kv.2)) ws->∃rs,Carries (eB P w) ws rs/\KV kvs rs
 | [],_,r=>by rw [map_nil]at r;cases r;exact⟨[],True.intro,.nil⟩
 |p::kvs,_,r=>by
  rw [map_cons]at r
  cases r with
  | @cons a b as bs h t=>
   obtain⟨rs,c,q⟩:=zM (P:=P) (w:=w) t
   obtain⟨b1,b2⟩:=b
   exact⟨(p.1,b2)::rs,⟨pA h.1,rfl,c⟩,.cons ⟨rfl,h.2⟩ q⟩
def A2i (trs:List (TE×TE)):TE:=fun σ H Q=> ∀p,H p=none->rL trs σ (upd H p (.dK [])) fun ps H2=>H2 p=some (.dK [])/\∃kvs:List (Key×V),ps=kvs.map (fun kv=>(kV kv.1,kv.2))/\kvs.length<=15/\Q (.ref p) (upd H2 p (.dK (kI [] kvs)))
theorem A6u {X:Cx}{pos:Pos}{keys:List (Option Expr)}{values:List Expr}{trs:List (TE×TE)}(h:PPs X pos keys values trs)(hall:keys.all (·.isSome)=true)(hl:keys.length=values.length)(h0:keys≠[])
  (h15:keys.length<=15):PE X (.Dict keys values pos) (A2i trs):=by
 intro pins s σ H Q I q
 have hn:=I.hok.fresh (zjQ s.heap.objs.size)
 have I1:=I.laid (a:=s.heap.objs.size) (o:=.dK []) (h':=s.heap.push {cls:=.type "dict",data:=.dict #[]}) (t':=s.toks) (fun _ _ q=>zjX _ q) (zjQ _) (A64 s.heap I.big)
 refine wpAny_Dict_walk (knd:=eB X.prog X.w) hall hl h0 h15 (thn (h pins _ σ _ _ I1 (q _ hn)) fun ws s2 ⟨ps,H2,I2,rel,e,kvs,ep,lk,q2⟩=> ?_)
 subst ep
 obtain⟨rs,c,rk⟩:=zM (P:=X.prog) (w:=X.w) rel
 obtain⟨z,hd,vs0,r0,dd⟩:=A12 I2.hok e
 cases r0
 refine⟨rs,c,dd,fun h' dd' hs=> ⟨.ref s.heap.objs.size,_,?_,rfl,q2⟩⟩
 have hz:(kI [] kvs).length<=sizeLine:=by
  have h1:=zS kvs []
  rw [length_nil]at h1
  rw [sizeLine_eq];omega
 have he:∃q,h'.get? s.heap.objs.size=some q:=let ⟨q,_,_,hq,_⟩:=dd';⟨q,hq⟩
 exact xF I2 (by rw [e];exact True.intro) hs he (A07 hz hd (rk.merge .nil) dd')
end L2
set_option maxHeartbeats 4000000
namespace L2
open PySem PySem.Spec PyProof.Rows
structure bX where
 cl:List (Str×Addr)
 C:Addr
 s:Shared
 H:Hp
 fp:List Addr
 pn:List (Addr×Obj)
def cG (X:Cx)(N:List Str)(scope:Scope)(Z:bX):Cx where
 prog:=X.prog
 w:=X.w
 K:=X.K
 mg:=X.mg
 base:=X.base
 A:=X.A
 N:=N
 s₀:=Z.s
 H₀:=Z.H
 env:=compEnvC scope Z.cl Z.C X.env
 outer:=X.stack
 stack:=X.stack
 ex:=Z.fp
 fn:=fun _=>false
 calm:=X.calm
 pn:=Z.pn
 xe:=fun _ _=>False
def iC (ns:List (Str×NameKind))(N:List Str)(scope:Scope)(frees:List (Str×Nat)):Prop:=
 (∀x∈scope.names,x.2≠ .cell/\(x.2= .local->scope.names.lookup x.1=some .local)/\(x.2= .free->ns.lookup x.1=some .cell\/ns.lookup x.1=some .free))/\
 ∀p∈frees,N[p.2]?=some p.1/\scope.names.lookup p.1=some .free/\(ns.lookup p.1=some .cell\/ns.lookup p.1=some .free)
instance (ns:List (Str×NameKind)) (N:List Str) (scope:Scope) (frees:List (Str×Nat)):Decidable (iC ns N scope frees):=by unfold iC;infer_instance
def σC (n:Nat)(frees:List (Str×Nat))(σ:St):St:=replicate n none++frees.map fun p=>(σ[p.2]?).join
theorem rE {env:Env}{scope:Scope}(hf:∀x∈scope.names,x.2= .free->∃c,env.cells.lookup x.1=some c):
  ∃cl,closureFor scope env=pure cl/\(∀x c,cl.lookup x=some c->env.cells.lookup x=some c)/\∀x,(x,NameKind.free)∈scope.names->∃c,cl.lookup x=some c:=by
 have go:∀(names:List (Str×NameKind))(cs:List (Str×Addr)),(∀x∈names,x.2= .free->∃c,env.cells.lookup x.1=some c)->(∀x c,cs.lookup x=some c->env.cells.lookup x=some c)->
   ∃cl,(forIn names cs (fun(x:Str×NameKind) (r:List (Str×Addr))=>(if (x.2==NameKind.free)=true then(do let a←cellOf env x.1;pure (ForInStep.yield ((x.1,a)::r)))else pure (ForInStep.yield r):Sem (ForInStep (List (Str×Addr))))))=pure cl/\
    (∀x c,cl.lookup x=some c->env.cells.lookup x=some c)/\(∀x c,cs.lookup x=some c->∃c',cl.lookup x=some c')/\∀x,(x,NameKind.free)∈names->∃c,cl.lookup x=some c:=by
  intro names
  induction names with
  |nil=>intro cs _ h;exact⟨cs,rfl,h,fun x c e=> ⟨c,e⟩,fun x hx=>nomatch hx⟩
  |cons y r ih=>
   intro cs hf h
   obtain⟨n,k⟩:=y
   have hr:∀x∈r,x.2= .free->∃c,env.cells.lookup x.1=some c:=fun x hx=>hf x (zjS _ hx)
   by_cases hk:k= .free
   ·subst hk
    obtain⟨c,hc⟩:=hf (n,.free) zjR rfl
    have h2:∀x c',((n,c)::cs).lookup x=some c'->env.cells.lookup x=some c':=fun x c' e=>by
     rw [lookup_cons]at e
     cases hx:x==n with
     |true=>
      rw [hx]at e
      have:x=n:=eq_of_beq hx
      cases e
      rw [this];exact hc
     |false=>rw [hx]at e;exact h x c' e
    obtain⟨cl,e1,e2,e3,e4⟩:=ih ((n,c)::cs) hr h2
    refine⟨cl,?_,e2,fun x c' e=> ?_,fun x hx=> ?_⟩
    ·rw [forIn_cons]
     have:cellOf env n=pure c:=by unfold cellOf;rw [hc]
     simp only [beq_self_eq_true,if_true,this,pure_bind]
     exact e1
    ·cases hx:x==n with
     |true=>exact e3 x c (by rw [lookup_cons,hx])
     |false=>exact e3 x c' (by rw [lookup_cons,hx];exact e)
    ·rcases mem_cons.mp hx with z|z
     ·cases z
      exact e3 n c (by rw [lookup_cons,beq_self_eq_true])
     ·exact e4 x z
   ·obtain⟨cl,e1,e2,e3,e4⟩:=ih cs hr h
    refine⟨cl,?_,e2,e3,fun x hx=> ?_⟩
    ·rw [forIn_cons]
     have hb:(k==NameKind.free)=false:=by simpa using hk
     simp only [hb,Bool.false_eq_true,if_false,pure_bind]
     exact e1
    ·rcases mem_cons.mp hx with z|z
     ·cases z;exact absurd rfl hk
     ·exact e4 x z
 obtain⟨cl,e1,e2,_,e4⟩:=go scope.names [] hf (fun x c e=>by simp at e)
 refine⟨cl,?_,e2,e4⟩
 unfold closureFor
 first
  | (rw [e1];rfl)
  | (simp only [e1];rfl)
  |simp [e1]
theorem sN {env:Env}:∀{names:List (Str×NameKind)}{x:Str},names.lookup x=some .free->
  (names.map fun(n,k)=>if (k==NameKind.free&&env.scope.kind== .function&&env.kindOf n==some .cell)then(n,NameKind.cell)else(n,k)).lookup x=some .cell\/
  (names.map fun(n,k)=>if (k==NameKind.free&&env.scope.kind== .function&&env.kindOf n==some .cell)then(n,NameKind.cell)else(n,k)).lookup x=some .free
 | [],_,h=>by simp at h
 | (n,k)::r,x,h=>by
  have ih:=@sN env r x
  show lookup x ((if (k==NameKind.free&&env.scope.kind== .function&&env.kindOf n==some .cell)=true then(n,NameKind.cell)else(n,k))::_)=_\/lookup x ((if (k==NameKind.free&&env.scope.kind== .function&&env.kindOf n==some .cell)=true then(n,NameKind.cell)else(n,k))::_)=_
  cases hx:x==n with
  |true=>
   simp only [lookup_cons,hx]at h
   cases h
   by_cases hc:(NameKind.free==NameKind.free&&env.scope.kind== .function&&env.kindOf n==some .cell)=true
   ·rw [if_pos hc];left;rw [lookup_cons,hx]
   ·rw [if_neg hc];right;rw [lookup_cons,hx]
  |false=>
   simp only [lookup_cons,hx]at h
   by_cases hc:(k==NameKind.free&&env.scope.kind== .function&&env.kindOf n==some .cell)=true
   ·rw [if_pos hc];simp only [lookup_cons,hx];exact ih h
   ·rw [if_neg hc];simp only [lookup_cons,hx];exact ih h
theorem relabel_back {env:Env}:∀{names:List (Str×NameKind)}{x:Str},
    ((names.map fun(n,k)=>if (k==NameKind.free&&env.scope.kind== .function&&env.kindOf n==some .cell)then(n,NameKind.cell)else(n,k)).lookup x=some .cell\/
     (names.map fun(n,k)=>if (k==NameKind.free&&env.scope.kind== .function&&env.kindOf n==some .cell)then(n,NameKind.cell)else(n,k)).lookup x=some .free)->
    (x,NameKind.free)∈names\/(x,NameKind.cell)∈names
  | [],_,h=>by simp at h
  | (n,k)::r,x,h=>by
    have ih:=@relabel_back env r x
    replace h:lookup x ((if (k==NameKind.free&&env.scope.kind== .function&&env.kindOf n==some .cell)=true then(n,NameKind.cell)else(n,k))::_)=_\/lookup x ((if (k==NameKind.free&&env.scope.kind== .function&&env.kindOf n==some .cell)=true then(n,NameKind.cell)else(n,k))::_)=_:=h
    cases hx:x==n with
    |true=>
      have e:x=n:=eq_of_beq hx
      subst e
      by_cases hc:(k==NameKind.free&&env.scope.kind== .function&&env.kindOf x==some .cell)=true
      · have:k= .free:=by
          simp only [Bool.and_eq_true]at hc
          exact eq_of_beq hc.1.1
        subst this
        exact .inl zjR
      · rw [if_neg hc]at h
        simp only [lookup_cons,hx,Option.some.injEq]at h
        rcases h with h|h
        · subst h;exact .inr zjR
        · subst h;exact .inl zjR
    |false=>
      have h':_:=h
      by_cases hc:(k==NameKind.free&&env.scope.kind== .function&&env.kindOf n==some .cell)=true
      · rw [if_pos hc]at h;simp only [lookup_cons,hx]at h
        rcases ih h with z|z
        · exact .inl (zjS _ z)
        · exact .inr (zjS _ z)
      · rw [if_neg hc]at h;simp only [lookup_cons,hx]at h
        rcases ih h with z|z
        · exact .inl (zjS _ z)
        · exact .inr (zjS _ z)
section
variable {X:Cx}{pins:List (Addr×Obj)}{σ:St}{H2:Hp}{s2:Shared}{scope:Scope}{loc:List Str}{frees:List (Str×Nat)}{ns:List (Str×NameKind)}{N:List Str}{fp:List Addr}{cl:List (Str×Addr)}
theorem A42 (I2:Inv X pins σ H2 s2)(hns:X.env.scope.names=ns)(hN:X.N=N)(hk:scope.kind= .function)(ok:iC ns N scope frees)(f2:∀b∈fp,eS X pins H2 b)(hlive:∀b∈fp,∃o,s2.heap.get? b=some o)
  (hc1:∀x c,cl.lookup x=some c->X.env.cells.lookup x=some c)(hc2:∀x,(x,NameKind.free)∈scope.names->∃c,cl.lookup x=some c)
  {C:Addr}{h4:Heap}{tk:Nat}(hC:C=s2.heap.objs.size+1)(hnsC:∃m,h4.Ns C m)(hacc:h4.get? s2.heap.objs.size=some {cls:=.type "list",dict:=none,data:=.seq ([]:List Value).toArray})
  (hkeep:∀b o,s2.heap.get? b=some o->h4.get? b=some o):
  Inv (cG X (loc++frees.map (·.1)) scope ⟨cl,C,s2,H2,fp,X.pn++pins⟩) [] (σC loc.length frees σ) (upd H2 s2.heap.objs.size (.lst [])) {s2 with heap:=h4,toks:=tk}:=by
 have below:∀{b:Addr}{o:Obj},s2.heap.get? b=some o->b≠C:=fun{b o} e z=>by
  have:=zjT e
  rw [z,hC]at this
  exact lt_irrefl _ (lt_of_succ_lt this)
 have hl:H2 s2.heap.objs.size=none:=I2.hok.fresh (zjQ _)
 have hCn:H2 C=none:=I2.hok.fresh (by rw [hC];exact le_succ _)
 have cne:∀x c,X.env.cells.lookup x=some c->∃o v,s2.heap.get? c=some o/\o.data= .cell v:=fun x c e=>by
  obtain⟨v,o,ho,hd⟩:=I2.cell x c e
  exact⟨o,v,ho,hd⟩
 obtain⟨mC,hmC⟩:=hnsC
 have hCl:C≠s2.heap.objs.size:=by rw [hC];exact succ_ne_self _
 refine⟨⟨I2.ok.mod,hk,I2.ok.glob,I2.ok.blt,?_,fun x y c h1 h2=>I2.ok.inj x y c (hc1 x c h1) (hc1 y c h2),fun x hx=> ?_,fun x c h=>(Bool.false_ne_true h).elim,I2.ok.hd,I2.ok.frames,.inl rfl,fun b hb=> ⟨?_,fun x c e z=> ?_⟩,I2.bs,le_trans I2.ok.bsz I2.sz,fun b o e hb=> ?_,fun b hb hfs=> ?_,I2.stack,I2.stkFree⟩,
  rfl,I2.bare,?_,⟨mC,hmC,fun i x v h1 h2 h3=> ?_⟩,fun x c e=> ?_,?_,fun x c e=> ?_,fun p hp=> ?_,?_,?_⟩
 ·show s2.heap.objs.size<=C
  rw [hC];exact le_succ _
 ·
  have hx':(relabel scope X.env).names.lookup x=some .cell\/(relabel scope X.env).names.lookup x=some .free:=hx
  rcases relabel_back hx' with z|z
  ·exact hc2 x z
  ·exact absurd rfl (ok.1 _ z).1
 ·obtain⟨o,ho⟩:=hlive b hb
  exact below ho
 ·exact(f2 b hb).2.2.2.2.1 x c (hc1 x c e) z
 ·rcases(f2 b hb).2.2.2.1 with z|z
  ·exact I2.ok.noex b o e z
  ·exact absurd (lt_of_lt_of_le (zjT (I2.ok.bs b o e).1) z) (lt_irrefl _)
 ·rcases mem_cons.mp (I2.stkSub b hfs)with z|z
  ·exact(f2 b hb).2.1 z
  ·exact(f2 b hb).2.2.1 z
 ·exact Un.laid hkeep (zjQ _) hl
 ·
  have hi:¬i<loc.length:=fun hlt=>by
   unfold σC at h2
   rw [getElem?_append_left (by simpa using hlt),getElem?_replicate]at h2
   simp [hlt]at h2
  have h2':(frees[i - loc.length]?).map (fun p=>(σ[p.2]?).join)=some (some v):=by
   unfold σC at h2
   rw [getElem?_append_right (by simpa using hi),length_replicate,getElem?_map]at h2
   exact h2
  have h1':(frees[i - loc.length]?).map (·.1)=some x:=by
   have h1:(loc++frees.map (·.1))[i]?=some x:=h1
   rw [getElem?_append_right (by omega),getElem?_map]at h1
   exact h1
  cases ep:frees[i - loc.length]? with
  |none=>rw [ep]at h1';simp at h1'
  |some p=>
   rw [ep]at h1' h2'
   simp only [Option.map_some,Option.some.injEq]at h1' h2'
   obtain⟨q1,q2,q3⟩:=ok.2 p (mem_of_getElem? ep)
   have hσ:σ[p.2]?=some (some v):=by
    cases e:σ[p.2]? with
    |none=>rw [e]at h2';simp at h2'
    |some o=>rw [e]at h2';simp at h2';rw [h2']
   have vis:Vis X.env.scope p.1:=by
    show _\/_
    rw [hns];rcases q3 with z|z
    ·exact .inr (.inl z)
    ·exact .inr (.inr z)
   obtain⟨m,hn,hlk⟩:=I2.loc
   obtain⟨u,ru,lk⟩:=hlk p.2 p.1 v (by rw [hN];exact q1) hσ vis
   refine⟨u,ru,.inr ?_⟩
   rw [←h1']
   rcases lk with⟨z,_⟩| ⟨_,c,ec,hcell⟩
   ·have z':X.env.scope.names.lookup p.1=some .local:=z
    rw [hns]at z'
    rcases q3 with y|y<;>rw [z']at y<;>cases y
   ·obtain⟨c',hc'⟩:=hc2 p.1 (PySem.mem_of_lookup q2)
    have:c'=c:=by have:=hc1 _ _ hc';rw [ec]at this;exact(Option.some.inj this).symm
    subst this
    refine⟨sN q2,c',hc',?_⟩
    obtain⟨o,ho,hd⟩:=hcell
    exact⟨o,hkeep _ _ ho,hd⟩
 ·obtain⟨o,v,ho,hd⟩:=cne x c (hc1 x c e)
  exact⟨v,o,hkeep _ _ ho,hd⟩
 ·show upd H2 _ _ C=none
  rw [aQ hCl];exact hCn
 ·obtain⟨o,v,ho,hd⟩:=cne x c (hc1 x c e)
  have:c≠s2.heap.objs.size:=ne_of_lt (zjT ho)
  rw [aQ this]
  exact I2.freeC x c (hc1 x c e)
 ·have hp':p∈X.pn++pins:=by
   rcases mem_append.mp hp with z|z
   ·exact z
   ·exact absurd z (by simp)
  obtain⟨e,n,ne,nf,d⟩:=I2.pin p hp'
  refine⟨hkeep _ _ e,?_,below e,fun z=> ?_,d⟩
  ·rw [aQ (ne_of_lt (zjT e))];exact n
  ·rcases mem_cons.mp (I2.stkSub p.1 z)with y|y
   ·exact ne y
   ·exact nf y
 ·exact I2.hok.laid hkeep (zjQ _) ⟨by simp,[],_,.nil,hacc⟩
 ·show(σC loc.length frees σ).length=(loc++frees.map (·.1)).length
  unfold σC
  simp
theorem nM {C:Addr}{H':Hp}{s':Shared}{σ':St}{h':Heap}{pl:List (Addr×Obj)}(I2:Inv X pins σ H2 s2)(f2:∀b∈fp,eS X pins H2 b)(hC:C=s2.heap.objs.size+1)
  (J:Inv (cG X N scope ⟨cl,C,s2,H2,fp,pl⟩) [] σ' H' s')(hs:Heap.SameBut C s'.heap h'):Inv X pins σ H' {s' with heap:=h'}:=by
 have I3:Inv X pins σ H' s':=I2.call' (ch:=fp) J.os J.base J.hok J.bare fun b hb=> ⟨(f2 b hb).2.2.2.1,(f2 b hb).2.1,(f2 b hb).2.2.2.2.1,(f2 b hb).2.2.2.2.2⟩
 refine I3.turned (it:=C) (t':=s'.toks) (fun b o hb e=>(hs.2 b hb).trans e) J.free ?_ (.inr ?_) (fun x c e z=> ?_) fun p hp z=> ?_
 ·intro z
  have:=I2.lt
  rw [←z,hC]at this;exact lt_irrefl _ (lt_of_succ_lt this)
 ·rw [hC];exact le_trans I2.sz (le_succ _)
 ·obtain⟨v,q⟩:=I2.cell x c e
  have:=q.lt
  rw [z,hC]at this;exact lt_irrefl _ (lt_of_succ_lt this)
 ·have:=zjT (I2.pin p hp).1
  rw [z,hC]at this;exact lt_irrefl _ (lt_of_succ_lt this)
end
abbrev TC:=St->Hp->(St->Hp->Prop)->Prop
def dZ (J:It)(g:TG)(tb:TS)(D:bK)(σ:St)(H:Hp):Prop:=∃W:Nat->Nat->St->Hp->Prop,(∃m,W 0 m σ H)/\∀i m σ H,W i m σ H->
 (J.stop i H/\D.nx σ H)\/(J.go i H/\∃N:St->Hp->Prop,(∀σ' H',N σ' H'->∃m',m'<m/\W (i+1) m' σ' H')/\∀x H',J.yld i H x H'->g x σ H' fun σ2 H2=>tb {D with nx:=N,ct:=N,bk:=D.nx} σ2 H2)
def eC (Q:St->Hp->Prop):bK:={nx:=Q,rt:=fun _ _=>False}
def dR (tt:TT)(tb:TC):TS:=fun D σ H=>tt σ H fun b H1=>if b=true then tb σ H1 D.nx else D.nx σ H1
def eY (l:Addr)(te:TE):TC:=fun σ H Q=>te σ H fun v H1=> ∃xs,H1 l=some (.lst xs)/\xs.length<sizeLine/\Q σ (upd H1 l (.lst (xs++[v])))
def lR (wi:TI)(g:TG)(tt:TT)(tb:TC):TC:=fun σ H Q=>wi σ H fun J H1=>dZ J g (dR tt tb) (eC Q) σ H1
def vY (wi:TI)(g:bX->TG)(tt:bX->TT)(te:bX->TE)(n:Nat)(frees:List (Str×Nat)):TE:=fun σ H Q=>wi σ H fun J H1=> ∀(Z:bX)(l:Addr),H1 l=none->
 dZ J (g Z) (dR (tt Z) (eY l (te Z))) (eC fun _ H'=>Q (.ref l) H') (σC n frees σ) (upd H1 l (.lst []))
def A44 (wi:TI)(g:bX->TG)(tt:bX->TT)(wi2:bX->TI)(g2:bX->TG)(tt2:bX->TT)(te:bX->TE)(n:Nat)(frees:List (Str×Nat)):TE:=fun σ H Q=>wi σ H fun J H1=> ∀(Z:bX)(l:Addr),H1 l=none->
 dZ J (g Z) (dR (tt Z) (lR (wi2 Z) (g2 Z) (tt2 Z) (eY l (te Z)))) (eC fun _ H'=>Q (.ref l) H') (σC n frees σ) (upd H1 l (.lst []))
def testsOf (ifs:List Expr)(env:Env):Sem Bool:=forIn ifs true fun c r=>if r=true then do let ok←isTrue c env (eval c env);pure (ForInStep.yield ok)else pure (ForInStep.yield r)
def PTs (Y:Cx)(ifs:List Expr)(t:TT):Prop:=∀(pins:List (Addr×Obj))(s:Shared)(σ:St)(H:Hp)(Q:Bool->Hp->Prop),Inv Y pins σ H s->t σ H Q->
 wpAny (model Y.prog Y.w) Y.A (testsOf ifs Y.env) (TP Y pins σ Q) Y.xe s
def iR:TT:=fun _ H Q=>Q true H
theorem fR {Y:Cx}:PTs Y [] iR:=fun pins s σ H Q I h=>wpAny_tests_nil ⟨H,I,h⟩
theorem jL {Y:Cx}{c:Expr}{t:TT}(hc:PT Y c t):PTs Y [c] t:=fun pins s σ H Q I h=>wpAny_tests_one (hc pins s σ H Q I h)
def PB (Y:Cx)(tail:(Unit->Sem Fin)->Sem Fin)(r:TC):Prop:=∀(pins:List (Addr×Obj))(s:Shared)(σ:St)(H:Hp)(Q:St->Hp->Prop)(Q':Fin->Shared->Prop)(k:Unit->Sem Fin),Inv Y pins σ H s->r σ H Q->
 (∀σ' H' s',Inv Y pins σ' H' s'->Q σ' H'->wpAny (model Y.prog Y.w) Y.A (k ()) Q' (fun _ _=>False) s')->wpAny (model Y.prog Y.w) Y.A (tail k) Q' (fun _ _=>False) s
theorem fZ {α:Type}{M:Model}{A:Around}{t:Sem α}{Q:α->Shared->Prop}{E E':Value->Shared->Prop}{s:Shared}(h:wpAny M A t Q E s)(hx:E=fun _ _=>False):wpAny M A t Q E' s:=by
 subst hx
 exact wpAny_mono h (fun _ _ q=>q) fun _ _ z=>z.elim
def qT (elt:Expr)(acc:Value)(env:Env)(k:Unit->Sem Fin):Sem Fin:=(eval elt env>>=fun x=>call (.builtin "list.append") [acc,x]>>=fun _=>pure ())>>=k
theorem sM {Y:Cx}{elt:Expr}{te:TE}{l:Addr}(hx:Y.xe=fun _ _=>False)(he:PE Y elt te):PB Y (qT elt (.ref l) Y.env) (eY l te):=by
 intro pins s σ H Q Q' k I h hk
 refine zjZ (zjZ (thn (fZ (he pins s σ H _ I h) hx) fun v s1 ⟨x,H1,I1,r1,q1⟩=> ?_))
 obtain⟨xs,e,hz,q⟩:=q1
 refine zjZ (thn (fZ (jT pins s1 σ H1 (.ref l) [x] (.ref l) [v] (fun _ H2=>Q σ H2) I1 rfl (.cons r1 .nil) ⟨l,xs,x,rfl,rfl,e,hz,q⟩) hx) fun u s2 ⟨y,H2,I2,r2,q2⟩=> ?_)
 exact zjY (hk σ H2 s2 I2 q2)
def jB (e:Expr)(d:Nat)(it acc:Value)(env:Env)(tg iter:Expr)(ifs:List Expr)(tail:(Unit->Sem Fin)->Sem Fin):Sem Fin:=
 standAt iter.pos>>=fun _=>pyNext it>>=fun r=>match r with
  |none=>pure (.done .next)
  |some v=>letOwnedTupleGo tg it v>>=fun _=>assign tg env v>>=fun _=>testsOf ifs env>>=fun ok=>
   if ok=true then tail (fun _=>again (.compLoop e d it acc env))else again (.compLoop e d it acc env)
theorem wX (elt tg iter:Expr)(ifs:List Expr)(scope:Scope)(pos:Pos)(it acc:Value)(env:Env):
  compTurn (.ListComp elt [⟨tg,iter,ifs,0⟩] scope pos) 0 it acc env=jB (.ListComp elt [⟨tg,iter,ifs,0⟩] scope pos) 0 it acc env tg iter ifs (qT elt acc env):=by rfl
theorem A23 (elt tg iter:Expr)(ifs:List Expr)(g:Comprehension)(scope:Scope)(pos:Pos)(it acc:Value)(env:Env):
  compTurn (.ListComp elt [g,⟨tg,iter,ifs,0⟩] scope pos) 1 it acc env=jB (.ListComp elt [g,⟨tg,iter,ifs,0⟩] scope pos) 1 it acc env tg iter ifs (qT elt acc env):=by rfl
def rS (e:Expr)(iter:Expr)(acc:Value)(env:Env)(k:Unit->Sem Fin):Sem Fin:=
 eval iter env>>=fun x=>standAt iter.pos>>=fun _=>foldedSetIterable iter env x>>=fun x=>holding [x] (pyIter x)>>=fun i=>runOwn (.compStart e 1 i acc env) env>>=fun _=>k ()
theorem A0e (elt tg iter tg2 iter2:Expr)(ifs ifs2:List Expr)(scope:Scope)(pos:Pos)(it acc:Value)(env:Env):
  compTurn (.ListComp elt [⟨tg,iter,ifs,0⟩,⟨tg2,iter2,ifs2,0⟩] scope pos) 0 it acc env=jB (.ListComp elt [⟨tg,iter,ifs,0⟩,⟨tg2,iter2,ifs2,0⟩] scope pos) 0 it acc env tg iter ifs
   (rS (.ListComp elt [⟨tg,iter,ifs,0⟩,⟨tg2,iter2,ifs2,0⟩] scope pos) iter2 acc env):=by rfl
section
variable {Y:Cx}
theorem pC {elt tg iter:Expr}{gens:List Comprehension}{scope:Scope}{pos:Pos}{d:Nat}{ifs:List Expr}{it l:Addr}{tail:(Unit->Sem Fin)->Sem Fin}{fp:List Addr}{tn:Nat->Heap->Prop}{J:It}{g:TG}{tt:TT}{tb:TC}{pins:List (Addr×Obj)}{σ:St}{H:Hp}{s:Shared}{Q:St->Hp->Prop}
  (hx:Y.xe=fun _ _=>False)(hc:Y.calm=true)(heq:compTurn (.ListComp elt gens scope pos) d (.ref it) (.ref l) Y.env=jB (.ListComp elt gens scope pos) d (.ref it) (.ref l) Y.env tg iter ifs tail)(hg:PG Y tg g)(ht:PTs Y ifs tt)(hb:PB Y tail tb)
  (I:Inv Y pins σ H s)(T:gB Y.prog Y.w Y.K tg J fp it tn)(st:tn 0 s.heap)(f2:∀b∈fp,eS Y pins H b)(h:dZ J g (dR tt tb) (eC Q) σ H):
  codeAny (model Y.prog Y.w) Y.A (.compLoop (.ListComp elt gens scope pos) d (.ref it) (.ref l) Y.env) (fun r s'=>r= .ok .next/\∃σ' H',Inv Y pins σ' H' s'/\Q σ' H') s:=by
 obtain⟨W,⟨m0,w0⟩,turn⟩:=h
 have stat:∀{H':Hp},(∀b∈fp,H' b=none)->∀b∈fp,eS Y pins H' b:=fun hn b hb=> ⟨hn b hb,(f2 b hb).2⟩
 refine codeAny_loop rfl (fun n s'=> ∃i σ' H',Inv Y pins σ' H' s'/\tn i s'.heap/\(∀b∈fp,H' b=none)/\W i n σ' H') (fun n s3 hI=> ?_) m0 ⟨0,σ,H,I,st,fun b hb=>(f2 b hb).1,w0⟩
 obtain⟨i,σ3,H3,I3,st3,fr3,w3⟩:=hI
 show wpAny _ Y.A ((compTurn (.ListComp elt gens scope pos) d (.ref it) (.ref l) Y.env).onRaise (fun x=>do noteFrame x Y.env;theTreesLotGoes x)) _ _ s3
 refine wpAny_noted ?_
 rw [heq]
 unfold jB
 refine zjZ (wpAny_standAt (zjZ ?_))
 rcases turn i n σ3 H3 w3 with⟨stop,qn⟩| ⟨go,N,hN,step⟩
 ·refine thn (T.done Y rfl rfl rfl hc i pins s3 σ3 H3 _ I3 (stat fr3) st3 stop) fun r s4 ⟨hr,I4⟩=> ?_
  subst hr
  exact zjY ⟨rfl,σ3,H3,I4,qn⟩
 ·refine thn (T.item Y rfl rfl rfl hc i pins s3 σ3 H3 _ I3 (stat fr3) st3 go) fun r s4 ⟨u,hr,h4⟩=> ?_
  subst hr
  refine zjZ (thn h4 fun _ s5 ⟨x,H5,I5,r5,y5,st5,fr5⟩=> ?_)
  have I5':=I5.pinned (stat fr5) (T.obj _ _ st5)
  refine zjZ (thn (fZ (hg _ s5 σ3 H5 x u _ I5' r5 (step x H5 y5)) hx) fun _ s6 ⟨σ6,H6,I6,q6⟩=> ?_)
  refine zjZ (thn (fZ (ht _ s6 σ6 H6 _ I6 q6) hx) fun ok s7 ⟨H7,I7,q7⟩=> ?_)
  have again:∀{σ7:St}{H7:Hp}{s7:Shared},Inv Y (pins++kH fp s5.heap) σ7 H7 s7->N σ7 H7->∃m,m<n/\∃i σ' H',Inv Y pins σ' H' s7/\tn i s7.heap/\(∀b∈fp,H' b=none)/\W i m σ' H':=fun{σ7 H7 s7} I7 n7=>by
   obtain⟨m',hm,w7⟩:=hN σ7 H7 n7
   refine⟨m',hm,i+1,σ7,H7,I7.unpinned,T.keep _ _ _ st5 fun b hb o e=>(I7.pin (b,o) (mem_append_right _ (mem_append_right _ (lA hb e)))).1,fun b hb=> ?_,w7⟩
   obtain⟨o,e,d⟩:=T.obj _ _ st5 b hb
   exact(I7.pin (b,o) (mem_append_right _ (mem_append_right _ (lA hb e)))).2.1
  cases ok with
  |false=>
   rw [if_neg Bool.false_ne_true]at q7⊢
   exact zjY ⟨rfl,again I7 q7⟩
  |true=>
   rw [if_pos rfl]at q7⊢
   exact fZ (hb _ s7 σ6 H7 _ _ _ I7 q7 fun σ8 H8 s8 I8 q8=>zjY ⟨rfl,again I8 q8⟩) rfl
theorem A4o {prog:Program}{w:World}{A:Around}{R:Result->Shared->Prop}{s:Shared}{elt target iter:Expr}{ifs:List Expr}{g:Comprehension}{scope:Scope}{pos:Pos}{it acc:Value}{env:Env}
  (h0:codeAny (model prog w) A (.compLoop (.ListComp elt [g,⟨target,iter,ifs,0⟩] scope pos) 1 it acc env) R s)
  (h:wpAny (model prog w) A (pyIter it) (fun it' s'=>codeAny (model prog w) A (.compLoop (.ListComp elt [g,⟨target,iter,ifs,0⟩] scope pos) 1 it' acc env) R s')
   (notedBy (model prog w) A env fun x s'=>R (.error x) s') s):
  codeAny (model prog w) A (.compStart (.ListComp elt [g,⟨target,iter,ifs,0⟩] scope pos) 1 it acc env) R s:=by
 refine codeAny_of_tree ?_
 show wpAny _ _ ((compStart (.ListComp elt [g,⟨target,iter,ifs,0⟩] scope pos) 1 it acc env).onRaise (fun x=>do noteFrame x env;standAt theWindowsPlace)) _ _ s
 refine wpAny_notedAt ?_
 unfold compStart
 show wpAny _ _ (ask>>=_) _ _ s
 refine zjZ (wpAny_askSetting (wpAny_ite ?_))
 split
 ·first
   |exact zjZ (zjY (zjY (And.intro rfl h0)))
   |exact zjY (And.intro rfl h0)
 ·first
   |exact zjZ (wpAny_rule (zjZ (wpAny_standAt (zjZ (wpAny_mono h (fun it' s' h'=>zjY (And.intro rfl h')) fun _ _ x=>x)))))
   | (refine zjZ (wpAny_rule ?_);show wpAny _ _ (standAt iter.pos>>=_) _ _ s;exact zjZ (wpAny_standAt (zjZ (wpAny_mono h (fun it' s' h'=>zjY (And.intro rfl h')) fun _ _ x=>x))))
theorem A87 {elt tg iter:Expr}{ifs:List Expr}{g1:Comprehension}{scope:Scope}{pos:Pos}{l:Addr}{wi:TI}{g:TG}{tt:TT}{te:TE}(hx:Y.xe=fun _ _=>False)(hc:Y.calm=true)(hi:PI Y tg iter wi)(hg:PG Y tg g)(ht:PTs Y ifs tt)(he:PE Y elt te)
  (hs:∀x,foldedSetIterable iter Y.env x=pure x:=by intro _;rfl):
  PB Y (rS (.ListComp elt [g1,⟨tg,iter,ifs,0⟩] scope pos) iter (.ref l) Y.env) (lR wi g tt (eY l te)):=by
 intro pins s σ H Q Q' k I h hk
 unfold rS
 refine zjZ (thn (fZ (hi pins s σ H _ I h) hx) fun v s1 h1=> ?_)
 refine zjZ (wpAny_standAt (zjZ (wpAny_of_eq (hs v) (zjZ (wpAny_holding (thn (fZ h1 hx) fun itv s2 h2=> ?_))))))
 obtain⟨it,fp,tn,J,H2,e,I2,T,st2,f2,q2⟩:=h2
 subst e
 have L:codeAny (model Y.prog Y.w) Y.A (.compLoop (.ListComp elt [g1,⟨tg,iter,ifs,0⟩] scope pos) 1 (.ref it) (.ref l) Y.env) (fun r s'=>r= .ok .next/\∃σ' H',Inv Y pins σ' H' s'/\Q σ' H') s2:=
  pC hx hc (A23 ..) hg ht (sM hx he) I2 T st2 f2 q2
 refine zjZ (wpAny_runOwn (codeAny_mono (A4o L (T.self _ _ _ _ _ st2 L)) fun r s3 h3=> ?_))
 obtain⟨rfl,σ3,H3,I3,q3⟩:=h3
 exact hk σ3 H3 s3 I3 q3
end
section
variable {X:Cx}{scope:Scope}{loc:List Str}{frees:List (Str×Nat)}{ns:List (Str×NameKind)}{N:List Str}{pos:Pos}
theorem rJ {e:Expr}{gs:List Comprehension}{g0:Comprehension}{wi:TI}{tg iter:Expr}{R:bX->Addr->It->St->Hp->(Hp->Prop)->Prop}{use:Option (Value->Sem Unit)}{Q:Value->Shared->Prop}{newPos:Pos}
  (hcl:clausesOf e=g0::gs)(hg0:g0.iter=iter)(hi:PI X tg iter wi)(hns:X.env.scope.names=ns)(hN:X.N=N)(hk:scope.kind= .function)(ok:iC ns N scope frees)
  (hs:∀x,foldedSetIterable iter X.env x=pure x){pins:List (Addr×Obj)}{s:Shared}{σ:St}{H:Hp}{QH:Addr->Hp->Prop}(I:Inv X pins σ H s)
  (h:wi σ H fun J H1=> ∀(Z:bX)(l:Addr),H1 l=none->R Z l J (σC loc.length frees σ) (upd H1 l (.lst [])) (QH l))
  (block:∀(Z:bX)(l it:Addr)(fp:List Addr)(tn:Nat->Heap->Prop)(J:It)(H4:Hp)(s4:Shared)(σ4:St),Z.fp=fp->Inv (cG X (loc++frees.map (·.1)) scope Z) [] σ4 H4 s4->gB X.prog X.w X.K tg J fp it tn->tn 0 s4.heap->
   (∀b∈fp,eS (cG X (loc++frees.map (·.1)) scope Z) [] H4 b)->R Z l J σ4 H4 (QH l)->
   codeAny (model X.prog X.w) X.A (.compStart e 0 (.ref it) (.ref l) (compEnvC scope Z.cl Z.C X.env)) (fun r s'=>r= .ok .next/\∃σ' H',Inv (cG X (loc++frees.map (·.1)) scope Z) [] σ' H' s'/\QH l H') s4)
  (fin:∀(l C:Addr)(H':Hp)(s':Shared),(∃m,s'.heap.Ns C m)->Inv X pins σ H' s'->H' C=none->X.s₀.heap.objs.size<=C->C≠X.env.locals->(∀x c,X.env.cells.lookup x=some c->c≠C)->(∀h',Heap.SameBut C s'.heap h'->Inv X pins σ H' {s' with heap:=h'})->(∀p∈X.pn++pins,p.1≠C)->QH l H'->
   compPost (model X.prog X.w) X.A X.xe use Q (.ref l) C (.ok .next) s'):
  wpAny (model X.prog X.w) X.A (comprehension e scope X.env newPos (newList []) false (eval iter X.env) use) Q X.xe s:=by
 obtain⟨cl,hclos,hc1,hc2⟩:=rE (env:=X.env) (scope:=scope) fun x hx hf=>by
  refine I.ok.has x.1 ?_
  have:=(ok.1 x hx).2.2 hf
  rw [←hns]at this
  exact this
 have hs':∀x,foldedSetIterable g0.iter X.env x=pure x:=by rw [hg0];exact hs
 refine wpAny_comprehension_free hcl hs' hclos hk (fun x hx hl=>(ok.1 x hx).2.1 hl) (thn (hi pins s σ H _ I h) fun v s1 h1=>thn h1 fun itv s2 h2=> ?_)
 obtain⟨it,fp,tn,J,H2,e2,I2,T,st2,f2,q2⟩:=h2
 subst e2
 refine wpAny_newObj_type (wpAny_newFunctionEnv (fun x hx=>(ok.1 x hx).1) (by intro y hy;simp at hy) (fun h₁ hns₁ hsb₁=> ?_) hk)
 dsimp only at hns₁ hsb₁⊢
 have hsz:(s2.heap.push {cls:=.type "list",dict:=none,data:=.seq ([]:List Value).toArray}).objs.size=s2.heap.objs.size+1:=size_push ..
 generalize hCeq:(s2.heap.push {cls:=.type "list",dict:=none,data:=.seq ([]:List Value).toArray}).objs.size=C at hns₁ hsb₁ hsz⊢
 have keep:∀b o,s2.heap.get? b=some o->h₁.get? b=some o:=fun b o e=>hsb₁.extBut b o (by rw [hsz];exact ne_of_lt (lt_succ_of_lt (zjT e))) (zjX _ (zjX _ e))
 have hacc:h₁.get? s2.heap.objs.size=some {cls:=.type "list",dict:=none,data:=.seq ([]:List Value).toArray}:=
  hsb₁.extBut _ _ (by rw [hsz];exact ne_of_lt (Nat.lt_succ_self _)) (zjX _ (get?_push_size _ rfl))
 have live:∀b∈fp,∃o,s2.heap.get? b=some o:=fun b hb=>let ⟨o,ho,_⟩:=T.obj _ _ st2 b hb;⟨o,ho⟩
 have J0:=A42 (scope:=scope) (loc:=loc) (frees:=frees) (tk:=s2.toks+([]:List (Str×Value)).length) I2 hns hN hk ok f2 live hc1 hc2 hsz ⟨_,hns₁⟩ hacc keep
 have hln:H2 s2.heap.objs.size=none:=I2.hok.fresh (zjQ _)
 have B:=block ⟨cl,C,s2,H2,fp,X.pn++pins⟩ s2.heap.objs.size it fp tn J _ _ _ rfl J0 T (T.keep _ _ _ st2 fun b _ o e=>keep b o e) (fun b hb=>by
  obtain⟨o,ho⟩:=live b hb
  obtain⟨z0,z1,z2,z3,z4,z5⟩:=f2 b hb
  refine⟨?_,?_,fun z=> ?_,.inl hb,fun x c e=>z4 x c (hc1 x c e),fun p hp=>z5 p ?_⟩
  ·rw [aQ (ne_of_lt (zjT ho))];exact z0
  ·show b≠C
   rw [hsz];exact ne_of_lt (lt_succ_of_lt (zjT ho))
  ·rcases mem_cons.mp (I2.stkSub b z)with y|y
   ·exact z1 y
   ·exact z2 y
  ·rcases mem_append.mp hp with y|y
   ·exact y
   ·exact absurd y (by simp)) (q2 _ _ hln)
 refine codeAny_mono B fun r s' hr=> ?_
 obtain⟨rfl,σ',H',J',q'⟩:=hr
 obtain⟨m',hm',_⟩:=J'.loc
 have hCl:C≠X.env.locals:=fun z=>by
  have:=I2.lt
  rw [←z,hsz]at this;exact lt_irrefl _ (lt_of_succ_lt this)
 have hCc:∀x c,X.env.cells.lookup x=some c->c≠C:=fun x c e z=>by
  obtain⟨v,q⟩:=I2.cell x c e
  have:=q.lt
  rw [z,hsz]at this;exact lt_irrefl _ (lt_of_succ_lt this)
 have hCp:∀p∈X.pn++pins,p.1≠C:=fun p hp z=>by
  have:=zjT (I2.pin p hp).1
  rw [z,hsz]at this;exact lt_irrefl _ (lt_of_succ_lt this)
 exact fin s2.heap.objs.size C H' s' ⟨m',hm'⟩ (by have:=nM I2 f2 hsz J' (Heap.SameBut.refl C s'.heap);exact this) J'.free (by rw [hsz];exact le_trans I2.sz (le_succ _)) hCl hCc (fun h' hs=>nM I2 f2 hsz J' hs) hCp q'
theorem gY {elt tg iter:Expr}{ifs:List Expr}{wi:TI}{g:bX->TG}{tt:bX->TT}{te:bX->TE}(ns:List (Str×NameKind))(N:List Str)(loc:List Str)(frees:List (Str×Nat))(hc:X.calm=true)(hi:PI X tg iter wi)
  (hns:X.env.scope.names=ns)(hN:X.N=N)(hk:scope.kind= .function)(ok:iC ns N scope frees)
  (hg:∀Z,PG (cG X (loc++frees.map (·.1)) scope Z) tg (g Z))(ht:∀Z,PTs (cG X (loc++frees.map (·.1)) scope Z) ifs (tt Z))(he:∀Z,PE (cG X (loc++frees.map (·.1)) scope Z) elt (te Z))
  (hs:∀x,foldedSetIterable iter X.env x=pure x:=by intro _;rfl):PE X (.ListComp elt [⟨tg,iter,ifs,0⟩] scope pos) (vY wi g tt te loc.length frees):=by
 intro pins s σ H Q I h
 rw [eval_ListComp]
 refine rJ (e:=.ListComp elt [⟨tg,iter,ifs,0⟩] scope pos) (g0:=⟨tg,iter,ifs,0⟩) (gs:=[]) (tg:=tg) (iter:=iter) (loc:=loc) (R:=fun Z l J σ H QH=>dZ J (g Z) (dR (tt Z) (eY l (te Z))) (eC fun _ H'=>QH H') σ H) (use:=none) (QH:=fun l H'=>Q (.ref l) H') rfl rfl hi hns hN hk ok hs I h ?_ ?_
 ·intro Z l it fp tn J H4 s4 σ4 hfp I4 T st4 f4 q4
  have L:=pC (Y:=cG X (loc++frees.map (·.1)) scope Z) rfl hc (wX elt tg iter ifs scope pos (.ref it) (.ref l) _) (hg Z) (ht Z) (sM rfl (he Z)) I4 T st4 f4 q4
  refine codeAny_mono (codeAny_compStart_list L (T.self _ _ _ _ _ st4 L)) fun r s' hr=> ?_
  exact hr
 ·intro l C H' s' hm J' hn h1 h2 h3 h4 _ q'
  obtain⟨m,hm⟩:=hm
  exact⟨m,hm,fun h' hs'=> ⟨.ref l,H',h4 h' hs',rfl,q'⟩⟩
theorem tN {elt tg iter tg2 iter2:Expr}{ifs ifs2:List Expr}{wi:TI}{g g2:bX->TG}{tt tt2:bX->TT}{wi2:bX->TI}{te:bX->TE}(ns:List (Str×NameKind))(N:List Str)(loc:List Str)(frees:List (Str×Nat))(hc:X.calm=true)(hi:PI X tg iter wi)
  (hns:X.env.scope.names=ns)(hN:X.N=N)(hk:scope.kind= .function)(ok:iC ns N scope frees)
  (hg:∀Z,PG (cG X (loc++frees.map (·.1)) scope Z) tg (g Z))(ht:∀Z,PTs (cG X (loc++frees.map (·.1)) scope Z) ifs (tt Z))
  (hi2:∀Z,PI (cG X (loc++frees.map (·.1)) scope Z) tg2 iter2 (wi2 Z))(hg2:∀Z,PG (cG X (loc++frees.map (·.1)) scope Z) tg2 (g2 Z))(ht2:∀Z,PTs (cG X (loc++frees.map (·.1)) scope Z) ifs2 (tt2 Z))
  (he:∀Z,PE (cG X (loc++frees.map (·.1)) scope Z) elt (te Z))
  (hs:∀x,foldedSetIterable iter X.env x=pure x:=by intro _;rfl)(hs2:∀(Z:bX) x,foldedSetIterable iter2 (cG X (loc++frees.map (·.1)) scope Z).env x=pure x:=by intro _ _;rfl):
  PE X (.ListComp elt [⟨tg,iter,ifs,0⟩,⟨tg2,iter2,ifs2,0⟩] scope pos) (A44 wi g tt wi2 g2 tt2 te loc.length frees):=by
 intro pins s σ H Q I h
 rw [eval_ListComp]
 refine rJ (e:=.ListComp elt [⟨tg,iter,ifs,0⟩,⟨tg2,iter2,ifs2,0⟩] scope pos) (g0:=⟨tg,iter,ifs,0⟩) (gs:=[⟨tg2,iter2,ifs2,0⟩]) (tg:=tg) (iter:=iter) (loc:=loc) (R:=fun Z l J σ H QH=>dZ J (g Z) (dR (tt Z) (lR (wi2 Z) (g2 Z) (tt2 Z) (eY l (te Z)))) (eC fun _ H'=>QH H') σ H) (use:=none) (QH:=fun l H'=>Q (.ref l) H') rfl rfl hi hns hN hk ok hs I h ?_ ?_
 ·intro Z l it fp tn J H4 s4 σ4 hfp I4 T st4 f4 q4
  have L:=pC (Y:=cG X (loc++frees.map (·.1)) scope Z) rfl hc (A0e elt tg iter tg2 iter2 ifs ifs2 scope pos (.ref it) (.ref l) _) (hg Z) (ht Z) (A87 rfl hc (hi2 Z) (hg2 Z) (ht2 Z) (he Z) (hs2 Z)) I4 T st4 f4 q4
  refine codeAny_mono (codeAny_compStart_list L (T.self _ _ _ _ _ st4 L)) fun r s' hr=> ?_
  exact hr
 ·intro l C H' s' hm J' hn h1 h2 h3 h4 _ q'
  obtain⟨m,hm⟩:=hm
  exact⟨m,hm,fun h' hs'=> ⟨.ref l,H',h4 h' hs',rfl,q'⟩⟩
theorem sG {i:Nat}{x:Str}{pos' apos:Pos}{elt tg iter:Expr}{ifs:List Expr}{wi:TI}{g:bX->TG}{tt:bX->TT}{te:bX->TE}(ns:List (Str×NameKind))(N:List Str)(loc:List Str)(frees:List (Str×Nat))(hc:X.calm=true)(hND:X.N.Nodup)(hix:X.N[i]?=some x)(hxl:X.env.scope.names.lookup x=some .local)(hi:PI X tg iter wi)
  (hns:X.env.scope.names=ns)(hN:X.N=N)(hk:scope.kind= .function)(ok:iC ns N scope frees)
  (hg:∀Z,PG (cG X (loc++frees.map (·.1)) scope Z) tg (g Z))(ht:∀Z,PTs (cG X (loc++frees.map (·.1)) scope Z) ifs (tt Z))(he:∀Z,PE (cG X (loc++frees.map (·.1)) scope Z) elt (te Z))
  (hsw:swapsWith (.ListComp elt [⟨tg,iter,ifs,0⟩] scope pos) (some (.Name x pos')) apos.line X.env=pure true:=by rfl)
  (hs:∀x,foldedSetIterable iter X.env x=pure x:=by intro _;rfl):PS X (.Assign [.Name x pos'] (.ListComp elt [⟨tg,iter,ifs,0⟩] scope pos) apos) (oJ (vY wi g tt te loc.length frees) (dW i)):=by
 intro pins s σ H D I h
 rw [exec_Assign_Name_used _ _ _ _ hsw]
 refine zjZ (wpAny_standAt (zjZ ?_))
 show wpAny _ X.A (do let _←comprehension (.ListComp elt [⟨tg,iter,ifs,0⟩] scope pos) scope X.env _ (newList []) false (eval iter X.env) (some (assign (.Name x pos') X.env))) _ _ s
 refine zjZ ?_
 have key:=rJ (X:=X) (e:=.ListComp elt [⟨tg,iter,ifs,0⟩] scope pos) (g0:=⟨tg,iter,ifs,0⟩) (gs:=[]) (tg:=tg) (iter:=iter) (newPos:=firstIterPos [⟨tg,iter,ifs,0⟩] pos) (loc:=loc) (R:=fun Z l J σ H QH=>dZ J (g Z) (dR (tt Z) (eY l (te Z))) (eC fun _ H'=>QH H') σ H) (use:=some (assign (.Name x pos') X.env)) (QH:=fun l H'=>D.nx (σ.set i (some (.ref l))) H') (Q:=fun _ s'=>SP X pins D .next s') rfl rfl hi hns hN hk ok hs I h ?_ ?_
 ·exact thn key fun _ s' hq=>zjY (zjY hq)
 ·intro Z l it fp tn J H4 s4 σ4 hfp I4 T st4 f4 q4
  have L:=pC (Y:=cG X (loc++frees.map (·.1)) scope Z) rfl hc (wX elt tg iter ifs scope pos (.ref it) (.ref l) _) (hg Z) (ht Z) (sM rfl (he Z)) I4 T st4 f4 q4
  refine codeAny_mono (codeAny_compStart_list L (T.self _ _ _ _ _ st4 L)) fun r s' hr=> ?_
  exact hr
 ·intro l C H' s' hm J' hn h1 h2 h3 h4 h5 q'
  obtain⟨m,hm⟩:=hm
  show wpAny _ X.A (assign (.Name x pos') X.env (.ref l)) _ _ _
  refine wpAny_assign_Name (zB J' hND hix (.inl hxl) (v:=.ref l) rfl (fun s'' I'' hsb=> ?_) (.inr hxl))
  obtain⟨a,hsb,ha⟩:=hsb
  have haC:C≠a:=by
   rcases ha with z|z
   ·rw [z];exact h2
   ·exact fun y=>h3 x a z y.symm
  refine⟨m,hm.sameBut hsb haC,fun h' hs'=> ⟨_,H',?_,q'⟩⟩
  exact I''.turned (it:=C) (t':=s''.toks) (fun b o hb e=>(hs'.2 b hb).trans e) hn h2 (.inr h1) h3 h5
end
end L2
namespace PySem
open Sem (wp)
open AutoSeq1 (wpAny_loadPart')
section
variable {prog:Program}{w:World}{A:Around}{E:Value->Shared->Prop}{s:Shared}
theorem A5s {it l:Addr}{i:Nat}{items}{x:Value}{Q:Value->Shared->Prop}(hit:s.heap.IsTupleIter it l i)
  (hl:s.heap.IsTuple l items)(hx:items[i]?=some x)
  (hQ:∀h',h'.IsTupleIter it l (i+1)->Heap.SameBut it s.heap h'->Q x {s with heap:=h'}):
  wpAny (model prog w) A (Builtin.SmallTypes.nextOf (.ref it)) Q E s:=by
 obtain⟨o,ho,hc,hd⟩:=id hit
 obtain⟨ol,hol,_,nl,hdl⟩:=hl
 unfold Builtin.SmallTypes.nextOf
 refine zjZ (wpAny_callSpecial?_slot (name:=Str.ofString "__next__") hit.typeIs F.slot_tuple_iterator_next
  (wpAny_call_entry F.slot_tuple_iterator_next hit.typeIs F.entry_tuple_iterator_next ?_ (F.args_tuple_iterator_next_1 _)))
 show wpAny _ _ (field (.ref it) 0>>=_) _ _ s
 refine zjZ (wpAny_field ho hd (x:=.ref l) rfl ?_)
 show wpAny _ _ (if (Value.ref l==Value.none)=true then _ else _) _ _ s
 rw [if_neg (show¬((Value.ref l==Value.none)=true)from Bool.false_ne_true)]
 show wpAny _ _ (field (.ref it) 1>>=_) _ _ s
 refine zjZ (wpAny_field ho hd (x:=.int i 0) rfl ?_)
 show wpAny _ _ (seqItems? (.ref l)>>=_) _ _ s
 refine zjZ (wpAny_seqItems hol hdl ?_)
 simp only [Int.toNat_natCast,hx]
 refine zjZ (wpAny_setField ho hd (by simp) (zjY ⟨x,rfl,zjY (hQ _ ?_ (Heap.SameBut.update ..))⟩))
 exact⟨_,get?_update_self _ ho (Obj.isFreed_of_fields (Obj.data_mapFields hd _)),(Obj.cls_mapFields ..).trans hc,by
  rw [Obj.data_mapFields hd];simp [rawInt]⟩
theorem A10 {it l:Addr}{i:Nat}{items}{Q:Value->Shared->Prop}(hh:A.handled=none)
  (hit:s.heap.IsTupleIter it l i)(hl:s.heap.IsTuple l items)(hx:items[i]?=none)
  (hE:∀h' e,Heap.ExtBut it s.heap h'->(∃o,h'.get? e=some o/\o.cls= .type "StopIteration")->E (.ref e) {s with heap:=h'}):
  wpAny (model prog w) A (Builtin.SmallTypes.nextOf (.ref it)) Q E s:=by
 obtain⟨o,ho,hc,hd⟩:=id hit
 obtain⟨ol,hol,_,nl,hdl⟩:=hl
 unfold Builtin.SmallTypes.nextOf
 refine zjZ (wpAny_callSpecial?_slot (name:=Str.ofString "__next__") hit.typeIs F.slot_tuple_iterator_next
  (wpAny_call_entry F.slot_tuple_iterator_next hit.typeIs F.entry_tuple_iterator_next ?_ (F.args_tuple_iterator_next_1 _)))
 show wpAny _ _ (field (.ref it) 0>>=_) _ _ s
 refine zjZ (wpAny_field ho hd (x:=.ref l) rfl ?_)
 show wpAny _ _ (if (Value.ref l==Value.none)=true then _ else _) _ _ s
 rw [if_neg (show¬((Value.ref l==Value.none)=true)from Bool.false_ne_true)]
 show wpAny _ _ (field (.ref it) 1>>=_) _ _ s
 refine zjZ (wpAny_field ho hd (x:=.int i 0) rfl ?_)
 show wpAny _ _ (seqItems? (.ref l)>>=_) _ _ s
 refine zjZ (wpAny_seqItems hol hdl ?_)
 simp only [Int.toNat_natCast,hx]
 refine zjZ (wpAny_rule (zjZ (wpAny_setField ho hd (by simp) ?_)))
 show wpAny _ _ (newExc (.type "StopIteration") []>>=_) _ _ _
 refine zjZ ?_
 simp only [newExc,newTuple]
 refine zjZ (wpAny_newObj_type ?_ (by size_fits))
 refine zjZ (m:=firstArgMember _ _) (wpAny_of_eq (a:=Value.none) (by first|rfl| (simp only [firstArgMember];rfl)) ?_)
 refine wpAny_newObj_type ?_ (by size_fits)
 simp only [raiseNew]
 refine zjZ (wpAny_handled ?_)
 first|rw [show A.in1.handled=none from hh]|rw [hh]
 refine zjZ (zjY (wpAny_throw ?_))
 exact hE _ _ (((Heap.SameBut.update ..).extBut.push _).push _) ⟨_,get?_push_size _ rfl,rfl⟩
end
theorem Draws.tuple {prog:Program}{w:World}{A:Around}(hh:A.handled=none)(it l:Addr)(hne:l≠it)(items:Array Value):
  Draws prog w A it [it,l] items.size (fun i v=>items[i]?=some v) (fun i h=>h.IsTupleIter it l i/\h.IsTuple l items)where
 live:=fun _ _ st=>let ⟨o,ho,_⟩:=st.1;⟨o,ho⟩
 frame:=fun _ _ _ st hk=> ⟨st.1.at fun o e=>hk it (by simp) o e,let ⟨o,ho,r⟩:=st.2;⟨o,hk l (by simp) o ho,r⟩⟩
 item:=fun i s Q E hi st hQ=>by
  refine A5s st.1 st.2 (x:=items[i]) (by simp [hi]) fun h' hit' hs'=> ?_
  exact hQ _ h' s.toks (by simp [hi]) ⟨hit',let ⟨o,ho,r⟩:=st.2;⟨o,(hs'.2 l hne).trans ho,r⟩⟩ hs'
 done:=fun s Q E st hE=>A10 hh st.1 st.2 (by simp) hE
theorem A9r (l:Addr)(items:Array Value)(n:Nat)(dct:Option Addr)(sl:Array (Option Value)):
  Meets (Builtin.«enumerate.__new__» ⟨[.type "enumerate",.ref l],[]⟩) (fun _ R s=>s.heap.get? l=some {cls:=.type "tuple",dict:=dct,data:=.seq items n,slots:=sl}/\
   R (.ok (.ret (.ref (s.heap.push {cls:=.type "tuple_iterator",data:=.fields #[.ref l,.int 0 0]}).objs.size)))
    {s with heap:=(s.heap.push {cls:=.type "tuple_iterator",data:=.fields #[.ref l,.int 0 0]}).push {cls:=.type "enumerate",data:=.fields #[.none,.bool false,.ref s.heap.objs.size,rawInt 0,.none,.none]}}):=
 .of_wp fun prog w A R s h=>by
  obtain⟨hp,g,d,tk,os⟩:=s;obtain⟨hl,h⟩:=h
  have hsub:=sub_enumerate
  have hL:Heap.IsTuple (Shared.heap ⟨hp,g,d,tk,os⟩) l items:=⟨_,hl,rfl,n,rfl⟩
  wp_walk using wpAny_loadPart' hl
  refine wpAny_stack_any fun st=>zjY ?_
  split
  ·rename_i c _ _ _ _ _
   cases (c==Value.type "enumerate")
   ·wp_walk using wpAny_loadPart' hl,wpAny_pyIter_tuple hL
    exact⟨_,rfl,h⟩
   ·wp_walk using wpAny_loadPart' hl,wpAny_pyIter_tuple hL
    exact⟨_,rfl,h⟩
  ·wp_walk using wpAny_loadPart' hl,wpAny_pyIter_tuple hL
   exact⟨_,rfl,h⟩
section
variable {prog:Program}{w:World}{A:Around}{E:Value->Shared->Prop}{s:Shared}
theorem A8r {l:Addr}{items:Array Value}{Q:Value->Shared->Prop}(hL:s.heap.IsTuple l items)
  (h:∀h',IsEnum h' (s.heap.objs.size+1) s.heap.objs.size 0 .none->h'.IsTupleIter s.heap.objs.size l 0->h'.objs.size=s.heap.objs.size+2->
   (∀b o,s.heap.get? b=some o->h'.get? b=some o)->Q (.ref (s.heap.objs.size+1)) {s with heap:=h'}):
  wpAny (model prog w) A (call (.type "enumerate") [.ref l]) Q E s:=by
 obtain⟨⟨c,dct,dt,sl⟩,hl,hc,n,hd⟩:=hL
 replace hc:c= .type "tuple":=hc
 replace hd:dt= .seq items n:=hd
 subst hc hd
 refine callType_new F.called_enumerate (by decide) (F.typeCall_enumerate_1 _) (F.newCall_enumerate_1 _) (fun obj=>F.args_object_init_2 obj _) F.entry_enumerate_new
  (A9r l items n dct sl) ⟨hl,?_⟩
 have hz:(s.heap.push {cls:=.type "tuple_iterator",data:=.fields #[.ref l,.int 0 0]}).objs.size=s.heap.objs.size+1:=size_push ..
 show _/\_
 rw [hz]
 have he:IsEnum ((s.heap.push {cls:=.type "tuple_iterator",data:=.fields #[.ref l,.int 0 0]}).push
   {cls:=.type "enumerate",data:=.fields #[.none,.bool false,.ref s.heap.objs.size,rawInt 0,.none,.none]}) (s.heap.objs.size+1) s.heap.objs.size 0 .none:=by
  have:=get?_push_size (s.heap.push {cls:=.type "tuple_iterator",data:=.fields #[.ref l,.int 0 0]})
   (o:={cls:=.type "enumerate",data:=.fields #[.none,.bool false,.ref s.heap.objs.size,rawInt 0,.none,.none]}) rfl
  rw [hz]at this;exact this
 refine⟨⟨_,he,rfl⟩,h _ he ⟨_,zjX _ (get?_push_size _ rfl),rfl,rfl⟩ (by rw [size_push,hz]) fun b o x=>zjX _ (zjX _ x)⟩
end
open Builtin
open AutoSeq1 (wpAny_loadPart')
namespace F
theorem lk_list_keys:typeLookup (.type "list") "keys" =pure none:=by rw [typeLookup_type,builtinLookup_eq_fast];kernel_rfl
theorem entry_dict_update_loop:entryFor table "dict.update.loop" =some Builtin.«dict.update.loop»:=entryFor_of_tree (by kernel_rfl)
theorem plain_dict_update_loop:plainId "dict.update.loop" =true:=by decide +kernel
end F
section
variable {prog:Program}{w:World}{A:Around}{E:Value->Shared->Prop}{s:Shared}{a:Addr}{xs:Array Value}{k:Nat}{sl:Array (Option Value)}
theorem A3m {Q:Option Value->Shared->Prop}(hx:s.heap.get? a=some {cls:=.type "list",dict:=none,data:=.seq xs k,slots:=sl})(hA:A.handled=none)
  (h:∀h' tk,(∀b o,s.heap.get? b=some o->h'.get? b=some o)->Q none {s with heap:=h',toks:=tk}):wpAny (model prog w) A (getAttr? (.ref a) "keys") Q E s:=by
 obtain⟨hp,g,d,tk,os⟩:=s
 have hT:∀tk',(⟨hp,g,d,tk',os⟩:Shared).TypeIs (.ref a) "list":=fun _=> ⟨_,hx,rfl⟩
 have f1:=sub_AttributeError
 have f3:=F.slot_list_getattribute.lookup
 have f4:=F.slot_list_getattribute.bind (.ref a)
 have f5:=am_list_getattr_none
 unfold getAttr? getAttrBy? getAttrBy
 repeat (any_goals (first|assumption|exact hT _| ((with_reducible show wpAny _ _ (call (Value.builtin "list.__getattribute__") _ _) _ _ _);refine call_meets F.slot_list_getattribute (hT _) am_entry_list_getattribute (F.args_list_getattribute_2 _ _) (meets_getattribute_miss_list a xs k sl "keys" _ F.lk_list_keys (by decide +kernel) (by decide +kernel)) ⟨hx,hA,fun h' tk' e hx'=> ?_⟩)|wp_step))
 obtain⟨t',u',he⟩:=hx'.there
 show wpAny _ _ (getattributeRaised _ _ _ _ _ _ _) _ _ _
 unfold getattributeRaised
 repeat (any_goals (first|assumption|wp_step))
 exact h _ _ hx'.keeps
end
end PySem
namespace PySem
open Sem (wp)
open Builtin
open AutoSeq1 (wpAny_loadPart')
section
variable {prog:Program}{w:World}{K:Type} [DecidableEq K]{knd:KeyKind prog w K}{A:Around}{E:Value->Shared->Prop}{R:Result->Shared->Prop}
def A1e (knd:KeyKind prog w K)(h:Heap)(items:Array Value)(kvs:List (K×Value))(d it:Addr):Prop:=
 ∀(j:Nat)(v:Value),items[j]?=some v->∃(p:Addr)(key val:Value)(k:K),v= .ref p/\h.IsTuple p #[key,val]/\knd.is k key=true/\kvs[j]?=some (k,val)/\p≠d/\p≠it
theorem A1o {kvs:List (K×Value)}{i:Nat}{k:K}{v:Value}(hn:(kvs.map (·.1)).Nodup)(hi:kvs[i]?=some (k,v)):stored (kvs.take i) k v=kvs.take (i+1):=by
 have hlt:i<kvs.length:=(zjW.mp hi).1
 have hge:kvs[i]=(k,v):=(zjW.mp hi).2
 have hnot:¬((kvs.take i).any fun kv=>decide (kv.1=k))=true:=by
  intro h
  obtain⟨x,hx,hk⟩:=List.any_eq_true.mp h
  have hk':x.1=k:=of_decide_eq_true hk
  obtain⟨j,hj,e⟩:=getElem_of_mem hx
  rw [length_take]at hj
  have hj2:j<kvs.length:=by omega
  have e2:kvs[j]=x:=by rw [←e,List.getElem_take]
  have:=(getElem_inj (h₀:=by rw [length_map];exact hj2) (h₁:=by rw [length_map];exact hlt) hn).mp (by rw [List.getElem_map,List.getElem_map,e2,hge];exact hk')
  omega
 rw [stored,if_neg hnot,take_succ,hi]
 rfl
theorem A5o {d it l:Addr}{items:Array Value}{kvs:List (K×Value)}(hh:A.handled=none)(hdi:d≠it)(hdl:d≠l)(hli:l≠it)(hlen:kvs.length=items.size)(hn:(kvs.map (·.1)).Nodup)(hsz:items.size<=sizeLine):
  ∀(n i:Nat)(s:Shared),items.size - i=n->i<=items.size->s.heap.IsListIter it l i->s.heap.IsList l items->A1e knd s.heap items kvs d it->s.heap.DictOf knd d (kvs.take i)->
   (∀h' tk,h'.DictOf knd d kvs->(∀b o,b≠d->b≠it->s.heap.get? b=some o->h'.get? b=some o)->R (.ok (.ret .none)) {s with heap:=h',toks:=tk})->
   codeAny (model prog w) A (.builtin "dict.update.loop" ⟨[.ref d,.ref it,rawInt i,.none],[]⟩) R s:=by
 intro n
 induction n with
 |zero=>
  intro i s hk hi hit hl hP hD hR
  have hin:i=items.size:=by omega
  subst hin
  refine codeAny_builtin F.entry_dict_update_loop ?_
  rw [Around.under_plainId F.plain_dict_update_loop _]
  unfold Builtin.«dict.update.loop»
  show wpAny _ A.in1 (pyNext (.ref it)>>=_) _ _ s
  refine zjZ (wpAny_pyNext_list_end (by simp [hh]) hit hl (by simp) fun h' hs'=> ?_)
  show wpAny _ _ (Builtin.Dict.addKeywords d []>>=_) _ _ _
  refine zjZ (zjY (zjY ?_))
  refine hR h' _ ?_ fun b o _ hb e=>hs' b o hb e
  rw [take_of_length_le (by omega)]at hD
  exact hD.extBut hs' hdi
 |succ k ih=>
  intro i s hk hi hit hl hP hD hR
  have hlt:i<items.size:=by omega
  obtain⟨p,key,val,kk,hv,ht,hkk,hkv,hpd,hpi⟩:=hP i items[i] (by simp [hlt])
  refine codeAny_builtin F.entry_dict_update_loop ?_
  rw [Around.under_plainId F.plain_dict_update_loop _]
  unfold Builtin.«dict.update.loop»
  show wpAny _ A.in1 (pyNext (.ref it)>>=_) _ _ s
  refine zjZ (wpAny_pyNext_list_item hit hl (x:=items[i]) (by simp [hlt]) fun h' hit' hs'=> ?_)
  rw [hv]
  dsimp only
  refine zjZ (wpAny_holding ?_)
  have ht':h'.IsTuple p #[key,val]:=let ⟨o,ho,r⟩:=ht;⟨o,(hs'.2 p hpi).trans ho,r⟩
  refine zjZ (wpAny_tryCatch ?_)
  unfold Builtin.Dict.pairItems
  obtain⟨o,ho,hc,nn,hd⟩:=id ht'
  refine zjZ (wpAny_typeOf (s:={s with heap:=h'}) (T:="tuple") ⟨o,ho,hc⟩ ?_)
  rw [if_pos (by decide)]
  refine zjZ (wpAny_seqItems ho hd (zjY ?_))
  show wpAny _ _ (holding [key,val] (dictSet d key val)) _ _ _
  refine wpAny_holding (wpAny_dictSet_pairs (hsz:=by rw [length_take];omega) hkk (hD.sameBut hs' hdi) fun h'' hD'' hs''=> ?_)
  rw [A1o hn hkv]at hD''
  refine zjY ⟨plainId_quiet F.plain_dict_update_loop _,?_⟩
  refine ih (i+1) _ (by omega) hlt (hit'.extBut hs''.extBut hdi.symm) ((hl.extBut hs'.extBut hli).extBut hs''.extBut hdl.symm) (fun j v e=> ?_) hD'' fun h3 tk3 hD3 hk3=> ?_
  ·obtain⟨p,key,val,kk,hv,ht,hkk,hkv,hpd,hpi⟩:=hP j v e
   exact⟨p,key,val,kk,hv,(let ⟨o,ho,r⟩:=ht;⟨o,(hs''.2 p hpd).trans ((hs'.2 p hpi).trans ho),r⟩),hkk,hkv,hpd,hpi⟩
  ·exact hR h3 tk3 hD3 fun b o hbd hbi e=>hk3 b o hbd hbi ((hs''.2 b hbd).trans ((hs'.2 b hbi).trans e))
theorem A7y {l:Addr}{items:Array Value}{kvs:List (K×Value)}{s:Shared}{Q:Value->Shared->Prop}{n:Nat}{sl:Array (Option Value)}(hh:A.handled=none)(hlen:kvs.length=items.size)(hn:(kvs.map (·.1)).Nodup)(hsz:items.size<=sizeLine)
  (hx:s.heap.get? l=some {cls:=.type "list",dict:=none,data:=.seq items n,slots:=sl})
  (hP:∀(j:Nat)(v:Value),items[j]?=some v->∃(p:Addr)(key val:Value)(k:K),v= .ref p/\s.heap.IsTuple p #[key,val]/\knd.is k key=true/\kvs[j]?=some (k,val))
  (h:∀h' tk,h'.DictOf knd s.heap.objs.size kvs->(∀b o,s.heap.get? b=some o->h'.get? b=some o)->Q (.ref s.heap.objs.size) {s with heap:=h',toks:=tk}):
  wpAny (model prog w) A (call (.type "dict") [.ref l]) Q E s:=by
 refine callType_codes (Q₁:=fun obj s₁=>obj= .ref s.heap.objs.size/\s₁={s with heap:=s.heap.push {cls:=.type "dict",data:=.dict #[]}}) F.kt_called_dict (F.kt_typeCall_dict_1 _) F.entry_dict_init (kt_code_dict_new _ ⟨rfl,rfl⟩) ?_
 rintro obj s₁ ⟨rfl,rfl⟩
 have hnew:(s.heap.push {cls:=.type "dict",data:=.dict #[]}).DictOf knd s.heap.objs.size []:=Heap.DictOf.new s.heap
 have hx':(s.heap.push {cls:=.type "dict",data:=.dict #[]}).get? l=some {cls:=.type "list",dict:=none,data:=.seq items n,slots:=sl}:=zjX _ hx
 have hlt:l<s.heap.objs.size:=zjT hx
 refine⟨hnew.typeIs,F.args_dict_init_2 _ _,?_⟩
 unfold Builtin.«dict.__init__»
 refine zjZ ?_
 unfold Builtin.Dict.selfAndRest
 refine zjZ (wpAny_notOrdered_dict hnew.typeIs ?_)
 show wpAny _ _ (pure (s.heap.objs.size,[Value.ref l])) _ _ _
 refine zjY ?_
 show wpAny _ _ (Builtin.Dict.updateFrom "dict.__init__" s.heap.objs.size (.ref l) [] .none) _ _ _
 unfold Builtin.Dict.updateFrom
 refine zjZ (wpAny_typeOf (T:="list") ⟨_,hx',rfl⟩ ?_)
 rw [if_pos (by decide)]
 refine zjZ (A3m hx' (by simp [hh]) fun h1 tk1 hk1=> ?_)
 rw [if_pos (by rfl)]
 refine zjZ (wpAny_rule ?_)
 have hx1:h1.get? l=some {cls:=.type "list",dict:=none,data:=.seq items n,slots:=sl}:=hk1 _ _ hx'
 have hl1:h1.IsList l items:=⟨_,hx1,rfl,n,rfl⟩
 refine zjZ (wpAny_pyIter_list hl1 ?_)
 have hd1:h1.DictOf knd s.heap.objs.size []:=let ⟨o,es,ep,ho,r⟩:=hnew;⟨o,es,ep,hk1 _ _ ho,r⟩
 have hdlt:s.heap.objs.size<h1.objs.size:=let ⟨o,es,ep,ho,r⟩:=hd1;zjT ho
 refine zjY ⟨plainId_quiet F.plain_dict_update_loop _,?_⟩
 refine A5o (knd:=knd) (kvs:=kvs) (l:=l) (items:=items) (by simp [hh]) (ne_of_lt hdlt) (ne_of_gt hlt) (ne_of_lt (lt_trans hlt hdlt)) hlen hn hsz items.size 0 _ rfl (zero_le _) ⟨_,get?_push_size _ rfl,rfl,rfl⟩ (hl1.push _) (fun j v e=> ?_) (by simpa using hd1.push _) fun h2 tk2 hD2 hk2=> ?_
 ·obtain⟨p,key,val,kk,hv,ht,hkk,hkv⟩:=hP j v e
  have hp:p<s.heap.objs.size:=let ⟨o,ho,_⟩:=ht;zjT ho
  exact⟨p,key,val,kk,hv,(let ⟨o,ho,r⟩:=ht;⟨o,zjX _ (hk1 _ _ (zjX _ ho)),r⟩),hkk,hkv,ne_of_lt hp,ne_of_lt (lt_trans hp hdlt)⟩
 ·exact⟨rfl,h h2 tk2 hD2 fun b o e=>hk2 b o (ne_of_lt (zjT e)) (ne_of_lt (lt_trans (zjT e) hdlt)) (zjX _ (hk1 _ _ (zjX _ e)))⟩
end
end PySem
namespace L2
open PySem PySem.Spec PyProof.Rows
section
variable {X:Cx}
theorem eW:fE X (.builtin "isinstance") (fun xs H Q=> ∃x T t b,xs=[x,.ty T]/\TyOf X.K H x t/\W.kitOne X.K t (.type T)=some b/\Q (.bl b) H):=by
 intro pins s σ H xs us Q I r h
 obtain⟨x,T,t,b,rfl,ty,e,q⟩:=h
 obtain⟨u,w',rfl,rx,rT⟩:=kK r
 cases (show w'=Value.type T from rT)
 exact A6h I rx ty e fun tk=> ⟨.bl b,H,I.tok _,rfl,q⟩
theorem uG:∀{bs:List Bool}{us:List Value},Vals (bs.map V.bl) us->LSm.BoolsAre us bs
 | [],_,.nil=> .nil
 |b::bs,_,.cons r t=>by
  cases (show _=Value.bool b from r)
  exact .cons b (uG t)
end
section
variable {X:Cx}{pins:List (Addr×Obj)}{σ:St}{H:Hp}{s:Shared}
theorem nE (hc:X.calm=true):fE X (.builtin "all") (fun xs H Q=> ∃(p:Addr)(bs:List Bool),xs=[.ref p]/\SqL X.K H p (bs.map V.bl)/\Q (.bl (bs.all id)) H):=by
 intro pins s σ H xs us Q I r h
 obtain⟨p,bs,rfl,hq,q⟩:=h
 obtain⟨u,rfl,rx⟩:=fT r
 cases rx
 obtain⟨its,rv,pl,hz⟩:=I.list hq
 have hb:=uG rv
 have hlt:p<s.heap.objs.size:=by obtain⟨_,e,_⟩:=pl.isList;exact zjT e
 refine call_all_walk (wpAny_pyIter_list pl.isList ?_)
 refine⟨s.heap.objs.size,[s.heap.objs.size,p],[s.heap.objs.size],its.toArray.size,_,_,fun i=>(bs[i]?).getD true,rfl,Walks.list (A:=X.A.in1) (by simp [I.ok.hd hc]) _ p (ne_of_lt hlt) its.toArray,⟨⟨_,get?_push_size _ rfl,rfl,rfl⟩,pl.isList.push _⟩,fun i v s' Q' E' hP hQ=> ?_,fun h' tk hk=> ?_⟩
 ·obtain⟨b,e,rfl⟩:=hb.get i v (by simpa using hP)
  dsimp only at hQ;rw [e]at hQ
  exact wpAny_truthy_bool hQ
 ·have e:((List.range its.toArray.size).all fun i=>(bs[i]?).getD true)=bs.all id:=by rw [size_toArray,hb.length,LSm.range_all]
  rw [e]
  exact⟨.bl _,H,I.kept (h':=h') (t':=tk) (LSm.kept_iter hk),rfl,q⟩
theorem Inv.turnedL {fp:List Addr}{h':Heap}{t':Nat}(I:Inv X pins σ H s)(k:∀b o,b∉fp->s.heap.get? b=some o->h'.get? b=some o)(hf:∀b∈fp,eS X pins H b):Inv X pins σ H {s with heap:=h',toks:=t'}:=by
 have nfp:∀b u,H b=some u->b∉fp:=fun b u e z=>by rw [(hf b z).1]at e;cases e
 refine I.step (g':=s.gens) (d':=s.drawn) (ch:=fp) (fun b hb=> ⟨(hf b hb).2.2.2.1,(hf b hb).2.1,(hf b hb).2.2.2.2.1,(hf b hb).2.2.2.2.2⟩) (fun b o _ _ hc e _=>k b o hc e) (fun b o _ _ hc e _=> ⟨o.slots,k b o hc e⟩) (fun _ _ _ _ n=>n) (fun b o hc e=> ⟨o,k b o hc e⟩)
  (fun _ _ e=>e) (fun _ _ _ e=>e) (fun b ps e=> ⟨#[],by rw [e];simp⟩) (fun m hm=> ?_) (fun b u e=> ?_) I.bare
 ·obtain⟨o,es,ep,ho,r⟩:=hm
  exact⟨o,es,ep,k _ o (fun z=>(hf _ z).2.1 rfl) ho,r⟩
 ·refine(I.hok b u e).stay (fun c v hc q=>k c v ?_ q) (fun _ q=>q) fun _ _ q=>q
  rcases hc with z|z
  ·rw [z];exact nfp b u e
  ·exact nfp c _ z
theorem Inv.turnLaid {fp:List Addr}{h':Heap}{t':Nat}{p:Addr}{o:HO}(I:Inv X pins σ H s)(k:∀b u,b∉fp->s.heap.get? b=some u->h'.get? b=some u)(hf:∀b∈fp,eS X pins H b)(hp:s.heap.objs.size<=p)
  (new:ObjOk X.prog X.w (upd H p o) h' p o):Inv X pins σ (upd H p o) {s with heap:=h',toks:=t'}:=by
 have nfp:∀b u,H b=some u->b∉fp:=fun b u e z=>by rw [(hf b z).1]at e;cases e
 have hn:=I.hok.fresh hp
 have old:∀{b:Addr}{u:Obj},s.heap.get? b=some u->b≠p:=fun e=>ne_of_lt (lt_of_lt_of_le (zjT e) hp)
 refine I.step (g':=s.gens) (d':=s.drawn) (ch:=fp) (fun b hb=> ⟨(hf b hb).2.2.2.1,(hf b hb).2.1,(hf b hb).2.2.2.2.1,(hf b hb).2.2.2.2.2⟩) (fun b o _ _ hc e _=>k b o hc e) (fun b o _ _ hc e _=> ⟨o.slots,k b o hc e⟩) (fun b o _ e n=>by rw [aQ (old e)];exact n) (fun b o hc e=> ⟨o,k b o hc e⟩)
  (fun b xs e=>by rw [aQ (bW e hn)];exact e) (fun b u xs e=>by rw [aQ (bW e hn)];exact e) (fun b ps e=> ⟨#[],by rw [aQ (bW e hn),e];simp⟩) (fun m hm=> ?_) (fun b u e=> ?_) I.bare
 ·obtain⟨o,es,ep,ho,r⟩:=hm
  exact⟨o,es,ep,k _ o (fun z=>(hf _ z).2.1 rfl) ho,r⟩
 ·by_cases hb:b=p
  ·subst hb;rw [aJ]at e;cases e;exact new
  ·rw [aQ hb]at e
   refine(I.hok b u e).stay (fun c v hc q=>k c v ?_ q) (fun c q=>by rw [aQ (bW q hn)];exact q) fun c xs q=>by rw [aQ (bW q hn)];exact q
   rcases hc with z|z
   ·rw [z];exact nfp b u e
   ·exact nfp c _ z
def Ite (S:Hp->List V->Prop):It:=
 ⟨fun i H=> ∃xs x,S H xs/\xs[i]?=some x,fun i H x H'=> ∃p y,x= .ref p/\H p=none/\H'=upd H p (.tup [.int i,y])/\∀xs,S H xs->xs[i]?=some y,fun i H=> ∃xs,S H xs/\xs.length=i⟩
theorem A47 {P:Program}{w:World}{K:W.Frag}{es:List Expr}{x1}{pos:Pos}(e it a:Addr)(hei:e≠it):
  gB P w K (.Tuple es x1 pos) (Ite fun H xs=>SqT K H a xs) [e,it] e (fun i h=>(∃old,IsEnum h e it i old)/\h.IsTupleIter it a i/\a≠it/\a≠e)where
 mem:=by simp
 obj:=fun i h st b hb=>by
  obtain⟨⟨old,he⟩,⟨o,e1,c,d⟩,_⟩:=st
  rcases mem_cons.mp hb with z|z
  ·subst z;exact⟨_,he,fun v z=>by cases z⟩
  ·have z':=mem_singleton.mp z
   subst z';exact⟨o,e1,fun v z=>by rw [d]at z;cases z⟩
 keep:=fun i h h' st k=> ⟨let ⟨old,he⟩:=st.1;⟨old,k e (by simp) _ he⟩,st.2.1.at fun o q=>k it (by simp) o q,st.2.2⟩
 item:=by
  intro X hP hw hK hc i pins s σ H E I hf st hg
  subst hP hw hK
  obtain⟨⟨old,he⟩,hit,hai,hae⟩:=st
  obtain⟨xs,x,hq,hx⟩:=hg
  obtain⟨its,rv,p,hz⟩:=I.tuple hq
  obtain⟨u,hu,ru⟩:=rv.get hx
  have hlt:i<its.toArray.size:=by
   rw [size_toArray];exact(zjW.mp hu).1
  refine wpAny_pyNext_enum_itemD (Draws.tuple (A:=X.A.in1) (by simp [I.ok.hd hc]) it a hai its.toArray) he ⟨hit,p⟩ hlt hei (by simp [hei,Ne.symm hae]) fun v h' tk hv ho hst' hT hsz hk=> ?_
  have hv':v=u:=by
   have e1:its[i]?=some v:=by simpa using hv
   rw [hu]at e1;exact(Option.some.inj e1).symm
  subst hv'
  refine⟨_,rfl,wpAny_letOwnedTupleGo_enum (s:={s with heap:=h',toks:=tk+1}) ho fun h2 he2 hs2=> ?_⟩
  have helt:e<s.heap.objs.size:=zjT he
  have hilt:it<s.heap.objs.size:=by obtain⟨_,q,_⟩:=hit;exact zjT q
  have hTe:s.heap.objs.size≠e:=ne_of_gt helt
  have hn:H s.heap.objs.size=none:=I.hok.fresh (zjQ _)
  have kp:∀b o,b∉[e,it]->s.heap.get? b=some o->h2.get? b=some o:=fun b o hb q=>by
   have hbe:b≠e:=fun z=>hb (by simp [z])
   have hbi:b≠it:=fun z=>hb (by simp [z])
   exact(hs2.2 b hbe).trans (hk b o hbe hbi q)
  have hT2:h2.get? s.heap.objs.size=some {cls:=.type "tuple",data:=.seq #[.int i tk,v]}:=(hs2.2 _ hTe).trans hT
  have I2:Inv X pins σ (upd H s.heap.objs.size (.tup [.int i,x])) {s with heap:=h2,toks:=tk+1}:=I.turnLaid (fp:=[e,it]) kp hf (zjQ _) ⟨by show 2<=sizeLine;rw [sizeLine_eq];decide,[.int i tk,v],.cons ⟨_,rfl⟩ (.cons ru .nil),⟨_,hT2,rfl,_,rfl⟩⟩
  refine⟨.ref s.heap.objs.size,_,I2,rfl,⟨s.heap.objs.size,x,rfl,hn,rfl,fun ys hy=>by rw [I.tuple_inj hy hq];exact hx⟩,⟨⟨_,by simpa using he2⟩,hst'.1.at fun o q=>(hs2.2 it hei.symm).trans q,hai,hae⟩,fun b hb=> ?_⟩
  have hbz:b≠s.heap.objs.size:=by
   rcases mem_cons.mp hb with z|z
   ·rw [z];exact ne_of_lt helt
   ·rw [mem_singleton.mp z];exact ne_of_lt hilt
  rw [aQ hbz];exact(hf b hb).1
 done:=by
  intro X hP hw hK hc i pins s σ H E I hf st hg
  subst hP hw hK
  obtain⟨⟨old,he⟩,hit,hai,hae⟩:=st
  obtain⟨xs,hq,hx⟩:=hg
  obtain⟨its,rv,p,hz⟩:=I.tuple hq
  have hl:=rv.length
  have hi:its.toArray.size=i:=by rw [size_toArray,←hl,hx]
  refine wpAny_pyNext_enum_endD (Draws.tuple (A:=X.A.in1) (by simp [I.ok.hd hc]) it a hai its.toArray) he (by rw [hi];exact⟨hit,p⟩) fun h' hs'=> ⟨rfl,?_⟩
  exact I.turned (it:=it) (t':=s.toks) (fun b o hb q=>hs' b o hb q) (hf it (by simp)).1 (hf it (by simp)).2.1 (hf it (by simp)).2.2.2.1 (hf it (by simp)).2.2.2.2.1 (hf it (by simp)).2.2.2.2.2
 self:=fun _ _ _ _ _ st h=>let ⟨old,he⟩:=st.1;wpAny_pyIter_enum he h
def pV (K:W.Frag)(ta:TA):TI:=fun σ H R=>ta σ H fun vs H1=> ∃a xs,vs=[.ref a]/\SqT K H1 a xs/\R (Ite fun H xs=>SqT K H a xs) H1
theorem kF {a:Expr}{ta:TA}{p pos:Pos}{es:List Expr}{x1}{tpos:Pos}(hc:X.calm=true)(hg:Gl X "enumerate")(hm:X.mg "enumerate" =none)(ha:PA X [a] ta)(hs:starEach [a] X.env=[(false,eval a X.env)]:=by rfl):
  PI X (.Tuple es x1 tpos) (.Call (.Name "enumerate" p) [a] [] pos) (pV X.K ta):=by
 intro pins s σ H R I h
 refine Call_ (iZ I hg hm boot_enumerate (PyProof.Rows.callWith_type1 (thn (ha pos pins s σ H _ I h) fun us s1 ⟨vs,H1,I1,r1,q1⟩=> ?_) hs rfl))
 obtain⟨b,xs,e,hq,q⟩:=q1
 subst e
 obtain⟨u,rfl,rx⟩:=fT r1
 cases rx
 obtain⟨its,rv,pt,hz⟩:=I1.tuple hq
 have hblt:b<s1.heap.objs.size:=by obtain⟨o,ho,_⟩:=id pt;exact zjT ho
 refine A8r pt fun h' he hit hsz hk=> ?_
 refine wpAny_pyIter_enum (s:={s1 with heap:=h'}) he ?_
 have I2:Inv X pins σ H1 {s1 with heap:=h'}:=I1.kept (t':=s1.toks) hk
 refine⟨s1.heap.objs.size+1,[s1.heap.objs.size+1,s1.heap.objs.size],_,_,H1,rfl,I2,A47 _ _ b (succ_ne_self _),⟨⟨_,he⟩,hit,ne_of_lt hblt,ne_of_lt (lt_succ_of_lt hblt)⟩,fun c hc'=> ?_,q⟩
 have hge:s1.heap.objs.size<=c:=by
  rcases mem_cons.mp hc' with z|z
  ·rw [z];exact le_succ _
  ·rw [mem_singleton.mp z];exact zjQ _
 exact I1.fpOk hge (I1.hok.fresh hge)
theorem jI {S:Hp->List V->Prop}{xs:List V}{g:TG}{tb:TS}{D:bK}{σ:St}{H:Hp}(Pv:Nat->St->Hp->Prop)(h0:Pv 0 σ H)(hl:∀i σ H,i<=xs.length->Pv i σ H->S H xs)
  (hs:∀i x p σ H,xs[i]?=some x->Pv i σ H->H p=none->g (.ref p) σ (upd H p (.tup [.int i,x])) fun σ2 H2=>tb {D with nx:=Pv (i+1),ct:=Pv (i+1),bk:=D.nx} σ2 H2)(hd:∀σ H,Pv xs.length σ H->D.nx σ H):
  dZ (Ite S) g tb D σ H:=by
 refine⟨fun i m σ H=>m=xs.length - i/\i<=xs.length/\Pv i σ H,⟨xs.length,by simp,zero_le _,h0⟩,?_⟩
 rintro i m σ H ⟨rfl,hi,p⟩
 have q:=hl i σ H hi p
 by_cases hlt:i<xs.length
 ·refine .inr ⟨⟨xs,xs[i],q,by simp [hlt]⟩,Pv (i+1),fun σ' H' p'=> ⟨xs.length -(i+1),by omega,rfl,hlt,p'⟩,fun x H' y=> ?_⟩
  obtain⟨pp,yy,e1,e2,e3,e4⟩:=y
  subst e1 e3
  exact hs i yy pp σ H (e4 xs q) p e2
 ·have e:i=xs.length:=by omega
  subst e
  exact .inl ⟨⟨xs,q,rfl⟩,hd σ H p⟩
end
section
variable {X:Cx}{pins:List (Addr×Obj)}{σ:St}{H:Hp}{s:Shared}
def NewTup (H:Hp)(ys:List V)(Q:VK):Prop:=∀p H',Same H H'->H' p=some (.tup ys)->Q (.ref p) H'
theorem aV {H:Hp}{p:Addr}{o:HO}(h:H p=none):Same H (upd H p o):=fun b u e=>by rw [aQ (bW e h)];exact e
theorem NewTup.new {ys:List V}{Q:VK}{p:Addr}(h:NewTup H ys Q)(hp:H p=none):Q (.ref p) (upd H p (.tup ys)):=h p _ (aV hp) aJ
theorem NewTup.old {ys:List V}{Q:VK}{p:Addr}(h:NewTup H ys Q)(hp:H p=some (.tup ys)):Q (.ref p) H:=h p H (Same.refl H) hp
theorem Inv.newTup {ys:List V}{its:List Value}{Q:VK}(I:Inv X pins σ H s)(r:Vals ys its)(hz:ys.length<=sizeLine)(h:NewTup H ys Q):EP X pins σ Q (.ref s.heap.objs.size) {s with heap:=s.heap.push {cls:=.type "tuple",data:=.seq its.toArray}}:=
 ⟨.ref s.heap.objs.size,_,I.laid (t':=s.toks) (o:=.tup ys) (fun b ob q=>zjX _ q) (zjQ _) ⟨hz,_,r,IsTup.new _ _⟩,rfl,h.new (I.hok.fresh (zjQ _))⟩
def sY:R2:=fun x y H Q=> ∃a b xs ys,x= .ref a/\y= .ref b/\H a=some (.tup xs)/\H b=some (.tup ys)/\xs.length+ys.length<=sizeLine/\NewTup H (xs++ys) Q
theorem iK:OpR X (binaryOp .Add) sY:=by
 intro pins s σ H x y v u Q I rx ry h
 obtain⟨a,b,xs,ys,rfl,rfl,ha,hb,hz,q⟩:=h
 cases rx
 cases ry
 obtain⟨its,r1,p1,_⟩:=I.tuple (SqT.of ha)
 obtain⟨its2,r2,p2,_⟩:=I.tuple (SqT.of hb)
 by_cases hx:xs=[]
 ·subst hx
  cases r1
  obtain⟨⟨c1,d1,t1,l1⟩,ho,hc,n,hd⟩:=id p1
  obtain⟨⟨c2,d2,t2,l2⟩,ho2,hc2,n2,hd2⟩:=id p2
  simp only at hc hd hc2 hd2
  subst hc hd hc2 hd2
  exact concat_meets ⟨_,ho,rfl⟩ ⟨_,ho2,rfl⟩ noFill_tuple_add seq_tuple_add PySem.F.slot_tuple_add PySem.F.entry_tuple_add (PySem.F.args_tuple_add_2 _ _) (tuple_addW0 a b _ _ n n2 d1 d2 l1 l2 (by simp)) ⟨ho,ho2,.ref b,H,I,rfl,q.old hb⟩
 ·refine HT.cat_tup p1 p2 (fun z=>hx (r1.nil_iff.mp z)) (fun z=> ⟨.ref a,H,I,rfl,?_⟩) (fun z=>I.newTup (r1.append r2) (by rw [length_append];exact hz) q) (by rw [←r1.length,←r2.length];exact hz)
  have:ys=[]:=r2.nil_iff.mp z
  subst this
  rw [append_nil]at q
  exact q.old ha
theorem A81 {t sl:Addr}{items:Array Value}{vl vu:Value}{lo hi:Option Int}{Q:Value->Shared->Prop}{prog:Program}{w:World}{A:Around}{E:Value->Shared->Prop}(ht:IsTup s.heap t items)(hs:s.heap.IsSliceOf sl vl vu .none)(pl:IsPart vl lo)(pu:IsPart vu hi)
  (hw:HT.sIx items.size 0 lo=0/\HT.sIx items.size items.size hi=items.size)(h:Q (.ref t) s):wpAny (model prog w) A (getItem (.ref t) (.ref sl)) Q E s:=by
 obtain⟨os,hos,hcs,hds⟩:=id hs
 have hTs:s.TypeIs (.ref sl) "slice":=⟨os,hos,hcs⟩
 unfold getItem
 try with_reducible refine wpAny_holding ?_
 first|refine zjZ (zjY ?_)|skip
 refine zjZ (wpAny_sequenceKey ht.typeIs (by decide) (zjZ (wpAny_callSpecial?_slot (name:=Str.ofString "__getitem__") ht.typeIs PyProof.Rows.slot_tuple_getitem (wpAny_call_entry PyProof.Rows.slot_tuple_getitem ht.typeIs entry_tuple_getitem ?_ (args_tuple_getitem _ _)))))
 show wpAny _ _ (Builtin.Tuple.tupleItemsOf (.ref t)>>=_) _ _ s
 refine zjZ (tupleItemsOf_ ht (zjZ (wpAny_typeOf hTs ?_)))
 rw [if_pos (by decide)]
 refine zjZ (HT.sliceApplied_gen hs pl pu ?_)
 have hyes:(((HT.sIx items.size 0 lo:Nat):Int)==0&&(1:Int)==1&&(HT.sIx items.size items.size hi - HT.sIx items.size 0 lo)==items.size)=true:=by rw [hw.1,hw.2];simp
 show wpAny _ _ (if (((HT.sIx items.size 0 lo:Nat):Int)==0&&(1:Int)==1&&(HT.sIx items.size items.size hi - HT.sIx items.size 0 lo)==items.size)=true then _ else _) _ _ s
 rw [if_pos hyes]
 obtain⟨⟨c1,d1,t1,l1⟩,ho,hc,n,hd⟩:=id ht
 simp only at hc hd
 subst hc hd
 obtain⟨hp,g,d,tk,osx⟩:=s
 wp_walk using AutoSeq1.wpAny_loadPart' ho
 all_goals first|exact⟨_,rfl,h⟩|exact⟨_,rfl,zjY h⟩
def sS:V->Option Int->Option Int->Hp->VK->Prop:=fun x lo hi H Q=> ∃a xs,x= .ref a/\H a=some (.tup xs)/\NewTup H (eG xs lo hi) Q
theorem iV:SlR X sS:=by
 intro pins s σ H x v vl vu lo hi sl Q I rx hs pl pu h
 obtain⟨a,xs,rfl,hx,q⟩:=h
 cases rx
 obtain⟨its,r,ht,hz⟩:=I.tuple (SqT.of hx)
 have hlen:its.toArray.size=xs.length:=by rw [size_toArray];exact r.length.symm
 refine⟨"tuple",_,PyProof.Rows.slot_tuple_getitem.lookup,ht.typeIs,?_⟩
 by_cases hw:HT.sIx xs.length 0 lo=0/\HT.sIx xs.length xs.length hi=xs.length
 ·refine A81 ht hs pl pu (by rw [hlen];exact hw) ⟨.ref a,H,I,rfl,?_⟩
  have:eG xs lo hi=xs:=by unfold eG;rw [hw.1,hw.2];simp
  rw [this]at q
  exact q.old hx
 ·refine HT.getItem_tuple_cut ht hs pl pu (by rw [hlen];exact hw) ?_ (by rw [hlen];exact hz)
  rw [hlen]
  exact I.newTup ((r.drop (HT.sIx xs.length 0 lo)).take (HT.sIx xs.length xs.length hi - HT.sIx xs.length 0 lo)) (le_trans (jA xs lo hi) hz) q
def rO (vs:List V):List (Key×V):=vs.zipIdx.map fun p=>(Sum.inl (p.2:Int),p.1)
theorem A8l (hc:X.calm=true):fE X (.type "dict") (fun xs H Q=> ∃(p:Addr)(ps:List Addr)(vs:List V),xs=[.ref p]/\H p=some (.lst (ps.map V.ref))/\ps.length=vs.length/\
  (∀(j:Nat)(q:Addr)(v:V),ps[j]?=some q->vs[j]?=some v->H q=some (.tup [.int j,v]))/\∀l,H l=none->Q (.ref l) (upd H l (.dK (rO vs)))):=by
 intro pins s σ H xs us Q I r h
 obtain⟨p,ps,vs,rfl,hp,hl,hP,q⟩:=h
 obtain⟨u,rfl,rx⟩:=fT r
 cases rx
 obtain⟨z,its,n,rv,hlen,e⟩:=I.lstM hp
 have hpl:ps.length=its.length:=by rw [←hlen,length_map]
 have get:∀(j:Nat)(q:Addr),ps[j]?=some q->its[j]?=some (.ref q)/\∃v w' t,vs[j]?=some v/\RelV v w'/\s.heap.IsTuple q #[.int j t,w']:=fun j q hj=>by
  obtain⟨u,hu,ru⟩:=rv.get (i:=j) (x:=.ref q) (by rw [getElem?_map,hj];rfl)
  cases (show u=Value.ref q from ru)
  have hjl:j<vs.length:=by rw [←hl];exact(zjW.mp hj).1
  obtain⟨_,tv,rt,pt⟩:=(show ObjOk X.prog X.w H s.heap q (.tup [.int j,vs[j]])from I.hok q _ (hP j q vs[j] hj (by simp [hjl])))
  obtain⟨a,b,rfl,ra,rb⟩:=rt.two
  obtain⟨t,rfl⟩:=ra
  exact⟨hu,vs[j],b,t,by simp [hjl],rb,pt⟩
 have all:∃ws:List Value,ws.length=vs.length/\∀(j:Nat)(q:Addr),ps[j]?=some q->∃v w' t,vs[j]?=some v/\ws[j]?=some w'/\RelV v w'/\s.heap.IsTuple q #[.int j t,w']:=by
  refine⟨(List.range vs.length).map fun j=>if h:j<ps.length then(Classical.choose (Classical.choose_spec (get j ps[j] (by simp [h])).2))else .none,by simp,fun j q hj=> ?_⟩
  obtain⟨hjl,hjq⟩:=zjW.mp hj
  have key:=Classical.choose_spec (Classical.choose_spec (get j ps[j] (by simp [hjl])).2)
  obtain⟨t,k1,k2,k3⟩:=key
  refine⟨_,_,t,k1,?_,k2,by rw [←hjq];exact k3⟩
  rw [getElem?_map,List.getElem?_range (by omega)]
  simp [hjl]
 obtain⟨ws,hw,all⟩:=all
 have hzv:vs.length<=sizeLine:=by rw [length_map]at z;omega
 have kvW:(ws.zipIdx.map fun p=>((Sum.inl (p.2:Int):Key),p.1)).length=its.toArray.size:=by simp;omega
 have ndW:((ws.zipIdx.map fun p=>((Sum.inl (p.2:Int):Key),p.1)).map (·.1)).Nodup:=by
  rw [map_map,List.nodup_iff_pairwise_ne,pairwise_map]
  refine List.Pairwise.imp (R:=fun a b=>a.2<b.2) (fun{a b} h e=> ?_) ?_
  ·have:((a.2:Nat):Int)=(b.2:Nat):=Sum.inl.inj e
   omega
  ·rw [pairwise_iff_getElem]
   intro i j hi hj hij
   simp only [List.getElem_zipIdx]
   omega
 refine A7y (knd:=eB X.prog X.w) (I.ok.hd hc) kvW ndW (by rw [size_toArray];omega) e (fun j v hv=> ?_) fun h' tk hD hk=> ?_
 ·have hv':its[j]?=some v:=by simpa using hv
  have hjl:j<ps.length:=by rw [hpl];exact(zjW.mp hv').1
  obtain⟨e1,_⟩:=get j ps[j] (by simp [hjl])
  obtain⟨v',w',t,k1,k2,k3,k4⟩:=all j ps[j] (by simp [hjl])
  rw [hv']at e1
  refine⟨ps[j],.int j t,w',Sum.inl (j:Int),Option.some.inj e1,k4,wV _ _ _ _,?_⟩
  rw [getElem?_map,List.getElem?_zipIdx,k2]
  simp
 ·refine⟨.ref s.heap.objs.size,_,I.laid (t':=tk) (o:=.dK (rO vs)) hk (zjQ _) ?_,rfl,q _ (I.hok.fresh (zjQ _))⟩
  refine⟨by unfold rO;simp;exact hzv,beq_eq_false_iff_ne.mpr (ne_of_gt I.big),_,?_,hD⟩
  have go:∀(vs:List V)(ws:List Value)(n:Nat),vs.length=ws.length->(∀(j:Nat) v w',vs[j]?=some v->ws[j]?=some w'->RelV v w')->KV ((vs.zipIdx n).map fun p=>((Sum.inl (p.2:Int):Key),p.1)) ((ws.zipIdx n).map fun p=>((Sum.inl (p.2:Int):Key),p.1)):=by
   intro vs
   induction vs with
   |nil=>intro ws n hl _;cases ws with|nil=>exact .nil|cons _ _=>simp at hl
   |cons v vs ih=>
    intro ws n hl hr
    cases ws with
    |nil=>simp at hl
    |cons w' ws=>
     rw [zipIdx_cons,zipIdx_cons]
     exact .cons ⟨rfl,hr 0 v w' rfl rfl⟩ (ih ws (n+1) (by simpa using hl) fun j a b h1 h2=>hr (j+1) a b (by simpa using h1) (by simpa using h2))
  refine go vs ws 0 hw.symm fun j v w' h1 h2=> ?_
  have hjl:j<ps.length:=by rw [hl];exact(zjW.mp h1).1
  obtain⟨v',w2,t,k1,k2,k3,k4⟩:=all j ps[j] (by simp [hjl])
  rw [h1]at k1;rw [h2]at k2
  cases k1;cases k2
  exact k3
theorem A6v:OpR X (binaryOp .Mult) (fun x y H Q=> ∃(z:Str)(k:Int),x= .str z/\y= .int k/\1<=k/\k<=1000/\z.length<=1000/\∀z',Q (.str z') H):=by
 intro pins s σ H x y v u Q I rx ry h
 obtain⟨z,k,rfl,rfl,h1,h2,h3,q⟩:=h
 obtain⟨t,rfl⟩:=rx
 obtain⟨t',rfl⟩:=ry
 have hm:z.length*k.toNat<=1000*1000:=Nat.mul_le_mul h3 (by omega)
 have hrl:(foldl (fun x1 x2=>x1++x2) #[] (replicate k.toNat z.cps)).size=k.toNat*z.cps.size:=by
  have go:∀(m:Nat)(acc:Array Nat),(foldl (fun x1 x2=>x1++x2) acc (replicate m z.cps)).size=acc.size+m*z.cps.size:=by
   intro m
   induction m with
   |zero=>intro acc;simp
   |succ m ih=>intro acc;rw [List.replicate_succ,foldl_cons,ih,Array.size_append,Nat.succ_mul];omega
  rw [go];simp
 refine PySem.P.mul_str (by simp only [Bool.or_eq_false_iff,decide_eq_false_iff_not];omega) (fun _ _=> ?_) (fun _ _=> ?_) ?_
 ·have:(1:Int)<=(2^63 - 1)/k:=by
   rw [Int.le_ediv_iff_mul_le (by omega)];omega
  have h5:(1000:Int)<=(2^63 - 1)/k:=by
   rw [Int.le_ediv_iff_mul_le (by omega)];omega
  omega
 ·first| (unfold PySem.Builtin.Str.tooLong;rw [decide_eq_false_iff_not,sizeLine_eq];omega)| (unfold PySem.tooLong;rw [decide_eq_false_iff_not,sizeLine_eq];omega)| (simp [PySem.tooLong];omega)
 ·rw [if_neg (by omega)]
  by_cases hk:(k==1||z.length==0)=true
  ·rw [if_pos hk]
   exact⟨.str z,H,I,⟨_,rfl⟩,q z⟩
  ·rw [if_neg hk]
   refine⟨?_,.str _,H,I.tok _,⟨_,rfl⟩,q _⟩
   show(foldl (fun x1 x2=>x1++x2) #[] (replicate k.toNat z.cps)).size<=sizeLine
   rw [hrl,sizeLine_eq,Nat.mul_comm]
   have:z.cps.size*k.toNat<=1000*1000:=hm
   omega
end
section
variable {X:Cx}{pos:Pos}
def A85 (i j k:Nat)(ta:TA):TS:=fun D σ H=>ta σ H fun vs H1=> ∃v w z,vs=[v,w,z]/\D.nx (((σ.set i (some v)).set j (some w)).set k (some z)) H1
theorem A1s {i j k:Nat}{x y z:Str}{a b c:Expr}{ta:TA}{px py pz pt:Pos}{kt k2 pt2}(hc:X.calm=true)(hN:X.N.Nodup)(hi:X.N[i]?=some x)(hj:X.N[j]?=some y)(hk:X.N[k]?=some z)(hij:i≠j)(hik:i≠k)(hjk:j≠k)
  (hx:X.env.scope.names.lookup x=some .local)(hy:X.env.scope.names.lookup y=some .local)(hz:X.env.scope.names.lookup z=some .local)(ha:PA X [a,b,c] ta)
  (hw:swappedStores [.Tuple [.Name x px,.Name y py,.Name z pz] kt pt] (.Tuple [a,b,c] k2 pt2) X.env=pure (some [x,y,z]))
  (hs:swapsWithSole [.Tuple [.Name x px,.Name y py,.Name z pz] kt pt] (.Tuple [a,b,c] k2 pt2) pos.line X.env=pure false:=by rfl):
  PS X (.Assign [.Tuple [.Name x px,.Name y py,.Name z pz] kt pt] (.Tuple [a,b,c] k2 pt2) pos) (A85 i j k ta):=by
 intro pins s σ H D I h
 rw [exec_Assign_arm]
 refine zjZ (wpAny_standAt ?_)
 rw [hs]
 refine zjZ (zjY ?_)
 rw [if_neg (by decide)]
 refine zjZ (Tuple_ (thn (ha _ pins s σ H _ I h) fun us s1 ⟨vs,H1,I1,r1,q1⟩=> ?_))
 obtain⟨v,w,t,e1,q1⟩:=q1
 subst e1
 obtain⟨u1,u2,u3,rfl,r1,r2,r3⟩:∃u1 u2 u3,us=[u1,u2,u3]/\RelV v u1/\RelV w u2/\RelV t u3:=by
  cases r1 with
  |cons p q=>
   cases q with
   |cons p' q'=>
    cases q' with
    |cons p3 q3=>cases q3;exact⟨_,_,_,rfl,p,p',p3⟩
 refine wpAny_newObj_type ?_ (by show 3<=sizeLine;decide)
 have I2:Inv X pins σ H1 {s1 with heap:=s1.heap.push {cls:=.type "tuple",data:=.seq [u1,u2,u3].toArray}}:=I1.kept (t':=s1.toks) fun b o e=>zjX _ e
 rw [hw]
 refine zjZ (zjY ?_)
 show wpAny (model X.prog X.w) X.A (do rule "assign.swapped-stores";let items←unpackItems (.ref s1.heap.objs.size) 3 none;assignInOrder [fun v=>bindName X.env z v,fun v=>bindName X.env y v,fun v=>bindName X.env x v] items.reverse;pure Flow.next) _ _ _
 refine zjZ (wpAny_rule (zjZ (unpackItems_tuple (items:=#[u1,u2,u3]) (I.ok.hd hc) (IsTup.new s1.heap _) fun h' hx'=> ?_)))
 have I3:=I2.kept (h':=h') (t':=s1.toks) fun b o e=>hx' b o (ne_of_lt (zjT e)) e
 show wpAny _ _ (assignInOrder [fun v=>bindName X.env z v,fun v=>bindName X.env y v,fun v=>bindName X.env x v] [u3,u2,u1]>>=fun _=>pure Flow.next) _ _ _
 refine zjZ (assignInOrder_cons (wpAny_bindName (iX I3 hN hk (.inl hz) r3 (fun s2 I4=> ?_) (.inr hz))))
 refine assignInOrder_cons (wpAny_bindName (iX I4 hN hj (.inl hy) r2 (fun s3 I5=> ?_) (.inr hy)))
 refine assignInOrder_cons (wpAny_bindName (iX I5 hN hi (.inl hx) r1 (fun s4 I6=>assignInOrder_nil (zjY ?_)) (.inr hx)))
 rw [set_comm _ _ (Ne.symm hij),set_comm _ _ (Ne.symm hik),set_comm _ _ (Ne.symm hjk)]at I6
 exact⟨_,H1,by first|exact I6| (rw [set_comm _ _ hij]at I6;exact I6)| (simpa [set_comm _ _ hij,set_comm _ _ hik,set_comm _ _ hjk]using I6),q1⟩
end
def Kn (H:Hp):Nat->V->Prop
 |0,_=>True
 |n+1,v=>match v with
  | .non=>True
  | .bl _=>True
  | .int _=>True
  | .str _=>True
  | .ref a=>(∃xs,H a=some (.lst xs))\/(∃kvs,H a=some (.dK kvs))\/ ∃xs,H a=some (.tup xs)/\xs.length<=1000/\∀x∈xs,Kn H n x
  |_=>False
def KnA (H:Hp)(v:V):Prop:=∀n,Kn H n v
structure Ext (H H':Hp):Prop where
 tup:∀a xs,H a=some (.tup xs)->H' a=some (.tup xs)
 lst:∀a xs,H a=some (.lst xs)->∃ys,H' a=some (.lst ys)
 dct:∀a kvs,H a=some (.dK kvs)->H' a=some (.dK kvs)
theorem Ext.trans {H H1 H2:Hp}(a:Ext H H1)(b:Ext H1 H2):Ext H H2:=⟨fun _ _ h=>b.tup _ _ (a.tup _ _ h),fun _ _ h=>let ⟨_,e⟩:=a.lst _ _ h;b.lst _ _ e,fun _ _ h=>b.dct _ _ (a.dct _ _ h)⟩
theorem Same.ext {H H':Hp}(s:Same H H'):Ext H H':=⟨fun _ _ h=>s _ _ h,fun _ xs h=> ⟨xs,s _ _ h⟩,fun _ _ h=>s _ _ h⟩
theorem Kn.ext {H H':Hp}(e:Ext H H'):∀{n:Nat}{v:V},Kn H n v->Kn H' n v
 |0,_,_=>True.intro
 |n+1,v,h=>by
  cases v with
  |ref a=>
   rcases h with⟨xs,h⟩| ⟨kvs,h⟩| ⟨xs,h,hl,hx⟩
   ·exact .inl (e.lst _ _ h)
   ·exact .inr (.inl ⟨kvs,e.dct _ _ h⟩)
   ·exact .inr (.inr ⟨xs,e.tup _ _ h,hl,fun x hm=>Kn.ext e (hx x hm)⟩)
  |_=>exact h
theorem KnA.ext {H H':Hp}{v:V}(h:KnA H v)(e:Ext H H'):KnA H' v:=fun n=>(h n).ext e
theorem Kn.le {H:Hp}:∀{n m:Nat}{v:V},n<=m->Kn H m v->Kn H n v
 |0,_,_,_,_=>True.intro
 |n+1,0,_,h,_=>absurd h (by omega)
 |n+1,m+1,v,h,k=>by
  cases v with
  |ref a=>
   rcases k with⟨xs,k⟩| ⟨kvs,k⟩| ⟨xs,k,hl,hx⟩
   ·exact .inl ⟨xs,k⟩
   ·exact .inr (.inl ⟨kvs,k⟩)
   ·exact .inr (.inr ⟨xs,k,hl,fun x hm=>Kn.le (by omega) (hx x hm)⟩)
  |_=>exact k
theorem KnA.int {H:Hp}(i:Int):KnA H (.int i):=fun n=>by cases n<;>exact True.intro
theorem KnA.bl {H:Hp}(b:Bool):KnA H (.bl b):=fun n=>by cases n<;>exact True.intro
theorem KnA.non {H:Hp}:KnA H .non:=fun n=>by cases n<;>exact True.intro
theorem KnA.str {H:Hp}(x:Str):KnA H (.str x):=fun n=>by cases n<;>exact True.intro
theorem KnA.lst {H:Hp}{a:Addr}{xs:List V}(h:H a=some (.lst xs)):KnA H (.ref a):=fun n=>by cases n with|zero=>exact True.intro|succ n=>exact .inl ⟨xs,h⟩
theorem KnA.dct {H:Hp}{a:Addr}{kvs:List (Key×V)}(h:H a=some (.dK kvs)):KnA H (.ref a):=fun n=>by cases n with|zero=>exact True.intro|succ n=>exact .inr (.inl ⟨kvs,h⟩)
theorem KnA.tup {H:Hp}{a:Addr}{xs:List V}(h:H a=some (.tup xs))(hl:xs.length<=1000)(hx:∀x∈xs,KnA H x):KnA H (.ref a):=fun n=>by
 cases n with
 |zero=>exact True.intro
 |succ n=>exact .inr (.inr ⟨xs,h,hl,fun x hm=>hx x hm n⟩)
theorem Kn.items {H:Hp}{n:Nat}{a:Addr}{xs:List V}(k:Kn H (n+1) (.ref a))(h:H a=some (.tup xs)):xs.length<=1000/\∀x∈xs,Kn H n x:=by
 rcases k with⟨ys,k⟩| ⟨kvs,k⟩| ⟨ys,k,hl,hx⟩
 ·rw [h]at k;cases k
 ·rw [h]at k;cases k
 ·rw [h]at k;cases k;exact⟨hl,hx⟩
def isInt:V->Bool| .int _=>true|_=>false
def pS:V->Bool| .bl _=>true|_=>false
def tupOf (H:Hp):V->Option (List V)
 | .ref a=>match H a with|some (.tup xs)=>some xs|_=>none
 |_=>none
theorem fQ {H:Hp}{a:Addr}{xs:List V}(h:H a=some (.tup xs)):tupOf H (.ref a)=some xs:=by simp [tupOf,h]
theorem eR {H:Hp}{v:V}{xs:List V}(h:tupOf H v=some xs):∃a,v= .ref a/\H a=some (.tup xs):=by
 cases v with
 |ref a=>
  unfold tupOf at h
  cases e:H a with
  |none=>simp [e]at h
  |some o=>cases o<;>simp [e]at h;subst h;exact⟨a,rfl,e⟩
 |_=>simp [tupOf]at h
section
variable {K:W.Frag}
theorem A5d (T:String):W.kitOne K (.type T) (.type T)=some true:=by unfold W.kitOne;rw [if_pos (by simp)]
theorem jE {H:Hp}{v:V}(k:Kn H 1 v):∃t,TyOf K H v t/\W.kitOne K t (.type "int")=some (isInt v||pS v)/\W.kitOne K t (.type "bool")=some (pS v)/\W.kitOne K t (.type "tuple")=some (tupOf H v).isSome:=by
 cases v with
 |non=>exact⟨_,.non,by kernel_rfl,by kernel_rfl,by kernel_rfl⟩
 |bl b=>exact⟨_,.bl b,by kernel_rfl,by kernel_rfl,by kernel_rfl⟩
 |int i=>exact⟨_,.int i,by kernel_rfl,by kernel_rfl,by kernel_rfl⟩
 |str x=>exact⟨_,.str x,by kernel_rfl,by kernel_rfl,by kernel_rfl⟩
 |ref a=>
  rcases k with⟨xs,k⟩| ⟨kvs,k⟩| ⟨xs,k,hl,hx⟩
  ·refine⟨_,.lst k,by kernel_rfl,by kernel_rfl,?_⟩
   have:(tupOf H (.ref a)).isSome=false:=by simp [tupOf,k]
   rw [this];kernel_rfl
  ·refine⟨_,.dK k,by kernel_rfl,by kernel_rfl,?_⟩
   have:(tupOf H (.ref a)).isSome=false:=by simp [tupOf,k]
   rw [this];kernel_rfl
  ·refine⟨_,.tup k,by kernel_rfl,by kernel_rfl,?_⟩
   have:(tupOf H (.ref a)).isSome=true:=by simp [tupOf,k]
   rw [this];kernel_rfl
 |_=>exact(show False from k).elim
end
def cA (lo hi:Int):V->Bool| .int i=>decide (lo<=i)&&decide (i<=hi)|_=>false
def rowOk (H:Hp)(v:V):Bool:=match tupOf H v with
 |some xs=>decide (1<=xs.length)&&decide (xs.length<=6)&&xs.all (cA (-2) 99)
 |none=>false
def nonneg:V->Bool| .int i=>decide (0<=i)|_=>false
def bD (H:Hp)(v:V):Nat:=((tupOf H v).getD []).length
def bP (H:Hp)(v:V):Nat:=(((tupOf H v).getD []).filter nonneg).length
def dD (H:Hp)(v:V):Bool:=match tupOf H v with
 |none=>false
 |some rows=>decide (1<=rows.length)&&decide (rows.length<=4)&&rows.all (rowOk H)&&rows.all (fun r=>decide (bD H r=bD H (rows.headD .non)))&&
   (decide (1<=(rows.map (bP H)).sum)&&decide ((rows.map (bP H)).sum<=10))
theorem Same.tupOf {H H':Hp}(s:Same H H'){v:V}(k:Kn H 1 v):L2.tupOf H' v=L2.tupOf H v:=by
 cases v with
 |ref a=>
  rcases k with⟨xs,k⟩| ⟨kvs,k⟩| ⟨xs,k,_⟩
  ·simp [L2.tupOf,k,s _ _ k]
  ·simp [L2.tupOf,k,s _ _ k]
  ·simp [L2.tupOf,k,s _ _ k]
 |_=>rfl
theorem Same.rowOk {H H':Hp}(s:Same H H'){v:V}(k:Kn H 1 v):L2.rowOk H' v=L2.rowOk H v:=by unfold L2.rowOk;rw [s.tupOf k]
theorem Same.good {H H':Hp}(s:Same H H'){v:V}(k:Kn H 2 v):dD H' v=dD H v:=by
 unfold dD
 rw [s.tupOf (k.le (by omega))]
 cases e:L2.tupOf H v with
 |none=>rfl
 |some rows=>
  obtain⟨a,rfl,ha⟩:=eR e
  obtain⟨_,hx⟩:=k.items ha
  have h1:rows.all (L2.rowOk H')=rows.all (L2.rowOk H):=by
   rw [Bool.eq_iff_iff,all_eq_true,all_eq_true]
   exact⟨fun h x hm=>by rw [←s.rowOk (hx x hm)];exact h x hm,fun h x hm=>by rw [s.rowOk (hx x hm)];exact h x hm⟩
  have hl:∀x∈rows,bD H' x=bD H x:=fun x hm=>by unfold bD;rw [s.tupOf (hx x hm)]
  have hc:rows.map (bP H')=rows.map (bP H):=map_congr_left fun x hm=>by unfold bP;rw [s.tupOf (hx x hm)]
  have hh:bD H' (rows.headD .non)=bD H (rows.headD .non):=by
   cases rows with
   |nil=>rfl
   |cons r rs=>exact hl r zjR
  have h2:rows.all (fun r=>decide (bD H' r=bD H' (rows.headD .non)))=rows.all (fun r=>decide (bD H r=bD H (rows.headD .non))):=by
   rw [Bool.eq_iff_iff,all_eq_true,all_eq_true]
   exact⟨fun h x hm=>by rw [←hl x hm,←hh];exact h x hm,fun h x hm=>by rw [hl x hm,hh];exact h x hm⟩
  dsimp only
  rw [h1,h2,hc]
def PenAt (H:Hp)(p:Addr):Prop:=∃x f:Int,H p=some (.lst [.int x,.int f])
structure Stp (p:Addr)(H H':Hp):Prop where
 pen:PenAt H' p
 keep:∀b o,b≠p->H b=some o->H' b=some o
theorem Stp.refl {p:Addr}{H:Hp}(h:PenAt H p):Stp p H H:=⟨h,fun _ _ _ e=>e⟩
theorem Stp.trans {p:Addr}{H H1 H2:Hp}(a:Stp p H H1)(b:Stp p H1 H2):Stp p H H2:=⟨b.pen,fun c o h e=>b.keep c o h (a.keep c o h e)⟩
theorem Stp.same {p:Addr}{H H1 H2:Hp}(a:Stp p H H1)(s:Same H1 H2):Stp p H H2:=⟨let ⟨x,f,e⟩:=a.pen;⟨x,f,s _ _ e⟩,fun b o h e=>s _ _ (a.keep b o h e)⟩
theorem PenAt.ne {H:Hp}{p b:Addr}{o:HO}(h:PenAt H p)(e:H b=some o)(n:∀xs,o≠ .lst xs):b≠p:=fun z=>by
 obtain⟨x,f,e2⟩:=h
 rw [z,e2]at e
 cases e
 exact n _ rfl
theorem Stp.ext {p:Addr}{H H':Hp}(h:PenAt H p)(s:Stp p H H'):Ext H H' where
 tup:=fun a xs e=>s.keep a _ (h.ne e (by intro z;simp)) e
 lst:=fun a xs e=>by
  by_cases ha:a=p
  ·obtain⟨x,f,e2⟩:=s.pen
   exact⟨_,by rw [ha];exact e2⟩
  ·exact⟨xs,s.keep a _ ha e⟩
 dct:=fun a kvs e=>s.keep a _ (h.ne e (by intro z;simp)) e
theorem pJ {K:W.Frag}{a l:Addr}{xs:List V}{te:TE}{H0:Hp}{rest:St}{Q:St->Hp->Prop}(f:V->V)(ha:H0 a=some (.tup xs))(hl:H0 l=none)(hz:xs.length<=1000)
  (turn:∀x H' Q',x∈xs->Same H0 H'->(∀H2,Same H' H2->Q' (f x) H2)->te (some x::rest) H' Q')(hQ:∀σ H',Same H0 H'->H' l=some (.lst (xs.map f))->Q σ H'):
  dZ (Itt K a) (dW 0) (dR iR (eY l te)) (eC Q) (none::rest) (upd H0 l (.lst [])):=by
 have s0:Same H0 (upd H0 l (.lst [])):=aV hl
 refine nI (K:=K) (a:=a) (xs:=xs) (fun i σ H'=>(∃o,σ=o::rest)/\Same H0 H'/\H' l=some (.lst ((xs.take i).map f))) ⟨⟨_,rfl⟩,s0,by rw [aJ];rfl⟩ (fun i σ H' _ h=>SqT.of (h.2.1 _ _ ha)) ?_ ?_
 ·rintro i x σ H' hx ⟨⟨o,rfl⟩,hs,hl'⟩
  show eY l te (some x::rest) H' _
  refine turn x H' _ (mem_of_getElem? hx) hs fun H2 h2=> ?_
  refine⟨_,h2 _ _ hl',?_,⟨_,rfl⟩,fun b u e=> ?_,?_⟩
  ·rw [length_map,length_take]
   exact eI (by omega)
  ·rw [aQ (bW e hl)];exact h2 _ _ (hs _ _ e)
  ·rw [aJ,take_succ,hx,map_append];rfl
 ·rintro σ H' ⟨_,hs,hl'⟩
  rw [take_of_length_le (zjQ _)]at hl'
  exact hQ σ H' hs hl'
theorem kJ {tb:TC}{D:bK}{σ:St}{H:Hp}(h:tb σ H D.nx):dR iR tb D σ H:=by
 show(if true=true then tb σ H D.nx else D.nx σ H)
 exact cN h
theorem nK {i:Nat}{v:V}{tb:TC}{D:bK}{σ:St}{H:Hp}(h:tb (σ.set i (some v)) H D.nx):dW i v σ H (fun σ2 H2=>dR iR tb D σ2 H2):=kJ h
theorem cH {b:Bool}{A B:Prop}(h1:b=true->A)(h2:b=false->B):if b=true then A else B:=by
 cases b with
 |true=>exact cN (h1 rfl)
 |false=>exact cO (h2 rfl)
theorem dJ {c:Prop} [Decidable c]{A B:Prop}(h1:c->A)(h2:¬c->B):if decide c=true then A else B:=by
 by_cases h:c
 ·rw [zjV h];exact cN (h1 h)
 ·rw [zjU h];exact cO (h2 h)
end L2
namespace M46
open PySem L2 PyProof.Rows
def top (i:Nat):Stmt:=PySem.Challenge.pw_meadshares_k46_fences.main.body.getD i (.Pass ⟨0,0,0,0⟩)
abbrev nU:Stmt:=top 6
abbrev rH:Stmt:=top 7
abbrev qI:Stmt:=top 8
abbrev oW:Stmt:=top 16
abbrev lQ:Stmt:=top 17
abbrev kW:Stmt:=top 19
structure Txt (mg:Str->Option Value):Prop where
 isinstance:mg "isinstance" =none
 int:mg "int" =none
 bool:mg "bool" =none
 tuple:mg "tuple" =none
 len:mg "len" =none
 all:mg "all" =none
 enumerate:mg "enumerate" =none
 rows:∃t,mg "MOST_ROWS" =some (.int 4 t)
 cols:∃t,mg "MOST_COLUMNS" =some (.int 6 t)
 cells:∃t,mg "MOST_CELLS" =some (.int 10 t)
 worth:∃t,mg "MOST_WORTH" =some (.int 99 t)
 water:∃t,mg "WATER" =some (.int (-2) t)
def tV:Sp:=fun vs H Q _=> ∃v,vs=[v]/\Kn H 1 v/\Q (.bl (isInt v)) H
def pM:Sp:=fun vs H Q _=> ∃v lo hi,vs=[v,.int lo,.int hi]/\Kn H 1 v/\Q (.bl (cA lo hi v)) H
def eJ (H:Hp)(lo hi:Int)(v:V):Bool:=match tupOf H v with|some xs=>decide (lo<=xs.length)&&decide ((xs.length:Int)<=hi)|none=>false
def mW:Sp:=fun vs H Q _=> ∃v lo hi,vs=[v,.int lo,.int hi]/\Kn H 1 v/\Q (.bl (eJ H lo hi v)) H
def sO:Sp:=fun vs H Q _=> ∃v,vs=[v]/\Kn H 2 v/\∀H',Same H H'->Q (.bl (rowOk H v)) H'
def nO:Sp:=fun vs H Q _=> ∃v,vs=[v]/\Kn H 3 v/\∀H',Same H H'->Q (.bl (dD H v)) H'
section
variable {P:Program}{w:World}{K:W.Frag}{mg:Str->Option Value}{base:Heap}
theorem A0m:bV ["thing"] ["thing"] (aK nU):=by ac_rfl
theorem uB {f:Addr}{fd:FuncData}(F:Fun K "is_number" "is_number" nU f fd)(T:Txt mg):FnOk P w K mg base CX0 1 f fd ["thing"] tV:=by
 refine F.ok A0m (fun vs H Q E h=> ?_) (fun cdv A outer s H vs Q E hr h=> ?_)
 ·obtain⟨v,rfl,_⟩:=h;rfl
 ·obtain⟨v,rfl,k,q⟩:=h
  refine⟨_,aW (bB (nX (bI eW rfl T.isinstance boot_isinstance (bH (pv 0) (bH (dQ (v:=.ty "int") rfl T.int boot_int rfl) aA)))
   (pH (A8v (bI eW rfl T.isinstance boot_isinstance (bH (pv 0) (bH (dQ (v:=.ty "bool") rfl T.bool boot_bool rfl) aA))))))),?_⟩
  obtain⟨t,ty,k1,k2,_⟩:=jE (K:=K) k
  refine⟨_,rfl,_,"int",t,_,rfl,ty,k1,_,rfl,cH (fun e=> ?_) fun e=> ?_⟩
  ·refine⟨_,rfl,_,"bool",t,_,rfl,ty,k2,_,rfl,?_⟩
   have:(!pS v)=isInt v:=by cases v<;>first|rfl|cases e
   rw [this];exact q
  ·have:isInt v=false:=(Bool.or_eq_false_iff.mp e).1
   rw [this]at q;exact q
theorem A8s:bV ["thing","least","most"] ["thing","least","most"] (aK rH):=by ac_rfl
theorem A8k {f g:Addr}{fd gd:FuncData}(F:Fun K "is_number_within" "is_number_within" rH f fd)(T:Txt mg)(G:Fun K "is_number" "is_number" nU g gd)(b:Binds K gd ["thing"] [])(m:mg "is_number" =some (.ref g)):FnOk P w K mg base CX0 2 f fd ["thing","least","most"] pM:=by
 have GN:FnOk P w K mg base CX0 1 g gd ["thing"] tV:=uB G T
 refine F.ok A8s (fun vs H Q E h=> ?_) (fun cdv A outer s H vs Q E hr h=> ?_)
 ·obtain⟨v,lo,hi,rfl,_⟩:=h;rfl
 ·obtain⟨v,lo,hi,rfl,k,q⟩:=h
  refine⟨_,aW (bB (nX (aX GN hr rfl m G.kp b .nil bA (bH (pv 0) aA)) (pH (sF fC fC (pv 1) (pv 0) (pv 2))))),?_⟩
  refine⟨_,rfl,v,rfl,k,_,rfl,cH (fun e=> ?_) fun e=> ?_⟩
  ·cases v with
   |int i=>
    refine⟨_,rfl,_,rfl,_,_,rfl,rfl,_,rfl,dJ (fun h1=> ?_) fun h1=> ?_⟩
    ·refine⟨_,rfl,_,_,rfl,rfl,?_⟩
     have:cA lo hi (.int i)=decide (i<=hi):=by simp [cA,h1]
     rw [this]at q;exact q
    ·have:cA lo hi (.int i)=false:=by simp [cA,h1]
     rw [this]at q;exact q
   |_=>cases e
  ·have:cA lo hi v=false:=by cases v<;>first|rfl|cases e
   rw [this]at q;exact q
theorem A4a:bV ["thing","least","most"] ["thing","least","most"] (aK qI):=by ac_rfl
theorem A0t {f:Addr}{fd:FuncData}(F:Fun K "is_tuple_within" "is_tuple_within" qI f fd)(T:Txt mg):FnOk P w K mg base CX0 1 f fd ["thing","least","most"] mW:=by
 refine F.ok A4a (fun vs H Q E h=> ?_) (fun cdv A outer s H vs Q E hr h=> ?_)
 ·obtain⟨v,lo,hi,rfl,_⟩:=h;rfl
 ·obtain⟨v,lo,hi,rfl,k,q⟩:=h
  refine⟨_,aW (bB (nX (bI eW rfl T.isinstance boot_isinstance (bH (pv 0) (bH (dQ (v:=.ty "tuple") rfl T.tuple boot_tuple rfl) aA)))
   (pH (sF fC fC (pv 1) (bI eN rfl T.len PySem.boot_len (bH (pv 0) aA)) (pv 2))))),?_⟩
  obtain⟨t,ty,_,_,k3⟩:=jE (K:=K) k
  refine⟨_,rfl,_,"tuple",t,_,rfl,ty,k3,_,rfl,cH (fun e=> ?_) fun e=> ?_⟩
  ·obtain⟨xs,ex⟩:=Option.isSome_iff_exists.mp e
   obtain⟨a,rfl,ha⟩:=eR ex
   refine⟨_,rfl,_,rfl,a,xs,rfl,.inr (SqT.of ha),_,_,rfl,rfl,_,rfl,dJ (fun h1=> ?_) fun h1=> ?_⟩
   ·refine⟨_,rfl,_,_,rfl,rfl,?_⟩
    have:eJ H lo hi (.ref a)=decide ((xs.length:Int)<=hi):=by simp [eJ,ex,h1]
    rw [this]at q;exact q
   ·have:eJ H lo hi (.ref a)=false:=by simp [eJ,ex,h1]
    rw [this]at q;exact q
  ·have:eJ H lo hi v=false:=by
    unfold eJ
    cases z:tupOf H v with
    |none=>rfl
    |some xs=>rw [z]at e;cases e
   rw [this]at q;exact q
theorem A6f:bV ["thing"] ["thing"] (aK oW):=by ac_rfl
theorem A4e {f g1 g2:Addr}{fd gd1 gd2:FuncData}(F:Fun K "is_row" "is_row" oW f fd)(T:Txt mg)(b1:Binds K gd1 ["thing","least","most"] [])(m1:mg "is_tuple_within" =some (.ref g1))(p1:W.keepIn K (.ref g1)=true)(G1:FnOk P w K mg base CX0 1 g1 gd1 ["thing","least","most"] mW)
  (b2:Binds K gd2 ["thing","least","most"] [])(m2:mg "is_number_within" =some (.ref g2))(p2:W.keepIn K (.ref g2)=true)(G2:FnOk P w K mg base CX0 2 g2 gd2 ["thing","least","most"] pM):FnOk P w K mg base CX0 3 f fd ["thing"] sO:=by
 obtain⟨t1,mCol⟩:=T.cols
 obtain⟨t2,mWa⟩:=T.water
 obtain⟨t3,mWo⟩:=T.worth
 refine F.ok A6f (fun vs H Q E h=> ?_) (fun cdv A outer s H vs Q E hr h=> ?_)
 ·obtain⟨v,rfl,_⟩:=h;rfl
 ·obtain⟨v,rfl,k,q⟩:=h
  refine⟨_,aU (bQ (cQ (cS (aX G1 (hr.mono (by decide)) rfl m1 p1 b1 .nil bA (bH (pv 0) (bH aH (bH (iM (v:=.int 6) rfl mCol ⟨_,rfl⟩) aA)))))) (aW (bB cT)) bO)
   (aW (bB (bI (nE rfl) rfl T.all boot_all (bH (gY (aK oW).names ["thing"] ["mark"] [] rfl (jP (pv 0)) rfl rfl rfl (by decide +kernel)
    (fun Z=>bE (i:=0) (show(["mark"]:List Str).Nodup by decide +kernel) rfl (Or.inl rfl)) (fun Z=>fR)
    (fun Z=>aX G2 hr rfl m2 p2 b2 .nil bA (bH (pv 0) (bH (iM (v:=.int (-2)) rfl mWa ⟨_,rfl⟩) (bH (iM (v:=.int 99) rfl mWo ⟨_,rfl⟩) aA))))) aA)))),?_⟩
  refine⟨_,rfl,v,1,6,rfl,k.le (by decide),_,rfl,cH (fun e=> ?_) fun e=> ?_⟩
  ·have:rowOk H v=false:=by
    rw [Bool.not_eq_true']at e
    unfold eJ at e;unfold rowOk
    cases z:tupOf H v with
    |none=>rfl
    |some xs=>
     rw [z]at e
     dsimp only at e⊢
     rw [Bool.and_eq_false_iff]at e⊢
     left
     rw [Bool.and_eq_false_iff]
     rcases e with e|e
     ·left;rw [decide_eq_false_iff_not]at e⊢;omega
     ·right;rw [decide_eq_false_iff_not]at e⊢;omega
   have q':=q H (Same.refl H)
   rw [this]at q';exact q'
  ·have e':eJ H 1 6 v=true:=by simpa using e
   unfold eJ at e'
   cases z:tupOf H v with
   |none=>rw [z]at e';cases e'
   |some xs=>
    rw [z]at e'
    obtain⟨a,rfl,ha⟩:=eR z
    obtain⟨hz,hk⟩:=k.items ha
    refine⟨_,rfl,a,rfl,⟨xs,SqT.of ha⟩,fun Z l hl=> ?_⟩
    refine pJ (fun x=> .bl (cA (-2) 99 x)) ha hl hz (fun x H' Q' hm hs hq=> ?_) fun σ H' hs hl'=> ?_
    ·exact⟨_,rfl,x,-2,99,rfl,(hk x hm).ext hs.ext,hq _ (Same.refl _)⟩
    ·refine⟨l,xs.map (cA (-2) 99),rfl,SqL.of (by rw [hl',map_map];rfl),?_⟩
     have:rowOk H (.ref a)=(xs.map (cA (-2) 99)).all id:=by
      unfold rowOk;rw [z]
      dsimp only at e'⊢
      rw [Bool.and_eq_true,decide_eq_true_eq,decide_eq_true_eq]at e'
      rw [zjV (show 1<=xs.length by omega),zjV (show xs.length<=6 by omega),all_map]
      rfl
     have q':=q H' hs
     rw [this]at q';exact q'
end
end M46
namespace L2
open PySem PySem.Spec PyProof.Rows
def hW (at':Nat)(xs:List V):List (Int×Int):=xs.zipIdx.filterMap fun p=>if nonneg p.1 then some ((at':Int),(p.2:Int))else none
def fX (H:Hp)(rows:List V):List (Int×Int):=(rows.zipIdx.map fun p=>hW p.2 ((tupOf H p.1).getD [])).flatten
theorem mL {α:Type}(xs:List α)(i:Nat)(x:α)(h:xs[i]?=some x):(xs.take (i+1)).zipIdx=(xs.take i).zipIdx++[(x,i)]:=by
 have hlt:i<xs.length:=(zjW.mp h).1
 rw [take_succ,h,List.zipIdx_append]
 simp
 omega
theorem xN (at':Nat)(xs:List V)(i:Nat)(x:V)(h:xs[i]?=some x):hW at' (xs.take (i+1))=hW at' (xs.take i)++(if nonneg x then [((at':Int),(i:Int))]else []):=by
 unfold hW
 rw [mL xs i x h,List.filterMap_append]
 congr 1
 by_cases hn:nonneg x=true
 ·simp [hn]
 ·simp [hn]
theorem A9d (H:Hp)(rows:List V)(i:Nat)(r:V)(h:rows[i]?=some r):fX H (rows.take (i+1))=fX H (rows.take i)++hW i ((tupOf H r).getD []):=by
 unfold fX
 rw [mL rows i r h,map_append,flatten_append]
 simp
theorem A1w (at':Nat)(xs:List V):(hW at' xs).length=(xs.filter nonneg).length:=by
 unfold hW
 have go:∀(xs:List V)(n:Nat),((xs.zipIdx n).filterMap fun p=>if nonneg p.1 then some ((at':Int),(p.2:Int))else none).length=(xs.filter nonneg).length:=by
  intro xs
  induction xs with
  |nil=>intro n;rfl
  |cons x xs ih=>
   intro n
   rw [zipIdx_cons]
   by_cases hn:nonneg x=true
   ·rw [List.filterMap_cons_some (b:=((at':Int),(n:Int))) (by simp [hn]),filter_cons_of_pos hn,length_cons,length_cons,ih]
   ·rw [List.filterMap_cons_none (by simp [hn]),filter_cons_of_neg hn,ih]
 exact go xs 0
theorem A1t (H:Hp)(rows:List V):(fX H rows).length=(rows.map (bP H)).sum:=by
 unfold fX
 rw [List.length_flatten,map_map]
 have go:∀(rows:List V)(n:Nat),((rows.zipIdx n).map (List.length∘fun p=>hW p.2 ((tupOf H p.1).getD []))).sum=(rows.map (bP H)).sum:=by
  intro rows
  induction rows with
  |nil=>intro n;rfl
  |cons r rows ih=>
   intro n
   rw [zipIdx_cons,map_cons,sum_cons,map_cons,sum_cons,ih]
   congr 1
   exact A1w _ _
 exact go rows 0
def PlAt (H:Hp)(ps:List Addr)(cs:List (Int×Int)):Prop:=Paired (fun p c=>H p=some (.tup [.int c.1,.int c.2])) ps cs
theorem PlAt.same {H H':Hp}{ps:List Addr}{cs:List (Int×Int)}(h:PlAt H ps cs)(s:Same H H'):PlAt H' ps cs:=Paired.mapP h fun _ _ e=>s _ _ e
theorem PlAt.snoc {H:Hp}{ps:List Addr}{cs:List (Int×Int)}{p:Addr}{c:Int×Int}(h:PlAt H ps cs)(e:H p=some (.tup [.int c.1,.int c.2])):PlAt H (ps++[p]) (cs++[c]):=Paired.snoc h e
def RowsAt (H:Hp)(rows:List V):Prop:=rows.length<=4/\∀r∈rows,∃b xs,r= .ref b/\H b=some (.tup xs)/\xs.length<=6/\∀x∈xs,∃i,x= .int i
theorem RowsAt.same {H H':Hp}{rows:List V}(h:RowsAt H rows)(s:Same H H'):RowsAt H' rows:=⟨h.1,fun r hr=>let ⟨b,xs,e,hb,hl,hx⟩:=h.2 r hr;⟨b,xs,e,s _ _ hb,hl,hx⟩⟩
theorem A2w {K:W.Frag}{a l:Addr}{rows:List V}{H0:Hp}{tt2:TT}{Q:St->Hp->Prop}(ha:H0 a=some (.tup rows))(hl:H0 l=none)(hr:RowsAt H0 rows)
  (htt:∀(at' k:Nat)(r:V)(i:Int) H' (Q':Bool->Hp->Prop),Q' (nonneg (.int i)) H'->tt2 [some (.int at'),some r,some (.int k),some (.int i)] H' Q')
  (hQ:∀σ H' ps,Same H0 H'->H' l=some (.lst (ps.map V.ref))->PlAt H' ps (fX H0 rows)->Q σ H'):
  dZ (Ite fun H xs=>SqT K H a xs) (jO K 2 (fP (dW 0) (fP (dW 1) kE))) (dR iR (lR (pV K (bZ (eL 1) gZ)) (jO K 2 (fP (dW 2) (fP (dW 3) kE))) tt2 (eY l (jS (bZ (eL 0) (bZ (eL 2) gZ)))))) (eC Q) [none,none,none,none] (upd H0 l (.lst [])):=by
 have s0:Same H0 (upd H0 l (.lst [])):=aV hl
 refine jI (xs:=rows) (fun i σ H'=>σ.length=4/\Same H0 H'/\∃ps,H' l=some (.lst (ps.map V.ref))/\PlAt H' ps (fX H0 (rows.take i))/\ps.length<=6*i) ⟨rfl,s0,[],by rw [aJ];rfl,.nil,zero_le _⟩ (fun i σ H' _ h=>SqT.of (h.2.1 _ _ ha)) ?_ ?_
 ·rintro i r p σ H' hx ⟨hσ,hs,ps,hl',hP,hn⟩ hp
  obtain⟨b,xs,rfl,hb,hx6,hxi⟩:=hr.2 r (mem_of_getElem? hx)
  have hi4:i<4:=lt_of_lt_of_le (zjW.mp hx).1 hr.1
  have s1:Same H' (upd H' p (.tup [.int i,.ref b])):=aV hp
  have hb1:tupOf H0 (.ref b)=some xs:=fQ hb
  match σ,hσ with
  | [x0,x1,x2,x3],_=>
  refine⟨p,_,rfl,SqT.of aJ,rfl,_,_,rfl,_,_,rfl,rfl,?_⟩
  refine kJ ?_
  refine⟨_,rfl,b,xs,rfl,SqT.of (s1 _ _ (hs _ _ hb)),?_⟩
  refine jI (xs:=xs) (fun j σ H2=>(∃y2 y3,σ=[some (.int i),some (.ref b),y2,y3])/\Same H0 H2/\∃ps,H2 l=some (.lst (ps.map V.ref))/\PlAt H2 ps (fX H0 (rows.take i)++hW i (xs.take j))/\ps.length<=6*i+j) ?_ (fun j σ H2 _ h=>SqT.of (h.2.1 _ _ hb)) ?_ ?_
  ·exact⟨⟨x2,x3,rfl⟩,hs.trans s1,ps,s1 _ _ hl',by simpa [hW]using hP.same s1,hn⟩
  ·rintro j x p2 σ H2 hxj ⟨⟨y2,y3,rfl⟩,hs2,ps2,hl2,hP2,hn2⟩ hp2
   obtain⟨z,rfl⟩:=hxi x (mem_of_getElem? hxj)
   have hj6:j<6:=lt_of_lt_of_le (zjW.mp hxj).1 hx6
   have s2:Same H2 (upd H2 p2 (.tup [.int j,.int z])):=aV hp2
   refine⟨p2,_,rfl,SqT.of aJ,rfl,_,_,rfl,_,_,rfl,rfl,?_⟩
   refine htt i j (.ref b) z _ _ (cH (fun e=> ?_) fun e=> ?_)
   ·refine⟨_,rfl,_,rfl,(by show 2<=sizeLine;decide),fun q hq=> ?_⟩
    have s3:=aV (o:=.tup [.int i,.int j]) hq
    have hlq:l≠q:=bW (s2 _ _ hl2) hq
    refine⟨_,s3 _ _ (s2 _ _ hl2),eI (by rw [length_map];omega),⟨_,_,rfl⟩,fun b' u e'=> ?_,ps2++[q],?_,?_,?_⟩
    ·rw [aQ (bW e' hl)];exact s3 _ _ (s2 _ _ (hs2 _ _ e'))
    ·rw [aJ,map_append];rfl
    ·have hne:∀b' u,(upd (upd H2 p2 (.tup [.int j,.int z])) q (.tup [.int i,.int j])) b'=some (.tup u)->(upd (upd (upd H2 p2 (.tup [.int j,.int z])) q (.tup [.int i,.int j])) l (.lst (ps2.map V.ref++[.ref q]))) b'=some (.tup u):=fun b' u e'=>by
      rw [aQ (fun z'=> ?_)];exact e'
      rw [z',aQ hlq,s2 _ _ hl2]at e';cases e'
     rw [xN i xs j _ hxj,if_pos e,←append_assoc]
     exact PlAt.snoc (Paired.mapP ((hP2.same s2).same s3) fun _ _ e'=>hne _ _ e') (hne _ _ aJ)
    ·rw [length_append];show ps2.length+1<=_;omega
   ·refine⟨⟨_,_,rfl⟩,hs2.trans s2,ps2,s2 _ _ hl2,?_,by omega⟩
    rw [xN i xs j _ hxj,if_neg (by rw [e];decide),append_nil]
    exact hP2.same s2
  ·rintro σ H2 ⟨⟨y2,y3,rfl⟩,hs2,ps2,hl2,hP2,hn2⟩
   refine⟨rfl,hs2,ps2,hl2,?_,by omega⟩
   rw [take_of_length_le (zjQ _)]at hP2
   rw [A9d H0 rows i _ hx,hb1]
   exact hP2
 ·rintro σ H' ⟨_,hs,ps,hl',hP,_⟩
  rw [take_of_length_le (zjQ _)]at hP
  exact hQ σ H' ps hs hl' hP
end L2
namespace M46
open PySem L2 PyProof.Rows
def rK:Sp:=fun vs H Q _=> ∃a rows,vs=[.ref a]/\H a=some (.tup rows)/\RowsAt H rows/\∀H' l ps,Same H H'->H' l=some (.lst (ps.map V.ref))->PlAt H' ps (fX H rows)->Q (.ref l) H'
section
variable {P:Program}{w:World}{K:W.Frag}{mg:Str->Option Value}{base:Heap}
theorem uD:bV ["mead"] ["mead"] (aK kW):=by ac_rfl
theorem nd4:(["at","row","k","mark"]:List Str).Nodup:=by decide +kernel
theorem A2u {f:Addr}{fd:FuncData}(F:Fun K "places_of_cells" "places_of_cells" kW f fd)(T:Txt mg):FnOk P w K mg base CX0 1 f fd ["mead"] rK:=by
 refine F.ok uD (fun vs H Q E h=> ?_) (fun cdv A outer s H vs Q E hr h=> ?_)
 ·obtain⟨a,rows,rfl,_⟩:=h;rfl
 ·obtain⟨a,rows,rfl,ha,hR,q⟩:=h
  refine⟨_,aW (bB (tN (aK kW).names ["mead"] ["at","row","k","mark"] [] rfl (kF rfl rfl T.enumerate (bH (pv 0) aA)) rfl rfl rfl (by decide +kernel)
   (fun Z=>eQ rfl (cB (bE (i:=0) nd4 rfl (Or.inl rfl)) (cB (bE (i:=1) nd4 rfl (Or.inl rfl)) eP))) (fun Z=>fR)
   (fun Z=>kF rfl rfl T.enumerate (bH (pv 1) aA)) (fun Z=>eQ rfl (cB (bE (i:=2) nd4 rfl (Or.inl rfl)) (cB (bE (i:=3) nd4 rfl (Or.inl rfl)) eP)))
   (fun Z=>jL (bN kC (pv 3) aH (nomark _))) (fun Z=>cZ (bH (pv 0) (bH (pv 2) aA))))),?_⟩
  refine⟨_,rfl,a,rows,rfl,SqT.of ha,fun Z l hl=> ?_⟩
  exact A2w ha hl hR (fun at' k r i H' Q' hq=> ⟨_,rfl,_,_,rfl,rfl,_,rfl,hq⟩) fun σ H' ps hs hl' hP=>q H' l ps hs hl' hP
theorem A65:bV ["thing"] ["thing"] (aK lQ):=by ac_rfl
theorem xL {H:Hp}{v:V}(h:rowOk H v=true):∃b xs,v= .ref b/\H b=some (.tup xs)/\xs.length<=6/\∀x∈xs,∃i,x= .int i:=by
 unfold rowOk at h
 cases e:tupOf H v with
 |none=>rw [e]at h;cases h
 |some xs=>
  rw [e]at h
  obtain⟨b,rfl,hb⟩:=eR e
  simp only [Bool.and_eq_true,decide_eq_true_eq,all_eq_true]at h
  refine⟨b,xs,rfl,hb,h.1.2,fun x hx=> ?_⟩
  have:=h.2 x hx
  cases x<;>first|exact⟨_,rfl⟩|cases this
theorem A3w {f g1 g2 g3:Addr}{fd gd1 gd2 gd3:FuncData}(F:Fun K "is_mead" "is_mead" lQ f fd)(T:Txt mg)(b1:Binds K gd1 ["thing","least","most"] [])(m1:mg "is_tuple_within" =some (.ref g1))(p1:W.keepIn K (.ref g1)=true)(G1:FnOk P w K mg base CX0 1 g1 gd1 ["thing","least","most"] mW)
  (b2:Binds K gd2 ["thing"] [])(m2:mg "is_row" =some (.ref g2))(p2:W.keepIn K (.ref g2)=true)(G2:FnOk P w K mg base CX0 3 g2 gd2 ["thing"] sO)
  (b3:Binds K gd3 ["mead"] [])(m3:mg "places_of_cells" =some (.ref g3))(p3:W.keepIn K (.ref g3)=true)(G3:FnOk P w K mg base CX0 1 g3 gd3 ["mead"] rK):FnOk P w K mg base CX0 4 f fd ["thing"] nO:=by
 obtain⟨t1,mRow⟩:=T.rows
 obtain⟨t2,mCel⟩:=T.cells
 refine F.ok A65 (fun vs H Q E h=> ?_) (fun cdv A outer s H vs Q E hr h=> ?_)
 ·obtain⟨v,rfl,_⟩:=h;rfl
 ·obtain⟨v,rfl,k,q⟩:=h
  refine⟨_,aU (bQ (cQ (cS (aX G1 (hr.mono (by decide)) rfl m1 p1 b1 .nil bA (bH (pv 0) (bH aH (bH (iM (v:=.int 4) rfl mRow ⟨_,rfl⟩) aA)))))) (aW (bB cT)) bO)
   (aU (bQ (cQ (cS (bI (nE rfl) rfl T.all boot_all (bH (gY (aK lQ).names ["thing"] ["row"] [] rfl (jP (pv 0)) rfl rfl rfl (by decide +kernel)
    (fun Z=>bE (i:=0) (show(["row"]:List Str).Nodup by decide +kernel) rfl (Or.inl rfl)) (fun Z=>fR) (fun Z=>aX G2 hr rfl m2 p2 b2 .nil bA (bH (pv 0) aA))) aA)))) (aW (bB cT)) bO)
   (aU (bQ (cQ (cS (bI (nE rfl) rfl T.all boot_all (bH (gY (aK lQ).names ["thing"] ["row"] [("thing",0)] rfl (jP (pv 0)) rfl rfl rfl (by decide +kernel)
    (fun Z=>bE (i:=0) (show(["row","thing"]:List Str).Nodup by decide +kernel) rfl (Or.inl rfl)) (fun Z=>fR)
    (fun Z=>iN eZ (bI eN rfl T.len PySem.boot_len (bH (pv 0) aA)) (bI eN rfl T.len PySem.boot_len (bH (bM cY (pv 1) aH (fun _ _=>rfl)) aA)) (nomark _))) aA)))) (aW (bB cT)) bO)
   (aW (bB (sF fC fC aH (bI eN rfl T.len PySem.boot_len (bH (aX G3 (hr.mono (by decide)) rfl m3 p3 b3 .nil bA (bH (pv 0) aA)) aA)) (iM (v:=.int 10) rfl mCel ⟨_,rfl⟩)))))),?_⟩
  refine⟨_,rfl,v,1,4,rfl,k.le (by decide),_,rfl,cH (fun e=> ?_) fun e=> ?_⟩
  ·have:dD H v=false:=by
    rw [Bool.not_eq_true']at e
    unfold eJ at e;unfold dD
    cases z:tupOf H v with
    |none=>rfl
    |some xs=>
     rw [z]at e
     dsimp only at e⊢
     rw [Bool.and_eq_false_iff]at e
     simp only [Bool.and_eq_false_iff]
     left;left;left
     rcases e with e|e
     ·left;rw [decide_eq_false_iff_not]at e⊢;omega
     ·right;rw [decide_eq_false_iff_not]at e⊢;omega
   have q':=q H (Same.refl H)
   rw [this]at q';exact q'
  ·have e':eJ H 1 4 v=true:=by simpa using e
   unfold eJ at e'
   cases z:tupOf H v with
   |none=>rw [z]at e';cases e'
   |some rows=>
    rw [z]at e'
    dsimp only at e'
    rw [Bool.and_eq_true,decide_eq_true_eq,decide_eq_true_eq]at e'
    obtain⟨a,rfl,ha⟩:=eR z
    obtain⟨hz,hk⟩:=k.items ha
    have g0:dD H (.ref a)=(rows.all (rowOk H)&&rows.all (fun r=>decide (bD H r=bD H (rows.headD .non)))&&(decide (1<=(rows.map (bP H)).sum)&&decide ((rows.map (bP H)).sum<=10))):=by
     unfold dD;rw [z]
     dsimp only
     rw [zjV (show 1<=rows.length by omega),zjV (show rows.length<=4 by omega)]
     rfl
    refine⟨_,rfl,a,rfl,⟨rows,SqT.of ha⟩,fun Z l hl=> ?_⟩
    refine pJ (fun x=> .bl (rowOk H x)) ha hl hz (fun x H' Q' hm hs hq=> ?_) fun σ H1 hs1 hl1=> ?_
    ·refine⟨_,rfl,x,rfl,(hk x hm).ext hs.ext,fun H2 h2=> ?_⟩
     rw [hs.rowOk ((hk x hm).le (by decide))]
     exact hq _ h2
    ·refine⟨l,rows.map (rowOk H),rfl,SqL.of (by rw [hl1,map_map];rfl),_,rfl,?_⟩
     have ea:(rows.map (rowOk H)).all id=rows.all (rowOk H):=by rw [all_map];rfl
     rw [ea]
     refine cH (fun e2=> ?_) fun e2=> ?_
     ·have q':=q H1 hs1
      have e3:rows.all (rowOk H)=false:=by simpa using e2
      rw [g0,e3]at q';exact q'
     ·have e3:rows.all (rowOk H)=true:=by simpa using e2
      rw [e3]at g0
      have hr2:∀r∈rows,∃b xs,r= .ref b/\H b=some (.tup xs)/\xs.length<=6/\∀x∈xs,∃i,x= .int i:=fun r hr'=>xL (all_eq_true.mp e3 r hr')
      have hR:RowsAt H rows:=⟨by omega,hr2⟩
      have hne:rows≠[]:=fun z=>by rw [z]at e';simp at e'
      obtain⟨r0,rs,er⟩:=exists_cons_of_ne_nil hne
      have ha1:=hs1 _ _ ha
      refine⟨_,rfl,a,rfl,⟨rows,SqT.of ha1⟩,fun Z2 l2 hl2=> ?_⟩
      refine pJ (rest:=[some (.ref a)]) (fun x=> .bl (decide (bD H x=bD H (rows.headD .non)))) ha1 hl2 hz (fun x H' Q' hm hs hq=> ?_) fun σ H2 hs2 hl2'=> ?_
      ·obtain⟨b,xs,rfl,hb,_⟩:=hr2 x hm
       obtain⟨b0,xs0,e0,hb0,_⟩:=hr2 r0 (by rw [er];exact zjR)
       have hsH:=hs1.trans hs
       refine⟨_,rfl,b,xs,rfl,.inr (SqT.of (hsH _ _ hb)),_,rfl,a,rows,0,r0,rfl,rfl,SqT.of (hsH _ _ ha),?_,b0,xs0,by rw [e0],.inr (SqT.of (hsH _ _ hb0)),rfl,?_⟩
       ·rw [er];exact bL (j:=0) rfl
       ·have:decide (V.int (xs.length:Int)=V.int (xs0.length:Int))=decide (bD H (.ref b)=bD H (rows.headD .non)):=by
         rw [er]
         show _=decide (bD H (.ref b)=bD H r0)
         rw [e0]
         unfold bD
         rw [fQ hb,fQ hb0]
         show _=decide (xs.length=xs0.length)
         by_cases h:xs.length=xs0.length
         ·rw [zjV h,h];simp
         ·rw [zjU h,zjU]
          intro z;apply h
          have:=V.int.inj z
          omega
        rw [this]
        exact hq _ (Same.refl _)
      ·have hs12:=hs1.trans hs2
       refine⟨l2,rows.map (fun r=>decide (bD H r=bD H (rows.headD .non))),rfl,SqL.of (by rw [hl2',map_map];rfl),_,rfl,?_⟩
       have ea:(rows.map (fun r=>decide (bD H r=bD H (rows.headD .non)))).all id=rows.all (fun r=>decide (bD H r=bD H (rows.headD .non))):=by rw [all_map];rfl
       rw [ea]
       refine cH (fun e4=> ?_) fun e4=> ?_
       ·have q':=q H2 hs12
        have e5:rows.all (fun r=>decide (bD H r=bD H (rows.headD .non)))=false:=by simpa using e4
        rw [g0,e5]at q';exact q'
       ·have e5:rows.all (fun r=>decide (bD H r=bD H (rows.headD .non)))=true:=by simpa using e4
        rw [e5]at g0
        refine⟨_,rfl,a,rows,rfl,hs12 _ _ ha,hR.same hs12,fun H3 l3 ps hs3 hl3 hP=> ?_⟩
        have hlen:ps.length=(rows.map (bP H)).sum:=by
         rw [←A1t]
         have e6:fX H2 rows=fX H rows:=by
          unfold fX
          congr 1
          refine map_congr_left fun p hp=> ?_
          have hm:p.1∈rows:=by
           obtain⟨i,hi,e⟩:=getElem_of_mem hp
           rw [List.getElem_zipIdx]at e
           rw [←e];exact getElem_mem _
          rw [hs12.tupOf ((hk _ hm).le (by decide))]
         rw [←e6]
         exact Paired.length hP
        refine⟨l3,ps.map V.ref,rfl,.inl (SqL.of hl3),_,_,rfl,rfl,_,rfl,dJ (fun h1=> ?_) fun h1=> ?_⟩
        ·refine⟨_,_,rfl,rfl,?_⟩
         have q':=q H3 (hs12.trans hs3)
         rw [g0,zjV (show 1<=(rows.map (bP H)).sum by rw [←hlen];rw [length_map]at h1;omega)]at q'
         have:decide (((ps.map V.ref).length:Int)<=10)=decide ((rows.map (bP H)).sum<=10):=by
          rw [length_map,hlen]
          by_cases h:(rows.map (bP H)).sum<=10
          ·rw [zjV h,zjV];omega
          ·rw [zjU h,zjU];omega
         rw [←this]at q';exact q'
        ·have q':=q H3 (hs12.trans hs3)
         rw [g0,zjU (show¬1<=(rows.map (bP H)).sum by rw [←hlen];rw [length_map]at h1;omega)]at q'
         exact q'
end
abbrev tL:Stmt:=top 30
abbrev pP:Stmt:=top 31
abbrev qB:Stmt:=top 32
def tM (K:W.Frag):Sp:=fun vs H Q _=> ∃a ns k,vs=[.ref a,.int k]/\SqL K H a ((ns:List Int).map V.int)/\0<=k/\∀i,Q (.int i) H
def qP:Sp:=fun vs H Q _=> ∃i:Int,vs=[.int i]/\∀p H',H p=none->Same H H'->PenAt H' p->Q (.ref p) H'
def iA:Sp:=fun vs H Q _=> ∃p m,vs=[.ref p,.int m]/\PenAt H p/\0<m/\m<1000000/\∀d H',0<=d->d<m->Stp p H H'->Q (.int d) H'
section
variable {P:Program}{w:World}{K:W.Frag}{mg:Str->Option Value}{base:Heap}
theorem A0h:bV ["_law_script","_law_k"] ["_law_script","_law_k"] (aK tL):=by ac_rfl
theorem A90 {f:Addr}{fd:FuncData}(F:Fun K "_law_cell" "_law_cell" tL f fd)(T:Txt mg):FnOk P w K mg base CX0 1 f fd ["_law_script","_law_k"] (tM K):=by
 refine F.ok A0h (fun vs H Q E h=> ?_) (fun cdv A outer s H vs Q E hr h=> ?_)
 ·obtain⟨a,ns,k,rfl,_⟩:=h;rfl
 ·obtain⟨a,ns,k,rfl,ha,hk,q⟩:=h
  refine⟨_,aU (bQ (bN lE (pv 1) (bI eN rfl T.len PySem.boot_len (bH (pv 0) aA)) (nomark _)) (aW (bB (bM eO (pv 0) (pv 1) (fun _ _=>rfl)))) bO) (aW (bB aH)),?_⟩
  refine⟨_,rfl,_,rfl,a,_,rfl,.inl ha,_,_,rfl,rfl,_,rfl,dJ (fun h1=> ?_) fun h1=>q 0⟩
  rw [length_map]at h1
  obtain⟨n,rfl⟩:=Int.eq_ofNat_of_zero_le hk
  have hlt:n<ns.length:=by omega
  exact⟨_,rfl,_,rfl,a,_,n,.int ns[n],rfl,rfl,ha,bL (by rw [getElem?_map];simp [hlt]),q _⟩
theorem A6a:bV ["_law_cell_here"] ["_law_cell_here"] (aK pP):=by ac_rfl
theorem A1d {f:Addr}{fd:FuncData}(F:Fun K "_law_pen" "_law_pen" pP f fd)(T:Txt mg):FnOk P w K mg base CX0 1 f fd ["_law_cell_here"] qP:=by
 refine F.ok A6a (fun vs H Q E h=> ?_) (fun cdv A outer s H vs Q E hr h=> ?_)
 ·obtain⟨i,rfl,_⟩:=h;rfl
 ·obtain⟨i,rfl,q⟩:=h
  refine⟨_,aW (bB (dU (bH (pv 0) (bH (fW qF rfl T.int boot_int (bH (iN kC (pv 0) (bF lW aH aH) (nomark _)) aA)) aA)))),?_⟩
  refine⟨_,rfl,_,rfl,_,_,rfl,rfl,⟨by decide,by decide,by decide⟩,_,_,rfl,rfl,.inr ⟨_,rfl,?_⟩⟩
  refine⟨by show 2<=sizeLine;decide,fun l hl=> ?_⟩
  exact q l _ hl (aV hl) ⟨_,_,aJ⟩
theorem scDraw:bV ["_law_pen_here","_law_many","_law_digit"] ["_law_pen_here","_law_many"] (aK qB):=by ac_rfl
theorem A49 {f:Addr}{fd:FuncData}(F:Fun K "_law_draw" "_law_draw" qB f fd)(T:Txt mg):FnOk P w K mg base CX0 1 f fd ["_law_pen_here","_law_many"] iA:=by
 refine F.ok scDraw (fun vs H Q E h=> ?_) (fun cdv A outer s H vs Q E hr h=> ?_)
 ·obtain⟨p,m,rfl,_⟩:=h;rfl
 ·obtain⟨p,m,rfl,⟨x,f1,hp⟩,h0,h1,q⟩:=h
  refine⟨_,aU (bQ (bN eZ (bM eO (pv 0) aH (fun _ _=>rfl)) aH (nomark _))
    (aU (cJ (i:=2) scDraw.nd rfl (Or.inl rfl) (bF mX (bM eO (pv 0) aH (fun _ _=>rfl)) (pv 1)))
    (aU (iQ (bF yV (bM eO (pv 0) aH (fun _ _=>rfl)) (pv 1)) (sP (pv 0) aH tJ))
    (aW (bB (pv 2))))) bO)
   (aU (iQ (bF mX (bF eU (bF tP (bF mX (bM eO (pv 0) aH (fun _ _=>rfl)) aH) aH) aH) aH) (sP (pv 0) aH tJ))
   (aW (bB (bF mX (bF yV (bF mX (bF eU (bF tP (bM eO (pv 0) aH (fun _ _=>rfl)) (bM eO (pv 0) aH (fun _ _=>rfl))) (bF tP aH (bM eO (pv 0) aH (fun _ _=>rfl)))) aH) aH) (pv 1))))),?_⟩
  refine⟨_,rfl,p,_,1,_,rfl,rfl,SqL.of hp,bL (j:=1) rfl,rfl,_,rfl,dJ (fun _=> ?_) fun _=> ?_⟩
  ·refine⟨_,rfl,p,_,0,_,rfl,rfl,SqL.of hp,bL (j:=0) rfl,_,rfl,_,_,rfl,rfl,h0,?_⟩
   refine⟨_,rfl,p,_,0,_,rfl,rfl,SqL.of hp,bL (j:=0) rfl,_,rfl,_,_,rfl,rfl,⟨h0,by omega⟩,?_⟩
   refine⟨_,rfl,p,_,0,0,rfl,rfl,hp,rfl,?_⟩
   refine⟨_,rfl,?_⟩
   exact q _ _ (Int.emod_nonneg _ (by omega)) (Int.emod_lt_of_pos _ h0) ⟨⟨_,_,aJ⟩,fun b o hb e=>by rw [aQ hb];exact e⟩
  ·have hm:∀y:Int,0<=y%2147483629/\y%2147483629<2147483629:=fun y=> ⟨Int.emod_nonneg _ (by omega),Int.emod_lt_of_pos _ (by omega)⟩
   have b1:=hm x
   have b2:=hm (x%2147483629*48271+11)
   refine⟨_,rfl,p,_,0,_,rfl,rfl,SqL.of hp,bL (j:=0) rfl,_,_,rfl,rfl,(by show(0:Int)<2147483629;decide),_,_,rfl,rfl,.inl ⟨by omega,by omega⟩,_,_,rfl,rfl,_,_,rfl,rfl,(by show(0:Int)<2147483629;decide),?_⟩
   refine⟨_,rfl,p,_,0,0,rfl,rfl,hp,rfl,?_⟩
   refine⟨_,rfl,p,_,0,_,rfl,rfl,SqL.of aJ,bL (j:=0) rfl,_,rfl,p,_,0,_,rfl,rfl,SqL.of aJ,bL (j:=0) rfl,_,_,rfl,rfl,.inl ⟨by omega,by omega⟩,?_⟩
   refine⟨_,rfl,p,_,0,_,rfl,rfl,SqL.of aJ,bL (j:=0) rfl,_,_,rfl,rfl,.inl ⟨by decide,by decide⟩,_,_,rfl,rfl,_,_,rfl,rfl,(by show(0:Int)<2147483647;decide),_,_,rfl,rfl,⟨by decide,by decide⟩,_,rfl,_,_,rfl,rfl,h0,?_⟩
   exact q _ _ (Int.emod_nonneg _ (by omega)) (Int.emod_lt_of_pos _ h0) ⟨⟨_,_,aJ⟩,fun b o hb e=>by rw [aQ hb];exact e⟩
end
end M46
namespace L2
open PySem PySem.Spec PyProof.Rows
section
variable {X:Cx}{pins:List (Addr×Obj)}{σ:St}{H:Hp}{s:Shared}
theorem zV {P:Program}{w:World}{K:W.Frag}{es:List Expr}{x1}{pos:Pos}(e it a:Addr)(hei:e≠it):
  gB P w K (.Tuple es x1 pos) (Ite fun H xs=>SqL K H a xs) [e,it] e (fun i h=>(∃old,IsEnum h e it i old)/\h.IsListIter it a i/\a≠it/\a≠e)where
 mem:=by simp
 obj:=fun i h st b hb=>by
  obtain⟨⟨old,he⟩,⟨o,e1,c,d⟩,_⟩:=st
  rcases mem_cons.mp hb with z|z
  ·subst z;exact⟨_,he,fun v z=>by cases z⟩
  ·have z':=mem_singleton.mp z
   subst z';exact⟨o,e1,fun v z=>by rw [d]at z;cases z⟩
 keep:=fun i h h' st k=> ⟨let ⟨old,he⟩:=st.1;⟨old,k e (by simp) _ he⟩,st.2.1.at fun o q=>k it (by simp) o q,st.2.2⟩
 item:=by
  intro X hP hw hK hc i pins s σ H E I hf st hg
  subst hP hw hK
  obtain⟨⟨old,he⟩,hit,hai,hae⟩:=st
  obtain⟨xs,x,hq,hx⟩:=hg
  obtain⟨its,rv,p,hz⟩:=I.list hq
  obtain⟨u,hu,ru⟩:=rv.get hx
  have hlt:i<its.toArray.size:=by
   rw [size_toArray];exact(zjW.mp hu).1
  refine wpAny_pyNext_enum_itemD (Draws.list (A:=X.A.in1) (by simp [I.ok.hd hc]) it a hai its.toArray) he ⟨hit,p.isList⟩ hlt hei (by simp [hei,Ne.symm hae]) fun v h' tk hv ho hst' hT hsz hk=> ?_
  have hv':v=u:=by
   have e1:its[i]?=some v:=by simpa using hv
   rw [hu]at e1;exact(Option.some.inj e1).symm
  subst hv'
  refine⟨_,rfl,wpAny_letOwnedTupleGo_enum (s:={s with heap:=h',toks:=tk+1}) ho fun h2 he2 hs2=> ?_⟩
  have helt:e<s.heap.objs.size:=zjT he
  have hilt:it<s.heap.objs.size:=by obtain⟨_,q,_⟩:=hit;exact zjT q
  have hTe:s.heap.objs.size≠e:=ne_of_gt helt
  have hn:H s.heap.objs.size=none:=I.hok.fresh (zjQ _)
  have kp:∀b o,b∉[e,it]->s.heap.get? b=some o->h2.get? b=some o:=fun b o hb q=>by
   have hbe:b≠e:=fun z=>hb (by simp [z])
   have hbi:b≠it:=fun z=>hb (by simp [z])
   exact(hs2.2 b hbe).trans (hk b o hbe hbi q)
  have hT2:h2.get? s.heap.objs.size=some {cls:=.type "tuple",data:=.seq #[.int i tk,v]}:=(hs2.2 _ hTe).trans hT
  have I2:Inv X pins σ (upd H s.heap.objs.size (.tup [.int i,x])) {s with heap:=h2,toks:=tk+1}:=I.turnLaid (fp:=[e,it]) kp hf (zjQ _) ⟨by show 2<=sizeLine;rw [sizeLine_eq];decide,[.int i tk,v],.cons ⟨_,rfl⟩ (.cons ru .nil),⟨_,hT2,rfl,_,rfl⟩⟩
  refine⟨.ref s.heap.objs.size,_,I2,rfl,⟨s.heap.objs.size,x,rfl,hn,rfl,fun ys hy=>by rw [I.list_inj hy hq];exact hx⟩,⟨⟨_,by simpa using he2⟩,hst'.1.at fun o q=>(hs2.2 it hei.symm).trans q,hai,hae⟩,fun b hb=> ?_⟩
  have hbz:b≠s.heap.objs.size:=by
   rcases mem_cons.mp hb with z|z
   ·rw [z];exact ne_of_lt helt
   ·rw [mem_singleton.mp z];exact ne_of_lt hilt
  rw [aQ hbz];exact(hf b hb).1
 done:=by
  intro X hP hw hK hc i pins s σ H E I hf st hg
  subst hP hw hK
  obtain⟨⟨old,he⟩,hit,hai,hae⟩:=st
  obtain⟨xs,hq,hx⟩:=hg
  obtain⟨its,rv,p,hz⟩:=I.list hq
  have hl:=rv.length
  have hi:its.toArray.size=i:=by rw [size_toArray,←hl,hx]
  refine wpAny_pyNext_enum_endD (Draws.list (A:=X.A.in1) (by simp [I.ok.hd hc]) it a hai its.toArray) he (by rw [hi];exact⟨hit,p.isList⟩) fun h' hs'=> ⟨rfl,?_⟩
  exact I.turned (it:=it) (t':=s.toks) (fun b o hb q=>hs' b o hb q) (hf it (by simp)).1 (hf it (by simp)).2.1 (hf it (by simp)).2.2.2.1 (hf it (by simp)).2.2.2.2.1 (hf it (by simp)).2.2.2.2.2
 self:=fun _ _ _ _ _ st h=>let ⟨old,he⟩:=st.1;wpAny_pyIter_enum he h
def A5u (K:W.Frag)(ta:TA):TI:=fun σ H R=>ta σ H fun vs H1=> ∃a xs,vs=[.ref a]/\SqL K H1 a xs/\R (Ite fun H xs=>SqL K H a xs) H1
theorem xG {a:Expr}{ta:TA}{p pos:Pos}{es:List Expr}{x1}{tpos:Pos}(hc:X.calm=true)(hg:Gl X "enumerate")(hm:X.mg "enumerate" =none)(ha:PA X [a] ta)(hs:starEach [a] X.env=[(false,eval a X.env)]:=by rfl):
  PI X (.Tuple es x1 tpos) (.Call (.Name "enumerate" p) [a] [] pos) (A5u X.K ta):=by
 intro pins s σ H R I h
 refine Call_ (iZ I hg hm boot_enumerate (PyProof.Rows.callWith_type1 (thn (ha pos pins s σ H _ I h) fun us s1 ⟨vs,H1,I1,r1,q1⟩=> ?_) hs rfl))
 obtain⟨b,xs,e,hq,q⟩:=q1
 subst e
 obtain⟨u,rfl,rx⟩:=fT r1
 cases rx
 obtain⟨its,rv,pt,hz⟩:=I1.list hq
 have hblt:b<s1.heap.objs.size:=by obtain⟨o,ho,_⟩:=pt.isList;exact zjT ho
 refine call_enumerate_list pt.isList fun h' he hit hsz hk=> ?_
 refine wpAny_pyIter_enum (s:={s1 with heap:=h'}) he ?_
 have I2:Inv X pins σ H1 {s1 with heap:=h'}:=I1.kept (t':=s1.toks) hk
 refine⟨s1.heap.objs.size+1,[s1.heap.objs.size+1,s1.heap.objs.size],_,_,H1,rfl,I2,zV _ _ b (succ_ne_self _),⟨⟨_,he⟩,hit,ne_of_lt hblt,ne_of_lt (lt_succ_of_lt hblt)⟩,fun c hc'=> ?_,q⟩
 have hge:s1.heap.objs.size<=c:=by
  rcases mem_cons.mp hc' with z|z
  ·rw [z];exact le_succ _
  ·rw [mem_singleton.mp z];exact zjQ _
 exact I1.fpOk hge (I1.hok.fresh hge)
end
theorem FnOk.never {P:Program}{w:World}{K:W.Frag}{mg:Str->Option Value}{base:Heap}{CX:CXT}{k:Nat}{f:Addr}{fd:FuncData}{ps:List Str}:FnOk P w K mg base CX k f fd ps (fun _ _ _ _=>False):=
 ⟨fun _ _ _ _ h=>h.elim,fun _ _ _ _ _ _ _ _ _ _ _ _ _ h=>h.elim⟩
section
variable {X:Cx}{es:List Expr}{te:TE}{t:TA}
theorem bU {c j pos}(he:PE X (.Constant c j pos) te)(hr:PA X es t):PA X (.Constant c j pos::es) (bZ te t):=bH he hr rfl
theorem aE {x pos}(he:PE X (.Name x pos) te)(hr:PA X es t):PA X (.Name x pos::es) (bZ te t):=bH he hr rfl
theorem fN {a o b pos}(he:PE X (.BinOp a o b pos) te)(hr:PA X es t):PA X (.BinOp a o b pos::es) (bZ te t):=bH he hr rfl
theorem rF {o b pos}(he:PE X (.UnaryOp o b pos) te)(hr:PA X es t):PA X (.UnaryOp o b pos::es) (bZ te t):=bH he hr rfl
theorem cC {f a k pos}(he:PE X (.Call f a k pos) te)(hr:PA X es t):PA X (.Call f a k pos::es) (bZ te t):=bH he hr rfl
theorem lG {a k pos}(he:PE X (.Tuple a k pos) te)(hr:PA X es t):PA X (.Tuple a k pos::es) (bZ te t):=bH he hr rfl
theorem pX {a pos}(he:PE X (.List a pos) te)(hr:PA X es t):PA X (.List a pos::es) (bZ te t):=bH he hr rfl
theorem fM {a b pos}(he:PE X (.Subscript a b pos) te)(hr:PA X es t):PA X (.Subscript a b pos::es) (bZ te t):=bH he hr rfl
theorem A83 {a b c pos}(he:PE X (.IfExp a b c pos) te)(hr:PA X es t):PA X (.IfExp a b c pos::es) (bZ te t):=bH he hr rfl
theorem uC {a b c pos}(he:PE X (.Compare a b c pos) te)(hr:PA X es t):PA X (.Compare a b c pos::es) (bZ te t):=bH he hr rfl
theorem mJ {a b c pos}(he:PE X (.ListComp a b c pos) te)(hr:PA X es t):PA X (.ListComp a b c pos::es) (bZ te t):=bH he hr rfl
end
@[irreducible] def PAq (X:Cx)(es:List Expr)(t:TA):Prop:=PA X es t
section
variable {X:Cx}{es:List Expr}{te:TE}{t:TA}
theorem kY (h:PAq X es t):PA X es t:=by unfold PAq at h;exact h
theorem hJ:PAq X [] gZ:=by unfold PAq;exact aA
theorem hX {x j pos}(hr:PAq X es t):PAq X (.Constant (.str x) j pos::es) (bZ (tC (.str x)) t):=by unfold PAq at*;exact bU iI hr
theorem qY {i j pos}(hr:PAq X es t):PAq X (.Constant (.int i) j pos::es) (bZ (tC (.int i)) t):=by unfold PAq at*;exact bU aH hr
theorem qK {b j pos}(hr:PAq X es t):PAq X (.Constant (.bool b) j pos::es) (bZ (tC (.bl b)) t):=by unfold PAq at*;exact bU cT hr
theorem xR {j pos}(hr:PAq X es t):PAq X (.Constant .none j pos::es) (bZ (tC .non) t):=by unfold PAq at*;exact bU pW hr
theorem hU {a o b pos}(he:PE X (.BinOp a o b pos) te)(hr:PAq X es t):PAq X (.BinOp a o b pos::es) (bZ te t):=by unfold PAq at*;exact fN he hr
theorem yY {o b pos}(he:PE X (.UnaryOp o b pos) te)(hr:PAq X es t):PAq X (.UnaryOp o b pos::es) (bZ te t):=by unfold PAq at*;exact rF he hr
theorem A9j {f a k pos}(he:PE X (.Call f a k pos) te)(hr:PAq X es t):PAq X (.Call f a k pos::es) (bZ te t):=by unfold PAq at*;exact cC he hr
theorem A1v {a k pos}(he:PE X (.Tuple a k pos) te)(hr:PAq X es t):PAq X (.Tuple a k pos::es) (bZ te t):=by unfold PAq at*;exact lG he hr
end
@[irreducible] def fY (X:Cx)(st:List Stmt)(t:TS):Prop:=PSs X st t
section
variable {X:Cx}{es:List Expr}{t:TA}{tb:TE}{b:Expr}{p1 p2 p3 pos:Pos}
theorem A6c {st:List Stmt}{t:TS}(h:PSs X st t):fY X st t:=by unfold fY;exact h
theorem vD {c:Expr}{a b:List Stmt}{tc:TT}{t u:TS}(hc:PT X c tc)(ha:fY X a t)(hb:fY X b u):PS X (.If c a b pos) (rA tc t u):=by unfold fY at ha hb;exact bQ hc ha hb
theorem retq (h:PAq X es t)(hb:PE X b tb)(hs:sZ b):fY X [.Return (some (.Subscript (.List es p1) b p2)) p3] (nG (tOp (oO X.K) (nA t) tb)):=by unfold fY;exact aW (bB (bM eO (dU (kY h)) hb hs))
end
@[irreducible] def PEq (X:Cx)(e:Expr)(t:TE):Prop:=PE X e t
@[irreducible] def PSq (X:Cx)(st:Stmt)(t:TS):Prop:=PS X st t
section
variable {X:Cx}{es:List Expr}{t:TA}{te tb:TE}{b e:Expr}{p1 p2 p3 pos:Pos}
theorem A9z {st:Stmt}{rest:List Stmt}{t u:TS}(h1:PSq X st t)(h2:PSs X rest u):PSs X (st::rest) (sK t u):=by unfold PSq at h1;exact aU h1 h2
theorem A2b {i:Nat}{x:Str}{pos':Pos}(hN:X.N.Nodup)(hi:X.N[i]?=some x)(hx:Loc X.env.scope x)(h:PAq X es t)(hb:PE X b tb)(hp:sZ b)(hs:swapsWith (.Subscript (.List es p1) b p2) (some (.Name x pos')) pos.line X.env=pure false:=by rfl)
  (hf:X.fn x=true\/X.env.scope.names.lookup x=some .local:=by first|exact .inl rfl|exact .inr rfl|assumption):PSq X (.Assign [.Name x pos'] (.Subscript (.List es p1) b p2) pos) (oJ (tOp (oO X.K) (nA t) tb) (dW i)):=by
 unfold PSq;exact cJ hN hi hx (bM eO (dU (kY h)) hb hp) hs hf
end
section
variable {X:Cx}{es:List Expr}{t:TA}{te:TE}{e:Expr}{p1 p3:Pos}
theorem tupq {k}(h:PAq X es t):PEq X (.Tuple es k p1) (jS t):=by unfold PEq;exact cZ (kY h)
theorem lstq (h:PAq X es t):PEq X (.List es p1) (nA t):=by unfold PEq;exact dU (kY h)
theorem lY {a k pos}(he:PEq X (.Tuple a k pos) te)(hr:PAq X es t):PAq X (.Tuple a k pos::es) (bZ te t):=by unfold PEq at he;unfold PAq at*;exact lG he hr
theorem A3g (h:PEq X e te):fY X [.Return (some e) p3] (nG te):=by unfold PEq at h;unfold fY;exact aW (bB h)
theorem A05 {st:Stmt}{rest:List Stmt}{t u:TS}(h1:PS X st t)(h2:fY X rest u):PSs X (st::rest) (sK t u):=by unfold fY at h2;exact aU h1 h2
end
theorem Ext.updL {H:Hp}{l:Addr}{xs ys:List V}(h:H l=some (.lst xs)):Ext H (upd H l (.lst ys))where
 tup:=fun a zs e=>by rw [aQ (pU e h (by simp))];exact e
 lst:=fun a zs e=>by
  by_cases ha:a=l
  ·exact⟨ys,by rw [ha,aJ]⟩
  ·exact⟨zs,by rw [aQ ha];exact e⟩
 dct:=fun a zs e=>by rw [aQ (pU e h (by simp))];exact e
theorem Stp.updL {p l:Addr}{H H1:Hp}{ys:List V}(s:Stp p H H1)(hl:H l=none)(hp:PenAt H p):Stp p H (upd H1 l (.lst ys)):=by
 obtain⟨x,f,e⟩:=hp
 have hne:p≠l:=bW e hl
 obtain⟨x',f',e'⟩:=s.pen
 exact⟨⟨x',f',by rw [aQ hne];exact e'⟩,fun b o hb h=>by rw [aQ (bW h hl)];exact s.keep b o hb h⟩
theorem A1h {K:W.Frag}{S:Hp->List V->Prop}{l:Addr}{xs:List V}{H0:Hp}{Q:St->Hp->Prop}(hS:∀H',Same H0 H'->S H' xs)(hl:H0 l=none)(hz:xs.length<=1000)
  (hQ:∀σ H' (ps:List Addr),Same H0 H'->H' l=some (.lst (ps.map V.ref))->ps.length=xs.length->(∀(j:Nat)(q:Addr)(v:V),ps[j]?=some q->xs[j]?=some v->H' q=some (.tup [.int j,v]))->Q σ H'):
  dZ (Ite S) (jO K 2 (fP (dW 0) (fP (dW 1) kE))) (dR iR (eY l (jS (bZ (eL 0) (bZ (eL 1) gZ))))) (eC Q) [none,none] (upd H0 l (.lst [])):=by
 refine jI (xs:=xs) (fun i σ H'=>σ.length=2/\Same H0 H'/\∃ps:List Addr,H' l=some (.lst (ps.map V.ref))/\ps.length=i/\∀(j:Nat)(q:Addr)(v:V),ps[j]?=some q->xs[j]?=some v->H' q=some (.tup [.int j,v]))
  ⟨rfl,aV hl,[],by rw [aJ];rfl,rfl,fun j q v h=>by simp at h⟩ (fun i σ H' _ h=>hS H' h.2.1) ?_ ?_
 ·rintro i x p σ H' hx ⟨hσ,hs,ps,hl',hn,hP⟩ hp
  have hi:i<xs.length:=(zjW.mp hx).1
  match σ,hσ with
  | [x0,x1],_=>
  have s1:Same H' (upd H' p (.tup [.int i,x])):=aV hp
  refine⟨p,_,rfl,SqT.of aJ,rfl,_,_,rfl,_,_,rfl,rfl,?_⟩
  refine kJ ?_
  refine⟨_,rfl,_,rfl,(by show 2<=sizeLine;decide),fun q hq=> ?_⟩
  have s2:=aV (o:=.tup [.int i,x]) hq
  have hlq:l≠q:=bW (s1 _ _ hl') hq
  refine⟨_,s2 _ _ (s1 _ _ hl'),eI (by rw [length_map];omega),rfl,fun b u e=> ?_,ps++[q],?_,?_,fun j q' v hj hv=> ?_⟩
  ·rw [aQ (bW e hl)];exact s2 _ _ (s1 _ _ (hs _ _ e))
  ·rw [aJ,map_append];rfl
  ·rw [length_append,hn];rfl
  ·have key:∀b u,(upd (upd H' p (.tup [.int i,x])) q (.tup [.int i,x])) b=some (.tup u)->(upd (upd (upd H' p (.tup [.int i,x])) q (.tup [.int i,x])) l (.lst (ps.map V.ref++[.ref q]))) b=some (.tup u):=fun b u e=>by
    rw [aQ (fun z=> ?_)];exact e
    rw [z,aQ hlq,s1 _ _ hl']at e;cases e
   by_cases hji:j<ps.length
   ·rw [getElem?_append_left hji]at hj
    exact key _ _ (s2 _ _ (s1 _ _ (hP j q' v hj hv)))
   ·rw [getElem?_append_right (by omega)]at hj
    have:j - ps.length=0:=by
     by_cases h0:j - ps.length=0
     ·exact h0
     ·rw [List.getElem?_eq_none (by simp;omega)]at hj;cases hj
    have hji2:j=i:=by omega
    subst hji2
    rw [this]at hj
    cases hj
    rw [hx]at hv;cases hv
    exact key _ _ aJ
 ·rintro σ H' ⟨_,hs,ps,hl',hn,hP⟩
  exact hQ σ H' ps hs hl' hn hP
end L2
namespace Grd
abbrev bG:=List (List Int)
def pos (n:Int):Bool:=decide (0<=n)
def road (n:Int):Bool:=decide (n= -1)
def fL (f:Int->Bool)(r:Int)(xs:List Int):List (Int×Int):=xs.zipIdx.filterMap fun q=>if f q.1 then some (r,(q.2:Int))else none
def bC (f:Int->Bool)(g:bG):List (Int×Int):=(g.zipIdx.map fun p=>fL f p.2 p.1).flatten
def atG (g:bG)(c:Int×Int):Int:=(g.getD c.1.toNat []).getD c.2.toNat 0
def eV (xs:List Int):Nat:=(xs.filter pos).length
def eK (g:bG):Nat:=(g.map eV).sum
structure dX (g:bG)(w:Nat):Prop where
 h1:1<=g.length
 h4:g.length<=4
 w1:1<=w
 w5:w<=6
 len:∀xs∈g,xs.length=w
 num:∀xs∈g,∀n∈xs,-2<=n/\n<=99
 c1:1<=eK g
 c10:eK g<=10
theorem mL {α:Type}(xs:List α)(i:Nat)(x:α)(h:xs[i]?=some x):(xs.take (i+1)).zipIdx=(xs.take i).zipIdx++[(x,i)]:=by
 have hlt:i<xs.length:=(zjW.mp h).1
 rw [take_succ,h,List.zipIdx_append]
 simp
 omega
theorem rowF_succ (f:Int->Bool)(r:Int)(xs:List Int)(i:Nat)(x:Int)(h:xs[i]?=some x):fL f r (xs.take (i+1))=fL f r (xs.take i)++if f x then [(r,(i:Int))]else []:=by
 unfold fL
 rw [mL xs i x h,List.filterMap_append]
 congr 1
 cases hf:f x<;>simp [hf]
theorem gridF_succ (f:Int->Bool)(g:bG)(i:Nat)(xs:List Int)(h:g[i]?=some xs):bC f (g.take (i+1))=bC f (g.take i)++fL f i xs:=by
 unfold bC
 rw [mL g i xs h,map_append,flatten_append]
 simp
theorem A4y (xs:List Int)(x:Int):eV (xs++[x])=eV xs+if pos x then 1 else 0:=by
 unfold eV
 rw [filter_append,length_append]
 cases hp:pos x<;>simp [hp]
theorem A5q (g:bG)(xs:List Int):eK (g++[xs])=eK g+eV xs:=by
 unfold eK
 rw [map_append,List.sum_append]
 simp
theorem mem_rowF {f:Int->Bool}{r:Int}{xs:List Int}{c:Int×Int}:c∈fL f r xs↔c.1=r/\∃j x,c.2=(j:Nat)/\xs[j]?=some x/\f x=true:=by
 unfold fL
 rw [mem_filterMap]
 constructor
 ·rintro⟨⟨x,j⟩,hm,e⟩
  have hx:=List.mem_zipIdx_iff_getElem?.mp hm
  cases hf:f x with
  |true=>
   simp only [hf,if_true,Option.some.injEq]at e
   subst e
   exact⟨rfl,j,x,rfl,hx,hf⟩
  |false=>simp [hf]at e
 ·rintro⟨e1,j,x,e2,hx,hf⟩
  refine⟨(x,j),List.mem_zipIdx_iff_getElem?.mpr hx,?_⟩
  simp only [hf,if_true,Option.some.injEq]
  exact Prod.ext e1.symm e2.symm
theorem A26 {g:bG}{i j:Nat}{xs:List Int}{x:Int}(h1:g[i]?=some xs)(h2:xs[j]?=some x):atG g ((i:Int),(j:Int))=x:=by
 unfold atG
 simp [List.getD_eq_getElem?_getD,h1,h2]
theorem yB {r:Int}:∀(pre xs:List Int)(v:Int×Int->Int),(∀j x,xs[j]?=some x->v (r,((pre.length+j:Nat):Int))=x)->(((xs.zipIdx pre.length).filterMap fun q=>if pos q.1 then some (r,(q.2:Int))else none).map v)=xs.filter pos
 |_,[],_,_=>by simp
 |pre,x::xs,v,h=>by
  have ih:=yB (r:=r) (pre++[x]) xs v fun j y hy=>by
   have:=h (j+1) y (by simpa using hy)
   rw [length_append]
   have e:pre.length+[x].length+j=pre.length+(j+1):=by simp;omega
   rw [e];exact this
  have h0:=h 0 x rfl
  rw [length_append]at ih
  rw [zipIdx_cons]
  have ih':(((xs.zipIdx (pre.length+1)).filterMap fun q=>if pos q.1 then some (r,(q.2:Int))else none).map v)=xs.filter pos:=ih
  cases hp:pos x with
  |true=>
   rw [List.filterMap_cons_some (b:=(r,(pre.length:Int))) (by simp [hp]),map_cons,ih',filter_cons_of_pos hp]
   congr 1
  |false=>
   rw [List.filterMap_cons_none (by simp [hp]),ih',filter_cons_of_neg (by simp [hp])]
theorem A3k (g:bG):(bC pos g).map (atG g)=(g.map fun xs=>xs.filter pos).flatten:=by
 unfold bC
 rw [List.map_flatten,map_map]
 have e:g.zipIdx.map (List.map (atG g)∘fun p=>fL pos p.2 p.1)=g.zipIdx.map fun p=>p.1.filter pos:=by
  refine map_congr_left fun p hp=> ?_
  obtain⟨xs,i⟩:=p
  have hx:=List.mem_zipIdx_iff_getElem?.mp hp
  show(fL pos i xs).map (atG g)=xs.filter pos
  exact yB (r:=(i:Int)) [] xs (atG g) fun j x hj=>by
   simp only [length_nil,Nat.zero_add]
   exact A26 hx hj
 rw [e]
 congr 1
 have:(fun p:List Int×Nat=>p.1.filter pos)=(fun xs=>xs.filter pos)∘Prod.fst:=rfl
 rw [this,←map_map,List.zipIdx_map_fst]
theorem gH (g:bG):(bC pos g).length=eK g:=by
 have:=congrArg List.length (A3k g)
 rw [length_map]at this
 rw [this,List.length_flatten,map_map]
 rfl
end Grd
namespace L2
open PySem Grd
def fG (s:Stmt):List Stmt:=match s with| .For _ _ b _ _=>b|_=> []
def RowsG (H:Hp)(bs:List Addr)(g:bG):Prop:=Paired (fun b xs=>H b=some (.tup ((xs:List Int).map V.int))) bs g
def GridAt (H:Hp)(a:Addr)(g:bG):Prop:=∃bs:List Addr,H a=some (.tup (bs.map V.ref))/\RowsG H bs g
theorem RowsG.ext {H H':Hp}{bs:List Addr}{g:bG}(h:RowsG H bs g)(e:Ext H H'):RowsG H' bs g:=Paired.mapP h fun _ _ z=>e.tup _ _ z
theorem GridAt.ext {H H':Hp}{a:Addr}{g:bG}(h:GridAt H a g)(e:Ext H H'):GridAt H' a g:=let ⟨bs,h1,h2⟩:=h;⟨bs,e.tup _ _ h1,h2.ext e⟩
theorem RowsG.row {H:Hp}:∀{bs:List Addr}{g:bG}{i:Nat}{b:Addr},RowsG H bs g->bs[i]?=some b->∃xs,g[i]?=some xs/\H b=some (.tup (xs.map V.int))
 |_,_,0,_,.cons r _,h=>by cases h;exact⟨_,rfl,r⟩
 |_,_,i+1,_,.cons _ t,h=>RowsG.row (i:=i) t (by simpa using h)
end L2
namespace M46
open PySem L2 PyProof.Rows Grd
abbrev iO:Stmt:=top 35
structure dY (mg:Str->Option Value):Prop where
 range:mg "range" =none
 list:mg "list" =none
 zip:mg "zip" =none
 dict:mg "dict" =none
 set:mg "set" =none
 sorted:mg "sorted" =none
 abs:mg "abs" =none
 holders:∃t,mg "MOST_HOLDERS" =some (.int 4 t)
def tU:Sp:=fun vs H Q _=> ∃p,vs=[.ref p,.int 10]/\PenAt H p/\∀a g w H',Stp p H H'->GridAt H' a g->dX g w->Q (.ref a) H'
section
variable {P:Program}{w:World}{K:W.Frag}{mg:Str->Option Value}{base:Heap}
abbrev nS:List Str:=["_law_pen_here","_law_most","_law_high","_law_wide","_law_odds","_law_rows","_law_left","_law_line","_law_row","_law_place","_law_number"]
theorem scMeadL:bV nS ["_law_pen_here","_law_most"] (aK iO):=by ac_rfl
abbrev σM (p lr:Addr)(m hi wi od lf:Int)(o7 o8 o9 o10:Option V):L2.St:=[some (.ref p),some (.int m),some (.int hi),some (.int wi),some (.int od),some (.ref lr),some (.int lf),o7,o8,o9,o10]
def dec (n:Int):Int:=if decide (0<=n)=true then 1 else 0
theorem A2a (n:Int):((if pos n then 1 else 0:Nat):Int)=dec n:=by
 unfold dec pos
 by_cases h:0<=n<;>simp [h]
theorem A6b (xs:List Int)(h:1<=xs.length):eG (xs.map V.int) (some 1) none=(xs.drop 1).map V.int:=by
 have e1:HT.sIx (xs.map V.int).length 0 (some 1)=min 1 (xs.map V.int).length:=HT.sIx_nat _ _ 1
 have e2:HT.sIx (xs.map V.int).length (xs.map V.int).length none=(xs.map V.int).length:=rfl
 unfold eG
 rw [e1,e2,length_map]
 have e3:min 1 xs.length=1:=by omega
 rw [e3,←map_drop,take_of_length_le (by rw [length_map,length_drop];omega)]
theorem A6s {f g:Addr}{fd gd:FuncData}(F:Fun K "_law_mead" "_law_mead" iO f fd)(T:Txt mg)(T2:dY mg)(b1:Binds K gd ["_law_pen_here","_law_many"] [])(m1:mg "_law_draw" =some (.ref g))(p1:W.keepIn K (.ref g)=true)
    (D:FnOk P w K mg base CX0 1 g gd ["_law_pen_here","_law_many"] iA):FnOk P w K mg base CX0 2 f fd ["_law_pen_here","_law_most"] tU:=by
  refine F.ok scMeadL (fun vs H Q E h=> ?_) (fun cdv A outer s H vs Q E hr h=> ?_)
  · obtain⟨p,rfl,_⟩:=h;rfl
  · obtain⟨p,rfl,hp,q⟩:=h
    have nd:=scMeadL.nd
    have t45:∃tt,PSs (cV CX0 P w K mg base nS "_law_mead" (aK iO) f cdv A outer s H E).nox ((fG ((fG ((bJ iO).getD 2 (.Pass ⟨0,0,0,0⟩))).getD 1 (.Pass ⟨0,0,0,0⟩))).drop 3) tt/\
        ∀(lr rw':Addr)(hi wi od lf n:Int)(o7 o9:Option V)(H1:Hp)(xs:List V)(De:bK),H1 rw'=some (.lst xs)->xs.length<=10->De.nx (σM p lr 10 hi wi od (lf - dec n) o7 (some (.ref rw')) o9 (some (.int n))) (upd H1 rw' (.lst (xs++[.int n])))->
          tt De (σM p lr 10 hi wi od lf o7 (some (.ref rw')) o9 (some (.int n))) H1:=by
      refine⟨_,aU (cJ (i:=6) nd rfl (Or.inl rfl) (bF jN (pv 6) (fW qF rfl T.int boot_int (uC (iN kC (pv 10) aH (nomark _)) aA))))<|
        aW (gO (jZ PySem.F.plainAttrs_list PySem.F.slot_list_append PySem.F.type_list_append jT (pv 8) (aE (pv 10) aA))),?_⟩
      intro lr rw' hi wi od lf n o7 o9 H1 xs De hrw hz k
      refine⟨_,rfl,_,rfl,_,_,rfl,rfl,.inr ⟨_,rfl,_,_,rfl,rfl,?_⟩⟩
      exact⟨_,rfl,.inl ⟨rfl,_,SqL.of hrw⟩,_,rfl,rw',xs,_,rfl,rfl,hrw,eI (by omega),k⟩
    obtain⟨tt45,h45,r45⟩:=t45
    have t345:∃tt,PSs (cV CX0 P w K mg base nS "_law_mead" (aK iO) f cdv A outer s H E).nox ((fG ((fG ((bJ iO).getD 2 (.Pass ⟨0,0,0,0⟩))).getD 1 (.Pass ⟨0,0,0,0⟩))).drop 2) tt/\
        ∀(lr rw':Addr)(hi wi od lf n:Int)(o7 o9:Option V)(H1:Hp)(xs:List V)(De:bK),H1 rw'=some (.lst xs)->xs.length<=10->(∀n',(n'=n\/n'= -1)->(0<=n'->lf≠0)->De.nx (σM p lr 10 hi wi od (lf - dec n') o7 (some (.ref rw')) o9 (some (.int n'))) (upd H1 rw' (.lst (xs++[.int n']))))->
          tt De (σM p lr 10 hi wi od lf o7 (some (.ref rw')) o9 (some (.int n))) H1:=by
      refine⟨_,aU (bQ (PW.pt (jC (bN kC (pv 10) aH (nomark _)) (iS (bN eZ (pv 6) aH (nomark _))))) (aW (cJ (i:=10) nd rfl (Or.inl rfl) (iG hZ aH))) bO) h45,?_⟩
      intro lr rw' hi wi od lf n o7 o9 H1 xs De hrw hz k
      refine⟨_,rfl,_,_,rfl,rfl,_,rfl,dJ (fun n0=> ?_) fun n0=> ?_⟩
      · refine⟨_,rfl,rfl,_,rfl,dJ (fun l0=> ?_) fun l0=> ?_⟩
        · exact⟨_,rfl,r45 lr rw' hi wi od lf _ o7 o9 H1 xs De hrw hz (k (-1) (.inr rfl) fun z=>absurd z (by decide))⟩
        · exact r45 lr rw' hi wi od lf n o7 o9 H1 xs De hrw hz (k n (.inl rfl) fun _ z=>l0 (by rw [z]))
      · refine cO ?_
        exact r45 lr rw' hi wi od lf n o7 o9 H1 xs De hrw hz (k n (.inl rfl) fun z=>absurd z n0)
    obtain⟨tt3,h3,r3⟩:=t345
    have tin:∃tt,PSs (cV CX0 P w K mg base nS "_law_mead" (aK iO) f cdv A outer s H E).nox (fG ((fG ((bJ iO).getD 2 (.Pass ⟨0,0,0,0⟩))).getD 1 (.Pass ⟨0,0,0,0⟩))) tt/\
        ∀(lr rw':Addr)(hi wi od lf:Int)(o7 o9 o10:Option V)(H1:Hp)(xs:List V)(De:bK),PenAt H1 p->H1 rw'=some (.lst xs)->rw'≠p->xs.length<=10->
          (∀n' H2,Stp p H1 H2->-2<=n'->n'<=99->(0<=n'->lf≠0)->De.nx (σM p lr 10 hi wi od (lf - dec n') o7 (some (.ref rw')) o9 (some (.int n'))) (upd H2 rw' (.lst (xs++[.int n']))))->
          tt De (σM p lr 10 hi wi od lf o7 (some (.ref rw')) o9 o10) H1:=by
      refine⟨_,aU (cJ (i:=10) nd rfl (Or.inl rfl) (bM eO (dU (cC (aX D hr rfl m1 p1 b1 .nil bA (aE (pv 0) (bU aH aA))) (cC (aX D hr rfl m1 p1 b1 .nil bA (aE (pv 0) (bU aH aA))) (rF (iG hZ aH) (rF (iG hZ aH) (bU aH aA))))))
          (aX D hr rfl m1 p1 b1 .nil bA (aE (pv 0) (bU aH aA))) (fun _ _=>rfl)))<|
        aU (bQ (PW.pt (jC (bN A5i (pv 4) aH (nomark _)) (iS (bN eZ (aX D hr rfl m1 p1 b1 .nil bA (aE (pv 0) (bU aH aA))) aH (nomark _))))) (aW (cJ (i:=10) nd rfl (Or.inl rfl) (aX D hr rfl m1 p1 b1 .nil bA (aE (pv 0) (bU aH aA))))) bO) h3,?_⟩
      intro lr rw' hi wi od lf o7 o9 o10 H1 xs De hp1 hrw hrp hz k
      refine⟨_,rfl,p,4,rfl,hp1,by decide,by decide,fun d1 H2 a1 a2 st2=> ?_⟩
      refine⟨_,rfl,p,100,rfl,st2.pen,by decide,by decide,fun d2 H3 c1 c2 st3=> ?_⟩
      refine⟨_,rfl,_,rfl,?_⟩
      refine⟨by show 5<=sizeLine;decide,fun l hl=> ?_⟩
      have stl:Stp p H1 (upd H3 l (.lst [.int d1,.int d2,.int (-1),.int (-2),.int 1])):=(st2.trans st3).same (aV hl)
      refine⟨_,rfl,p,5,rfl,stl.pen,by decide,by decide,fun i H4 i0 i1 st4=> ?_⟩
      have hlp:l≠p:=fun z=>by
        obtain⟨x,f',e⟩:=st3.pen
        rw [z,e]at hl;cases hl
      obtain⟨n,hn,nlo,nhi⟩:∃n,atI [V.int d1,.int d2,.int (-1),.int (-2),.int 1] i=some (.int n)/\-2<=n/\n<=99:=by
        obtain⟨j,rfl⟩:=Int.eq_ofNat_of_zero_le i0
        have hj:j<5:=by omega
        match j,hj with
        |0,_=>exact⟨_,bL rfl,by omega,by omega⟩
        |1,_=>exact⟨_,bL rfl,by omega,by omega⟩
        |2,_=>exact⟨_,bL rfl,by omega,by omega⟩
        |3,_=>exact⟨_,bL rfl,by omega,by omega⟩
        |4,_=>exact⟨_,bL rfl,by omega,by omega⟩
      have st5:=stl.trans st4
      refine⟨l,_,i,_,rfl,rfl,SqL.of (st4.keep l _ hlp aJ),hn,?_⟩
      refine⟨_,rfl,_,_,rfl,rfl,_,rfl,dJ (fun _=> ?_) fun _=> ?_⟩
      · refine⟨_,rfl,p,2,rfl,st5.pen,by decide,by decide,fun z H5 z0 z1 st6=> ?_⟩
        refine⟨rfl,_,rfl,dJ (fun _=> ?_) fun _=> ?_⟩
        · refine⟨_,rfl,p,9,rfl,st6.pen,by decide,by decide,fun n2 H6 y0 y1 st7=> ?_⟩
          have st8:=(st5.trans st6).trans st7
          exact r3 lr rw' hi wi od lf n2 o7 o9 H6 xs De (st8.keep _ _ hrp hrw) hz fun n' e hl=>k n' H6 st8 (by omega) (by omega) hl
        · have st8:=st5.trans st6
          exact r3 lr rw' hi wi od lf n o7 o9 H5 xs De (st8.keep _ _ hrp hrw) hz fun n' e hl=>k n' H5 st8 (by omega) (by omega) hl
      · refine cO ?_
        exact r3 lr rw' hi wi od lf n o7 o9 H4 xs De (st5.keep _ _ hrp hrw) hz fun n' e hl=>k n' H4 st5 (by omega) (by omega) hl
    obtain⟨tti,hin,rin⟩:=tin
    refine⟨_,aU (A1s (i:=2) (j:=3) (k:=4) rfl nd rfl rfl rfl (by decide) (by decide) (by decide) rfl rfl rfl (fN (bF eU aH (aX D hr rfl m1 p1 b1 .nil bA (aE (pv 0) (bU aH aA)))) (fN (bF eU aH (aX D hr rfl m1 p1 b1 .nil bA (aE (pv 0) (bU aH aA)))) (cC (aX D hr rfl m1 p1 b1 .nil bA (aE (pv 0) (bU aH aA))) aA))) rfl)<|
      aU (nC (i:=5) (j:=6) rfl nd rfl rfl (by decide) rfl rfl (pX (dU aA) (aE (pv 1) aA)) rfl)<|
      aU (iB PassesOwn.never rfl (kZ rfl T2.range (aE (pv 2) aA)) (bE (i:=7) nd rfl (Or.inl rfl))
        (aU (cJ (i:=8) nd rfl (Or.inl rfl) (dU aA))<|
         aU (iB PassesOwn.never rfl (kZ rfl T2.range (aE (pv 3) aA)) (bE (i:=9) nd rfl (Or.inl rfl)) hin)<|
         aW (gO (jZ PySem.F.plainAttrs_list PySem.F.slot_list_append PySem.F.type_list_append jT (pv 5) (cC (fW nZ rfl T.tuple boot_tuple (aE (pv 8) aA)) aA)))))<|
      aU (bQ (bN eZ (pv 6) (pv 1) (nomark _)) (aW (iQ (bF iK (cZ (bU aH aA)) (iJ iV (bM eO (pv 5) aH (fun _ _=>rfl)) (iD aH) jH)) (sP (pv 5) aH tJ))) bO)<|
      aW (bB (fW nZ rfl T.tuple boot_tuple (aE (pv 5) aA))),?_⟩
    refine⟨_,rfl,p,4,rfl,hp,by decide,by decide,fun d1 H1 a1 a2 st1=> ?_⟩
    refine⟨_,_,rfl,rfl,_,rfl,p,5,rfl,st1.pen,by decide,by decide,fun d2 H2 c1 c2 st2=> ?_⟩
    refine⟨_,_,rfl,rfl,_,rfl,p,3,rfl,st2.pen,by decide,by decide,fun od H3 e1 e2 st3=> ?_⟩
    refine⟨_,_,_,rfl,?_⟩
    refine⟨by show 0<=sizeLine;decide,fun lr hlr=> ?_⟩
    refine⟨_,rfl,_,_,rfl,?_⟩
    have st4:Stp p H (upd H3 lr (.lst [])):=((st1.trans st2).trans st3).same (aV hlr)
    have hHlr:H lr=none:=by
      cases e:H lr with
      |none=>rfl
      |some o=>
        by_cases z:lr=p
        · obtain⟨x,f',e'⟩:=st3.pen
          rw [z,e']at hlr;cases hlr
        · rw [((st1.trans st2).trans st3).keep lr o z e]at hlr;cases hlr
    have hlrp:lr≠p:=fun z=>by
      obtain⟨x,f',e'⟩:=hp
      rw [z,e']at hHlr;cases hHlr
    refine⟨_,rfl,1+d1,rfl,by omega,by omega,?_⟩
    refine lB (lo:=0) (n:=(1+d1).toNat) (fun i σ H'=> ∃(lf:Int)(bs:List Addr)(g:bG),(∃o7 o8 o9 o10,σ=σM p lr 10 (1+d1) (1+d2) od lf o7 o8 o9 o10)/\Stp p H H'/\H' lr=some (.lst (bs.map V.ref))/\RowsG H' bs g/\g.length=i/\0<=lf/\lf+eK g=10/\(∀xs∈g,xs.length=(1+d2).toNat)/\∀xs∈g,∀n∈xs,-2<=n/\n<=99)
      ⟨10,[],[],⟨_,_,_,_,rfl⟩,st4,aJ,.nil,rfl,by decide,rfl,(fun r hr'=>by cases hr'),(fun r hr'=>by cases hr')⟩ ?_ ?_
    · rintro i σ H' hi ⟨lf,bs,g,⟨o7,o8,o9,o10,rfl⟩,st',hlr',hG,hn,lf0,lfc,hlen,hnum⟩
      have hbs:bs.length=g.length:=Paired.length hG
      refine⟨by show 0<=sizeLine;decide,fun rw' hrw=> ?_⟩
      have hrp:rw'≠p:=fun z=>by
        obtain⟨x,f',e'⟩:=st'.pen
        rw [z,e']at hrw;cases hrw
      have hrl:rw'≠lr:=fun z=>by rw [z,hlr']at hrw;cases hrw
      refine⟨_,rfl,1+d2,rfl,by omega,by omega,?_⟩
      refine lB (lo:=0) (n:=(1+d2).toNat) (fun j σ H2=> ∃(lf2:Int)(xs:List Int),(∃o9 o10,σ=σM p lr 10 (1+d1) (1+d2) od lf2 (some (.int (0+i))) (some (.ref rw')) o9 o10)/\Stp p H' H2/\H2 rw'=some (.lst (xs.map V.int))/\xs.length=j/\0<=lf2/\lf2+eV xs=lf/\∀n∈xs,-2<=n/\n<=99)
        ⟨lf,[],⟨_,_,rfl⟩,(Stp.refl st'.pen).updL hrw st'.pen,aJ,rfl,lf0,by simp [eV],fun x hx=>by cases hx⟩ ?_ ?_
      · rintro j σ H2 hj ⟨lf2,xs,⟨o92,o102,rfl⟩,stj,hxs,hnj,l0,lc,hxi⟩
        refine rin lr rw' _ _ _ lf2 _ _ _ H2 (xs.map V.int) _ stj.pen hxs hrp (by rw [length_map];omega) fun n' H3 st3' n1 n2 nl=> ?_
        refine⟨lf2 - dec n',xs++[n'],⟨_,_,rfl⟩,(stj.trans st3').updL hrw st'.pen,by rw [aJ,map_append];rfl,by rw [length_append,hnj];rfl,?_,?_,fun x hx=> ?_⟩
        · unfold dec
          by_cases h0:0<=n'
          · have:=nl h0
            rw [zjV h0,if_pos rfl];omega
          · rw [zjU h0,if_neg (by decide)];omega
        · rw [A4y,Int.natCast_add,A2a];omega
        · rcases mem_append.mp hx with z|z
          · exact hxi x z
          · rw [mem_singleton.mp z];exact⟨n1,n2⟩
      · rintro σ H2 ⟨lf2,xs,⟨o92,o102,rfl⟩,stj,hxs,hnj,l0,lc,hxi⟩
        have hlr2:=stj.keep lr _ hlrp hlr'
        refine⟨_,rfl,.inl ⟨rfl,_,SqL.of hlr2⟩,_,rfl,rw',xs.map V.int,rfl,.inl ⟨SqL.of hxs,fun t ht=> ?_⟩⟩
        have s3:=aV (o:=.tup (xs.map V.int)) ht
        have hlr3:=s3 _ _ hlr2
        refine⟨lr,bs.map V.ref,_,rfl,rfl,hlr3,eI (by rw [length_map];omega),?_⟩
        have exA:Ext H' (upd (upd H2 t (.tup (xs.map V.int))) lr (.lst (bs.map V.ref++[.ref t]))):=((stj.ext st'.pen).trans s3.ext).trans (Ext.updL hlr3)
        have htl:t≠lr:=fun z=>by rw [z,hlr2]at ht;cases ht
        refine⟨lf2,bs++[t],g++[xs],⟨_,_,_,_,rfl⟩,((st'.trans stj).same s3).updL hHlr hp,by rw [aJ,map_append];rfl,Paired.snoc (hG.ext exA) (by rw [aQ htl,aJ]),by rw [length_append,hn];rfl,l0,?_,fun ys hy=> ?_,fun ys hy=> ?_⟩
        · rw [A5q];omega
        · rcases mem_append.mp hy with z|z
          · exact hlen ys z
          · rw [mem_singleton.mp z];exact hnj
        · rcases mem_append.mp hy with z|z
          · exact hnum ys z
          · rw [mem_singleton.mp z];exact hxi
    · rintro σ H' ⟨lf,bs,g,⟨o7,o8,o9,o10,rfl⟩,st',hlr',hG,hn,lf0,lfc,hlen,hnum⟩
      have hbs:bs.length=g.length:=Paired.length hG
      have h1:1<=g.length:=by omega
      have h4:g.length<=4:=by omega
      refine⟨_,rfl,_,rfl,rfl,_,rfl,dJ (fun e10=> ?_) fun e10=> ?_⟩
      · have e10':lf=10:=V.int.inj e10
        obtain⟨b0,bs',rfl⟩:∃b0 bs',bs=b0::bs':=exists_cons_of_ne_nil (fun z=>by rw [z]at hbs;simp at hbs;omega)
        obtain⟨xs0,g',rfl⟩:∃xs0 g',g=xs0::g':=exists_cons_of_ne_nil (fun z=>by rw [z]at h1;simp at h1)
        have hb0:H' b0=some (.tup (xs0.map V.int)):=by cases hG with|cons a b=>exact a
        have hG':RowsG H' bs' g':=by cases hG with|cons a b=>exact b
        have hw0:=hlen xs0 zjR
        refine⟨by show 1<=sizeLine;decide,fun t3 ht3=> ?_⟩
        have s3:=aV (o:=.tup [.int 3]) ht3
        refine⟨_,rfl,lr,_,0,.ref b0,rfl,rfl,SqL.of (s3 _ _ hlr'),bL (j:=0) rfl,_,rfl,b0,xs0.map V.int,rfl,s3 _ _ hb0,fun c H4 s4 hc=> ?_⟩
        rw [A6b xs0 (by omega)]at hc
        refine⟨t3,c,[.int 3],_,rfl,rfl,s4 _ _ aJ,hc,?_,fun c2 H5 s5 hc2=> ?_⟩
        · rw [length_map,length_drop,sizeLine_eq];show 1+_<=_;omega
        have hlr5:=s5 _ _ (s4 _ _ (s3 _ _ hlr'))
        refine⟨_,rfl,lr,_,0,0,rfl,rfl,hlr5,(by unfold ixN;rw [if_pos (by decide),if_pos (by simp)];rfl),?_⟩
        have exA:Ext H' (upd H5 lr (.lst (((b0::bs').map V.ref).set 0 (.ref c2)))):=((s3.ext.trans s4.ext).trans s5.ext).trans (Ext.updL hlr5)
        refine⟨_,rfl,lr,_,rfl,.inl ⟨SqL.of aJ,fun tt htt=> ?_⟩⟩
        have s6:=aV (o:=.tup (((b0::bs').map V.ref).set 0 (.ref c2))) htt
        have hc2l:c2≠lr:=fun z=>by rw [z,hlr5]at hc2;cases hc2
        have z0:eK (xs0::g')=0:=by omega
        have z1:eV xs0=0/\eK g'=0:=by
          unfold eK at z0⊢
          rw [map_cons,sum_cons]at z0
          omega
        have zd:eV (xs0.drop 1)=0:=by
          have:(xs0.filter pos)=[]:=length_eq_zero_iff.mp z1.1
          unfold eV
          rw [length_eq_zero_iff,List.filter_eq_nil_iff]
          intro a ha
          exact List.filter_eq_nil_iff.mp this a (List.mem_of_mem_drop ha)
        have zc:eK ((3::xs0.drop 1)::g')=1:=by
          have e1:eV (3::xs0.drop 1)=eV (xs0.drop 1)+1:=by unfold eV;rw [filter_cons_of_pos (by decide),length_cons]
          unfold eK
          rw [map_cons,sum_cons,e1,zd]
          have:=z1.2
          unfold eK at this
          omega
        refine q tt ((3::xs0.drop 1)::g') (1+d2).toNat _ ((((st'.same s3).same s4).same s5).updL hHlr hp|>.same s6) ⟨c2::bs',aJ,.cons ?_ (hG'.ext (exA.trans s6.ext))⟩ ⟨by simp,by simpa using h4,by omega,by omega,fun ys hy=> ?_,fun ys hy=> ?_,by omega,by omega⟩
        · exact s6 _ _ (by rw [aQ hc2l];exact hc2)
        · rcases mem_cons.mp hy with z|z
          · rw [z,length_cons,length_drop];omega
          · exact hlen ys (zjS _ z)
        · rcases mem_cons.mp hy with z|z
          · rw [z]
            intro n hn'
            rcases mem_cons.mp hn' with z'|z'
            · omega
            · exact hnum xs0 zjR n (List.mem_of_mem_drop z')
          · exact hnum ys (zjS _ z)
      · refine⟨_,rfl,lr,_,rfl,.inl ⟨SqL.of hlr',fun tt htt=> ?_⟩⟩
        have s6:=aV (o:=.tup (bs.map V.ref)) htt
        have e10':lf≠10:=fun z=>e10 (by rw [z])
        exact q tt g (1+d2).toNat _ (st'.same s6) ⟨bs,aJ,hG.ext s6.ext⟩ ⟨h1,h4,by omega,by omega,hlen,hnum,by omega,by omega⟩
end
end M46
namespace PySem
open Sem (wp)
section
variable {prog:Program}{w:World}{A:Around}{E:Value->Shared->Prop}{s:Shared}
structure jM (z TI TO i1 i2:Addr)(f1 f2:List Addr):Prop where
 z1:z∉f1
 z2:z∉f2
 o1:TO∉f1
 o2:TO∉f2
 c1:i1∉f2
 c2:i2∉f1
 Iz:TI≠z
 Oz:TO≠z
 iz:i1≠z
 jz:i2≠z
 IO:TI≠TO
 I1:TI≠i1
 I2:TI≠i2
 O1:TO≠i1
 O2:TO≠i2
 ij:i1≠i2
theorem wC (n a b:Nat)(h1:a<n)(h2:b<n):jM (n+4) (n+2) (n+3) n (n+1) [n,a] [n+1,b]:=by
  constructor<;>intro h<;>first
    | (have h':@Eq Nat _ _:=h;omega)
    | (rcases mem_cons.mp h with y|y
       · have y':@Eq Nat _ _:=y;omega
       · have y':@Eq Nat _ _:=mem_singleton.mp y;omega)
theorem A7r {z TI TO i1 i2:Addr}{f1 f2:List Addr}{n1 n2 k:Nat}{P1 P2:Nat->Value->Prop}{S1 S2:Nat->Heap->Prop}{a b:Value}{Q:Value->Shared->Prop}(D1:Draws prog w A i1 f1 n1 P1 S1)(D2:Draws prog w A i2 f2 n2 P2 S2)(D:jM z TI TO i1 i2 f1 f2)
  (hz:IsZip s.heap z TI TO .none)(hTI:IsPair s.heap TI (.ref i1) (.ref i2))(hTO:IsPair s.heap TO a b)(t1:S1 k s.heap)(t2:S2 k s.heap)(hk1:k<n1)(hk2:k<n2)
  (hQ:∀x y h' tk,P1 k x->P2 k y->IsZip h' z TI TO (rawInt s.heap.objs.size)->IsPair h' TO x y->S1 (k+1) h'->S2 (k+1) h'->IsPair h' s.heap.objs.size x y->
   (∀c o,c≠z->c≠TO->c≠i1->c≠i2->s.heap.get? c=some o->h'.get? c=some o)->Q (.ref s.heap.objs.size) {s with heap:=h',toks:=tk}):
  wpAny (model prog w) A (Builtin.«zip.__next__» ⟨[.ref z],[]⟩) (fun fin s'=> ∃v,fin= .done (.ret v)/\Q v s') E s:=by
 show wpAny _ _ (field (.ref z) 2>>=_) _ _ _;refine zjZ (wpAny_field hz rfl (x:=.bool false) rfl ?_);show wpAny _ _ (field (.ref z) 3>>=_) _ _ _
 refine zjZ (wpAny_field hz rfl (x:=.ref TI) rfl (zjZ (wpAny_seqItems hTI rfl ?_)))
 show wpAny _ _ (Builtin.SmallTypes.ownedTupleIsFree (.ref z)>>=_) _ _ _;refine zjZ ?_;unfold Builtin.SmallTypes.ownedTupleIsFree
 refine zjZ (wpAny_field hz rfl (x:=.none) rfl (zjY ?_));simp only [if_true]
 refine zjZ (wpAny_rule (zjZ (wpAny_field hz rfl (x:=.ref TO) rfl (zjZ (wpAny_setField_rec hz (by simp) fun h₁ hz₁ hs₁=> ?_)))))
 replace hz₁:IsZip h₁ z TI TO .ellipsis:=hz₁
 refine zjZ ?_;simp only [zipIdx_cons,List.zipIdx_nil,forIn_cons,List.forIn_nil]
 refine zjZ (zjZ (wpAny_onRaise ?_));show wpAny _ _ (Builtin.SmallTypes.nextOf (.ref i1)>>=_) _ _ _
 have u1:S1 k h₁:=D1.frame k _ _ t1 fun c hc o e=>hs₁.extBut _ _ (fun q=>D.z1 (q▸hc)) e
 refine zjZ (D1.item k _ _ _ hk1 u1 fun x h₂ tk₂ hx v1 hs₂=>zjY ?_)
 have hTO₂:IsPair h₂ TO a b:=hs₂.extBut _ _ D.O1 (hs₁.extBut _ _ D.Oz hTO)
 refine zjZ (wpAny_seqItems hTO₂ rfl (zjZ (wpAny_updateSeq_pair hTO₂ fun h₃ hTO₃ hs₃=> ?_)))
 replace hTO₃:IsPair h₃ TO x b:=hTO₃
 refine zjZ (wpAny_letGo (zjY ?_));refine zjZ (zjZ (wpAny_onRaise ?_));show wpAny _ _ (Builtin.SmallTypes.nextOf (.ref i2)>>=_) _ _ _
 have u2:S2 k h₃:=D2.frame k _ _ t2 fun c hc o e=>hs₃.extBut _ _ (fun q=>D.o2 (q▸hc)) (hs₂.extBut _ _ (fun q=>D.c1 (q▸hc)) (hs₁.extBut _ _ (fun q=>D.z2 (q▸hc)) e))
 refine zjZ (D2.item k _ _ _ hk2 u2 fun y h₄ tk₄ hy v2 hs₄=>zjY ?_)
 have hTO₄:IsPair h₄ TO x b:=hs₄.extBut _ _ D.O2 hTO₃
 refine zjZ (wpAny_seqItems hTO₄ rfl (zjZ (wpAny_updateSeq_pair hTO₄ fun h₅ hTO₅ hs₅=> ?_)))
 replace hTO₅:IsPair h₅ TO x y:=hTO₅
 refine zjZ (wpAny_letGo (zjY (zjY ?_)));refine zjZ (wpAny_seqItems hTO₅ rfl (zjZ (wpAny_newTuple ?_)))
 have hsz:h₅.objs.size=s.heap.objs.size:=by rw [hs₅.1,hs₄.1,hs₃.1,hs₂.1,hs₁.1]
 have hz₅:IsZip h₅ z TI TO .ellipsis:=hs₅.extBut _ _ D.Oz.symm (hs₄.extBut _ _ D.jz.symm (hs₃.extBut _ _ D.Oz.symm (hs₂.extBut _ _ D.iz.symm hz₁)))
 have hk₅:∀c o,c≠z->c≠TO->c≠i1->c≠i2->s.heap.get? c=some o->h₅.get? c=some o:=fun c o e1 e2 e3 e4 e=>hs₅.extBut _ _ e2 (hs₄.extBut _ _ e4 (hs₃.extBut _ _ e2 (hs₂.extBut _ _ e3 (hs₁.extBut _ _ e1 e))))
 have w1:S1 (k+1) h₅:=D1.frame _ _ _ v1 fun c hc o e=>hs₅.extBut _ _ (fun q=>D.o1 (q▸hc)) (hs₄.extBut _ _ (fun q=>D.c2 (q▸hc)) (hs₃.extBut _ _ (fun q=>D.o1 (q▸hc)) e))
 have w2:S2 (k+1) h₅:=D2.frame _ _ _ v2 fun c hc o e=>hs₅.extBut _ _ (fun q=>D.o2 (q▸hc)) e
 have hzlt:z<h₅.objs.size:=zjT hz₅
 show wpAny _ _ (Builtin.SmallTypes.ownedTupleHandOut (.ref z) (.ref h₅.objs.size)>>=_) _ _ _;refine zjZ ?_;unfold Builtin.SmallTypes.ownedTupleHandOut
 have hz₆:IsZip (h₅.push {cls:=.type "tuple",data:=.seq #[x,y]}) z TI TO .ellipsis:=zjX _ hz₅
 refine zjZ (wpAny_setField_rec hz₆ (by simp) fun h₇ hz₇ hs₇=> ?_);replace hz₇:IsZip h₇ z TI TO (rawInt h₅.objs.size):=hz₇
 refine wpAny_setField_rec hz₇ (by simp) fun h₈ hz₈ hs₈=> ?_;replace hz₈:IsZip h₈ z TI TO (rawInt h₅.objs.size):=hz₈
 have up:∀c o,c≠z->h₅.get? c=some o->h₈.get? c=some o:=fun c o e1 e=>hs₈.extBut _ _ e1 (hs₇.extBut _ _ e1 (zjX _ e))
 have hT₈:IsPair h₈ h₅.objs.size x y:=hs₈.extBut _ _ (ne_of_gt hzlt) (hs₇.extBut _ _ (ne_of_gt hzlt) (get?_push_size _ rfl))
 rw [hsz]at hz₈ hT₈
 refine zjY ⟨_,rfl,?_⟩;show Q (.ref h₅.objs.size) _;rw [hsz]
 exact hQ x y h₈ _ hx hy hz₈ (up _ _ D.Oz hTO₅) (D1.frame _ _ _ w1 fun c hc o e=>up c o (fun q=>D.z1 (q▸hc)) e) (D2.frame _ _ _ w2 fun c hc o e=>up c o (fun q=>D.z2 (q▸hc)) e) hT₈ fun c o e1 e2 e3 e4 e=>up c o e1 (hk₅ c o e1 e2 e3 e4 e)
theorem A92 {z TI TO i1 i2:Addr}{f1 f2:List Addr}{n1:Nat}{P1:Nat->Value->Prop}{S1:Nat->Heap->Prop}{Q:Fin->Shared->Prop}(D1:Draws prog w A i1 f1 n1 P1 S1)(D:jM z TI TO i1 i2 f1 f2)
  (hz:IsZip s.heap z TI TO .none)(hTI:IsPair s.heap TI (.ref i1) (.ref i2))(t1:S1 n1 s.heap)
  (hE:∀h' e,(∀c o,c≠z->c≠i1->s.heap.get? c=some o->h'.get? c=some o)->(∃o,h'.get? e=some o/\o.cls= .type "StopIteration")->E (.ref e) {s with heap:=h'}):
  wpAny (model prog w) A (Builtin.«zip.__next__» ⟨[.ref z],[]⟩) Q E s:=by
 show wpAny _ _ (field (.ref z) 2>>=_) _ _ _;refine zjZ (wpAny_field hz rfl (x:=.bool false) rfl ?_);show wpAny _ _ (field (.ref z) 3>>=_) _ _ _
 refine zjZ (wpAny_field hz rfl (x:=.ref TI) rfl (zjZ (wpAny_seqItems hTI rfl ?_)))
 show wpAny _ _ (Builtin.SmallTypes.ownedTupleIsFree (.ref z)>>=_) _ _ _;refine zjZ ?_;unfold Builtin.SmallTypes.ownedTupleIsFree
 refine zjZ (wpAny_field hz rfl (x:=.none) rfl (zjY ?_));simp only [if_true]
 refine zjZ (wpAny_rule (zjZ (wpAny_field hz rfl (x:=.ref TO) rfl (zjZ (wpAny_setField_rec hz (by simp) fun h₁ hz₁ hs₁=> ?_)))))
 replace hz₁:IsZip h₁ z TI TO .ellipsis:=hz₁
 refine zjZ ?_;simp only [zipIdx_cons,List.zipIdx_nil,forIn_cons,List.forIn_nil]
 refine zjZ (zjZ (wpAny_onRaise ?_));show wpAny _ _ (Builtin.SmallTypes.nextOf (.ref i1)>>=_) _ _ _
 have u1:S1 n1 h₁:=D1.frame n1 _ _ t1 fun c hc o e=>hs₁.extBut _ _ (fun q=>D.z1 (q▸hc)) e
 refine zjZ (D1.done _ _ _ u1 fun h₂ e hs₂ he=> ?_)
 obtain⟨oe,hoe,hce⟩:=he
 have hz₂:IsZip h₂ z TI TO .ellipsis:=hs₂ _ _ D.iz.symm hz₁
 have hez:e≠z:=fun x=>by subst x;rw [hz₂]at hoe;cases hoe;simp at hce
 refine wpAny_setField_rec hz₂ (by simp) fun h₃ _ hs₃=>hE h₃ e (fun c o c1 c3 x=>hs₃.extBut _ _ c1 (hs₂ _ _ c3 (hs₁.extBut _ _ c1 x))) ⟨oe,hs₃.extBut _ _ hez hoe,hce⟩
theorem vJ {z TI TO i1 i2:Addr}{f1 f2:List Addr}{n1 n2 k:Nat}{P1 P2:Nat->Value->Prop}{S1 S2:Nat->Heap->Prop}{a b:Value}{Q:Option Value->Shared->Prop}(D1:Draws prog w A.in1 i1 f1 n1 P1 S1)(D2:Draws prog w A.in1 i2 f2 n2 P2 S2)(D:jM z TI TO i1 i2 f1 f2)
  (hz:IsZip s.heap z TI TO .none)(hTI:IsPair s.heap TI (.ref i1) (.ref i2))(hTO:IsPair s.heap TO a b)(t1:S1 k s.heap)(t2:S2 k s.heap)(hk1:k<n1)(hk2:k<n2)
  (hQ:∀x y h' tk,P1 k x->P2 k y->IsZip h' z TI TO (rawInt s.heap.objs.size)->IsPair h' TO x y->S1 (k+1) h'->S2 (k+1) h'->IsPair h' s.heap.objs.size x y->
   (∀c o,c≠z->c≠TO->c≠i1->c≠i2->s.heap.get? c=some o->h'.get? c=some o)->Q (some (.ref s.heap.objs.size)) {s with heap:=h',toks:=tk}):
  wpAny (model prog w) A (pyNext (.ref z)) Q E s:=by
 have hT:s.TypeIs (.ref z) "zip":=⟨_,hz,rfl⟩
 unfold pyNext
 exact zjZ (wpAny_attempt (wpAny_callSpecial?_slot (name:=Str.ofString "__next__") hT F.slot_zip_next (wpAny_call_entry F.slot_zip_next hT F.entry_zip_next
   (A7r D1 D2 D hz hTI hTO t1 t2 hk1 hk2 fun x y h' tk q1 q2 a1 a2 a3 a4 a5 a6=>zjY (hQ x y h' tk q1 q2 a1 a2 a3 a4 a5 a6)) (F.args_zip_next_1 _))))
theorem xO {z TI TO i1 i2:Addr}{f1 f2:List Addr}{n1:Nat}{P1:Nat->Value->Prop}{S1:Nat->Heap->Prop}{Q:Option Value->Shared->Prop}(D1:Draws prog w A.in1 i1 f1 n1 P1 S1)(D:jM z TI TO i1 i2 f1 f2)
  (hz:IsZip s.heap z TI TO .none)(hTI:IsPair s.heap TI (.ref i1) (.ref i2))(t1:S1 n1 s.heap)
  (hQ:∀h',(∀c o,c≠z->c≠i1->s.heap.get? c=some o->h'.get? c=some o)->Q none {s with heap:=h'}):wpAny (model prog w) A (pyNext (.ref z)) Q E s:=by
 have hT:s.TypeIs (.ref z) "zip":=⟨_,hz,rfl⟩
 unfold pyNext
 refine zjZ (wpAny_attempt (wpAny_callSpecial?_slot (name:=Str.ofString "__next__") hT F.slot_zip_next (wpAny_call_entry F.slot_zip_next hT F.entry_zip_next (A92 D1 D hz hTI t1 fun h' e hk he=> ?_) (F.args_zip_next_1 _))))
 obtain⟨o,ho,hc⟩:=he
 exact zjZ (wpAny_isInstance (T:="StopIteration") (b:=true) ⟨o,ho,hc⟩ isSubtype_stop (zjY (hQ _ hk)))
end
abbrev zT1 (h:Heap)(l1:Addr):Heap:=h.push {cls:=.type "tuple_iterator",data:=.fields #[.ref l1,.int 0 0]}
abbrev zT2 (h:Heap)(l1 l2:Addr):Heap:=(zT1 h l1).push {cls:=.type "tuple_iterator",data:=.fields #[.ref l2,.int 0 0]}
abbrev zT3 (h:Heap)(l1 l2:Addr):Heap:=(zT2 h l1 l2).push {cls:=.type "tuple",data:=.seq #[.ref h.objs.size,.ref (zT1 h l1).objs.size]}
abbrev zT4 (h:Heap)(l1 l2:Addr):Heap:=(zT3 h l1 l2).push {cls:=.type "tuple",data:=.seq #[.none,.none]}
abbrev zT5 (h:Heap)(l1 l2:Addr):Heap:=(zT4 h l1 l2).push {cls:=.type "zip",data:=.fields #[.none,.bool false,.bool false,.ref (zT2 h l1 l2).objs.size,.ref (zT3 h l1 l2).objs.size]}
theorem zW (l1 l2:Addr)(xs ys:Array Value):
  Meets (Builtin.«zip.__new__» ⟨[.type "zip",.ref l1,.ref l2],[]⟩) (fun _ R s=>s.heap.IsTuple l1 xs/\s.heap.IsTuple l2 ys/\R (.ok (.ret (.ref (zT4 s.heap l1 l2).objs.size))) {s with heap:=zT5 s.heap l1 l2}):=
 .of_wp fun prog w A R s h=>by
  obtain⟨hp,g,d,tk,os⟩:=s;obtain⟨p1,p2,h⟩:=h
  have isz:=sub_zip
  have q1:Heap.IsTuple (Shared.heap ⟨hp,g,d,tk,os⟩) l1 xs:=p1
  have q2:Heap.IsTuple (Shared.heap ⟨hp.push {cls:=.type "tuple_iterator",data:=.fields #[.ref l1,.int 0 0]},g,d,tk,os⟩) l2 ys:=let ⟨o,ho,r⟩:=p2;⟨o,zjX _ ho,r⟩
  wp_walk using wpAny_pyIter_tuple q1,wpAny_pyIter_tuple q2
  exact⟨_,rfl,h⟩
section
variable {prog:Program}{w:World}{A:Around}{E:Value->Shared->Prop}{s:Shared}
theorem A28 {l1 l2:Addr}{xs ys:Array Value}{Q:Value->Shared->Prop}(p1:s.heap.IsTuple l1 xs)(p2:s.heap.IsTuple l2 ys)
  (h:∀h',IsZip h' (s.heap.objs.size+4) (s.heap.objs.size+2) (s.heap.objs.size+3) .none->IsPair h' (s.heap.objs.size+2) (.ref s.heap.objs.size) (.ref (s.heap.objs.size+1))->
   IsPair h' (s.heap.objs.size+3) .none .none->h'.IsTupleIter s.heap.objs.size l1 0->h'.IsTupleIter (s.heap.objs.size+1) l2 0->h'.objs.size=s.heap.objs.size+5->
   (∀c o,s.heap.get? c=some o->h'.get? c=some o)->Q (.ref (s.heap.objs.size+4)) {s with heap:=h'}):
  wpAny (model prog w) A (call (.type "zip") [.ref l1,.ref l2]) Q E s:=by
 refine callType_new F.called_zip (by decide) (F.typeCall_zip_2 _ _) (F.newCall_zip_2 _ _) (fun obj=>F.args_object_init_3 obj _ _) F.entry_zip_new (zW l1 l2 xs ys) ⟨p1,p2,?_⟩
 have y1:(zT1 s.heap l1).objs.size=s.heap.objs.size+1:=size_push ..
 have y2:(zT2 s.heap l1 l2).objs.size=s.heap.objs.size+2:=by rw [size_push,y1]
 have y3:(zT3 s.heap l1 l2).objs.size=s.heap.objs.size+3:=by rw [size_push,y2]
 have y4:(zT4 s.heap l1 l2).objs.size=s.heap.objs.size+4:=by rw [size_push,y3]
 have y5:(zT5 s.heap l1 l2).objs.size=s.heap.objs.size+5:=by rw [size_push,y4]
 have r5:(zT5 s.heap l1 l2).get? (zT4 s.heap l1 l2).objs.size=some _:=get?_push_size _ rfl
 have r4:(zT5 s.heap l1 l2).get? (zT3 s.heap l1 l2).objs.size=some _:=zjX _ (get?_push_size _ rfl)
 have r3:(zT5 s.heap l1 l2).get? (zT2 s.heap l1 l2).objs.size=some _:=zjX _ (zjX _ (get?_push_size _ rfl))
 have r2:(zT5 s.heap l1 l2).get? (zT1 s.heap l1).objs.size=some _:=zjX _ (zjX _ (zjX _ (get?_push_size _ rfl)))
 have r1:(zT5 s.heap l1 l2).get? s.heap.objs.size=some _:=zjX _ (zjX _ (zjX _ (zjX _ (get?_push_size _ rfl))))
 show _/\_
 rw [y2,y3,y4]at r5;rw [y1,y2]at r3;rw [y3]at r4;rw [y1]at r2;rw [y4]
 exact⟨⟨_,r5,rfl⟩,h _ r5 r3 r4 ⟨_,r1,rfl,rfl⟩ ⟨_,r2,rfl,rfl⟩ y5 fun c o x=>zjX _ (zjX _ (zjX _ (zjX _ (zjX _ x))))⟩
end
end PySem
namespace L2
open PySem PySem.Spec PyProof.Rows
structure SeqK where
 Sq:W.Frag->Hp->Addr->List V->Prop
 isq:Heap->Addr->Array Value->Prop
 iit:Heap->Addr->Addr->Nat->Prop
structure SeqK.Ok (k:SeqK):Prop where
 get:∀{X:Cx}{pins:List (Addr×Obj)}{σ:St}{H:Hp}{s:Shared}{a:Addr}{xs:List V},Inv X pins σ H s->k.Sq X.K H a xs->∃its:List Value,Vals xs its/\k.isq s.heap a its.toArray
 inj:∀{X:Cx}{pins:List (Addr×Obj)}{σ:St}{H:Hp}{s:Shared}{a:Addr}{xs ys:List V},Inv X pins σ H s->k.Sq X.K H a xs->k.Sq X.K H a ys->xs=ys
 lt:∀{h:Heap}{a:Addr}{its:Array Value},k.isq h a its->a<h.objs.size
 dr:∀{prog:Program}{w:World}{A:Around},A.handled=none->∀(it l:Addr),l≠it->∀items:Array Value,Draws prog w A it [it,l] items.size (fun i v=>items[i]?=some v) (fun i h=>k.iit h it l i/\k.isq h l items)
 obj:∀{h:Heap}{it l:Addr}{i:Nat},k.iit h it l i->∃o,h.get? it=some o/\∀v,o.data≠ .cell v
 «at»:∀{h h':Heap}{it l:Addr}{i:Nat},k.iit h it l i->(∀o,h.get? it=some o->h'.get? it=some o)->k.iit h' it l i
 zip:∀{prog:Program}{w:World}{A:Around}{E:Value->Shared->Prop}{s:Shared}{l1 l2:Addr}{xs ys:Array Value}{Q:Value->Shared->Prop},k.isq s.heap l1 xs->k.isq s.heap l2 ys->
  (∀h',IsZip h' (s.heap.objs.size+4) (s.heap.objs.size+2) (s.heap.objs.size+3) .none->IsPair h' (s.heap.objs.size+2) (.ref s.heap.objs.size) (.ref (s.heap.objs.size+1))->IsPair h' (s.heap.objs.size+3) .none .none->
   k.iit h' s.heap.objs.size l1 0->k.iit h' (s.heap.objs.size+1) l2 0->(∀c o,s.heap.get? c=some o->h'.get? c=some o)->Q (.ref (s.heap.objs.size+4)) {s with heap:=h'})->wpAny (model prog w) A (call (.type "zip") [.ref l1,.ref l2]) Q E s
def kL:SeqK:=⟨SqL,Heap.IsList,Heap.IsListIter⟩
def kT:SeqK:=⟨SqT,Heap.IsTuple,Heap.IsTupleIter⟩
theorem kL_ok:kL.Ok where
 get:=fun I h=>let ⟨its,r,p,_⟩:=I.list h;⟨its,r,p.isList⟩
 inj:=fun I h1 h2=>I.list_inj h1 h2
 lt:=fun p=>let ⟨o,ho,_⟩:=p;zjT ho
 dr:=fun hh it l hne items=>Draws.list hh it l hne items
 obj:=fun⟨o,e,c,d⟩=> ⟨o,e,fun v z=>by rw [d]at z;cases z⟩
 «at»:=fun x k=>Heap.IsListIter.at x k
 zip:=fun p1 p2 h=>call_zip_2 p1 p2 fun h' a1 a2 a3 a4 a5 _ a7=>h h' a1 a2 a3 a4 a5 a7
theorem kT_ok:kT.Ok where
 get:=fun I h=>let ⟨its,r,p,_⟩:=I.tuple h;⟨its,r,p⟩
 inj:=fun I h1 h2=>I.tuple_inj h1 h2
 lt:=fun p=>let ⟨o,ho,_⟩:=p;zjT ho
 dr:=fun hh it l hne items=>Draws.tuple hh it l hne items
 obj:=fun⟨o,e,c,d⟩=> ⟨o,e,fun v z=>by rw [d]at z;cases z⟩
 «at»:=fun x k=>Heap.IsTupleIter.at x k
 zip:=fun p1 p2 h=>A28 p1 p2 fun h' a1 a2 a3 a4 a5 _ a7=>h h' a1 a2 a3 a4 a5 a7
def Itz (S1 S2:Hp->List V->Prop):It:=
 ⟨fun i H=> ∃xs ys x y,S1 H xs/\S2 H ys/\xs[i]?=some x/\ys[i]?=some y,fun i H v H'=> ∃p x y,v= .ref p/\H p=none/\H'=upd H p (.tup [x,y])/\(∀xs,S1 H xs->xs[i]?=some x)/\∀ys,S2 H ys->ys[i]?=some y,fun i H=> ∃xs,S1 H xs/\xs.length=i⟩
theorem A4b {P:Program}{w:World}{K:W.Frag}{es:List Expr}{x1}{pos:Pos}{k:SeqK}(ok:k.Ok)(z TI TO i1 i2 a b:Addr)(D:jM z TI TO i1 i2 [i1,a] [i2,b])(ha:a≠i1)(hb:b≠i2):
  gB P w K (.Tuple es x1 pos) (Itz (fun H xs=>k.Sq K H a xs) fun H ys=>k.Sq K H b ys) [z,TI,TO,i1,i2] z (fun i h=>IsZip h z TI TO .none/\IsPair h TI (.ref i1) (.ref i2)/\(∃u v,IsPair h TO u v)/\k.iit h i1 a i/\k.iit h i2 b i)where
 mem:=by simp
 obj:=fun i h st c hc=>by
  obtain⟨hz,hTI,⟨u,v,hTO⟩,h1,h2⟩:=st
  simp only [mem_cons,not_mem_nil,or_false]at hc
  rcases hc with rfl|rfl|rfl|rfl|rfl
  ·exact⟨_,hz,fun v z=>by cases z⟩
  ·exact⟨_,hTI,fun v z=>by cases z⟩
  ·exact⟨_,hTO,fun v z=>by cases z⟩
  ·exact ok.obj h1
  ·exact ok.obj h2
 keep:=fun i h h' st kp=>by
  obtain⟨hz,hTI,⟨u,v,hTO⟩,h1,h2⟩:=st
  exact⟨kp z (by simp) _ hz,kp TI (by simp) _ hTI,⟨u,v,kp TO (by simp) _ hTO⟩,ok.at h1 fun o q=>kp i1 (by simp) o q,ok.at h2 fun o q=>kp i2 (by simp) o q⟩
 item:=by
  intro X hP hw hK hc i pins s σ H E I hf st hg
  subst hP hw hK
  obtain⟨hz,hTI,⟨u,v,hTO⟩,h1,h2⟩:=st
  obtain⟨xs,ys,x,y,q1,q2,e1,e2⟩:=hg
  obtain⟨its,rv,p1⟩:=ok.get I q1
  obtain⟨jts,rw',p2⟩:=ok.get I q2
  obtain⟨ux,hux,rx⟩:=rv.get e1
  obtain⟨uy,huy,ry⟩:=rw'.get e2
  have l1:i<its.toArray.size:=by rw [size_toArray];exact(zjW.mp hux).1
  have l2:i<jts.toArray.size:=by rw [size_toArray];exact(zjW.mp huy).1
  have hh:X.A.in1.handled=none:=by simp [I.ok.hd hc]
  refine vJ (ok.dr hh i1 a ha its.toArray) (ok.dr hh i2 b hb jts.toArray) D hz hTI hTO ⟨h1,p1⟩ ⟨h2,p2⟩ l1 l2 fun vx vy h' tk hvx hvy g1 g2 g3 g4 g5 g6=> ?_
  have ex:vx=ux:=by
   have e:its[i]?=some vx:=by simpa using hvx
   rw [hux]at e;exact(Option.some.inj e).symm
  have ey:vy=uy:=by
   have e:jts[i]?=some vy:=by simpa using hvy
   rw [huy]at e;exact(Option.some.inj e).symm
  subst ex ey
  refine⟨_,rfl,wpAny_letOwnedTupleGo_zip (s:={s with heap:=h',toks:=tk}) g1 fun h2' hz2 hs2=> ?_⟩
  have hn:H s.heap.objs.size=none:=I.hok.fresh (zjQ _)
  have lz:∀{c o},s.heap.get? c=some o->s.heap.objs.size≠c:=fun e=>ne_of_gt (zjT e)
  have li1:s.heap.objs.size≠i1:=let ⟨o,e,_⟩:=ok.obj h1;lz e
  have li2:s.heap.objs.size≠i2:=let ⟨o,e,_⟩:=ok.obj h2;lz e
  have kp:∀c o,c∉[z,TI,TO,i1,i2]->s.heap.get? c=some o->h2'.get? c=some o:=fun c o hc' q=>by
   have c1:c≠z:=fun e=>hc' (by simp [e])
   exact(hs2.2 c c1).trans (g6 c o c1 (fun e=>hc' (by simp [e])) (fun e=>hc' (by simp [e])) (fun e=>hc' (by simp [e])) q)
  have hT2:IsPair h2' s.heap.objs.size vx vy:=(hs2.2 _ (lz hz)).trans g5
  have I2:Inv X pins σ (upd H s.heap.objs.size (.tup [x,y])) {s with heap:=h2',toks:=tk}:=I.turnLaid (fp:=[z,TI,TO,i1,i2]) kp hf (zjQ _) ⟨by show 2<=sizeLine;rw [sizeLine_eq];decide,[vx,vy],.cons rx (.cons ry .nil),⟨_,hT2,rfl,_,rfl⟩⟩
  have hTI2:IsPair h2' TI (.ref i1) (.ref i2):=(hs2.2 _ D.Iz).trans (g6 _ _ D.Iz D.IO D.I1 D.I2 hTI)
  refine⟨.ref s.heap.objs.size,_,I2,rfl,⟨s.heap.objs.size,x,y,rfl,hn,rfl,fun zs hz'=>by rw [ok.inj I hz' q1];exact e1,fun zs hz'=>by rw [ok.inj I hz' q2];exact e2⟩,⟨hz2,hTI2,⟨_,_,(hs2.2 _ D.Oz).trans g2⟩,ok.at g3.1 fun o q=>(hs2.2 _ D.iz).trans q,ok.at g4.1 fun o q=>(hs2.2 _ D.jz).trans q⟩,fun c hc'=> ?_⟩
  have hcz:c≠s.heap.objs.size:=by
   simp only [mem_cons,not_mem_nil,or_false]at hc'
   rcases hc' with rfl|rfl|rfl|rfl|rfl
   ·exact(lz hz).symm
   ·exact(lz hTI).symm
   ·exact(lz hTO).symm
   ·exact li1.symm
   ·exact li2.symm
  rw [aQ hcz];exact(hf c hc').1
 done:=by
  intro X hP hw hK hc i pins s σ H E I hf st hg
  subst hP hw hK
  obtain⟨hz,hTI,⟨u,v,hTO⟩,h1,h2⟩:=st
  obtain⟨xs,q1,hx⟩:=hg
  obtain⟨its,rv,p1⟩:=ok.get I q1
  have hl:=rv.length
  have hi:its.toArray.size=i:=by rw [size_toArray,←hl,hx]
  have hh:X.A.in1.handled=none:=by simp [I.ok.hd hc]
  refine xO (ok.dr hh i1 a ha its.toArray) D hz hTI (by rw [hi];exact⟨h1,p1⟩) fun h' hk=> ⟨rfl,?_⟩
  exact I.turnedL (fp:=[z,TI,TO,i1,i2]) (t':=s.toks) (fun c o hc' q=>hk c o (fun e=>hc' (by simp [e])) (fun e=>hc' (by simp [e])) q) hf
 self:=fun _ _ _ _ _ st h=>wpAny_pyIter_zip st.1 h
def A0b (k:SeqK)(K:W.Frag)(ta:TA):TI:=fun σ H R=>ta σ H fun vs H1=> ∃a b xs ys,vs=[.ref a,.ref b]/\k.Sq K H1 a xs/\k.Sq K H1 b ys/\R (Itz (fun H xs=>k.Sq K H a xs) fun H ys=>k.Sq K H b ys) H1
section
variable {X:Cx}
theorem xS {a b:Expr}{ta:TA}{p pos:Pos}{es:List Expr}{x1}{tpos:Pos}{k:SeqK}(ok:k.Ok)(hg:Gl X "zip")(hm:X.mg "zip" =none)(ha:PA X [a,b] ta)(hs:starEach [a,b] X.env=[(false,eval a X.env),(false,eval b X.env)]:=by rfl)(hs2:starEach [b] X.env=[(false,eval b X.env)]:=by rfl):
  PI X (.Tuple es x1 tpos) (.Call (.Name "zip" p) [a,b] [] pos) (A0b k X.K ta):=by
 intro pins s σ H R I h
 refine Call_ (iZ I hg hm boot_zip (PyProof.Rows.callWith_type1 (thn (ha pos pins s σ H _ I h) fun us s1 ⟨vs,H1,I1,r1,q1⟩=> ?_) (by rw [hs,hs2]) (by rw [hs2];rfl)))
 obtain⟨a',b',xs,ys,e,q1,q2,q⟩:=q1
 subst e
 obtain⟨u,v,rfl,rx,ry⟩:=kK r1
 cases rx
 cases ry
 obtain⟨its,rv,p1⟩:=ok.get I1 q1
 obtain⟨jts,rw',p2⟩:=ok.get I1 q2
 have l1:=ok.lt p1
 have l2:=ok.lt p2
 refine ok.zip p1 p2 fun h' a1 a2 a3 a4 a5 a7=> ?_
 refine wpAny_pyIter_zip (s:={s1 with heap:=h'}) a1 ?_
 have I2:Inv X pins σ H1 {s1 with heap:=h'}:=I1.kept (t':=s1.toks) a7
 have far:=wC s1.heap.objs.size a' b' l1 l2
 refine⟨s1.heap.objs.size+4,[s1.heap.objs.size+4,s1.heap.objs.size+2,s1.heap.objs.size+3,s1.heap.objs.size,s1.heap.objs.size+1],_,_,H1,rfl,I2,A4b ok _ _ _ _ _ a' b' far (ne_of_lt l1) (ne_of_lt (lt_succ_of_lt l2)),⟨a1,a2,⟨_,_,a3⟩,a4,a5⟩,fun c hc'=> ?_,q⟩
 have hge:s1.heap.objs.size<=c:=by
  simp only [mem_cons,not_mem_nil,or_false]at hc'
  rcases hc' with rfl|rfl|rfl|rfl|rfl
  ·exact le_add_right _ 4
  ·exact le_add_right _ 2
  ·exact le_add_right _ 3
  ·exact zjQ _
  ·exact le_succ _
 exact I1.fpOk hge (I1.hok.fresh hge)
theorem vR {S1 S2:Hp->List V->Prop}{xs ys:List V}{g:TG}{tb:TS}{D:bK}{σ:St}{H:Hp}(hlen:xs.length=ys.length)(Pv:Nat->St->Hp->Prop)(h0:Pv 0 σ H)(hl:∀i σ H,Pv i σ H->S1 H xs/\S2 H ys)
  (hs:∀i x y p σ H,xs[i]?=some x->ys[i]?=some y->Pv i σ H->H p=none->g (.ref p) σ (upd H p (.tup [x,y])) fun σ2 H2=>tb {D with nx:=Pv (i+1),ct:=Pv (i+1),bk:=D.nx} σ2 H2)(hd:∀σ H,Pv xs.length σ H->D.nx σ H):
  dZ (Itz S1 S2) g tb D σ H:=by
 refine⟨fun i m σ H=>m=xs.length - i/\i<=xs.length/\Pv i σ H,⟨xs.length,by simp,zero_le _,h0⟩,?_⟩
 rintro i m σ H ⟨rfl,hi,p⟩
 obtain⟨q1,q2⟩:=hl i σ H p
 by_cases hlt:i<xs.length
 ·have hlt2:i<ys.length:=by omega
  refine .inr ⟨⟨xs,ys,xs[i],ys[i],q1,q2,by simp [hlt],by simp [hlt2]⟩,Pv (i+1),fun σ' H' p'=> ⟨xs.length -(i+1),by omega,rfl,hlt,p'⟩,fun x H' y=> ?_⟩
  obtain⟨pp,a,b,e1,e2,e3,e4,e5⟩:=y
  subst e1 e3
  exact hs i a b pp σ H (e4 xs q1) (e5 ys q2) p e2
 ·have e:i=xs.length:=by omega
  subst e
  exact .inl ⟨⟨xs,q1,rfl⟩,hd σ H p⟩
end
section
variable {X:Cx}
theorem A7l {pins:List (Addr×Obj)}{σ:St}{H:Hp}{s:Shared}{A:Around}{a p:Addr}{c d:Int×Int}(I:Inv X pins σ H s)(hu:A.units<cLine)(ha:H a=some (.tup [.int d.1,.int d.2]))(hp:H p=some (.tup [.int c.1,.int c.2])):SeqAt.EqAt A s (.ref a) (.ref p) (decide (d=c)):=by
 by_cases hap:a=p
 ·subst hap
  rw [ha]at hp
  have e:d=c:=by
   injection hp with z;injection z with z;injection z with z1 z2;injection z2 with z2 _
   exact Prod.ext (V.int.inj z1) (V.int.inj z2)
  rw [zjV e]
  exact SeqAt.EqAt.same _
 ·obtain⟨its,r1,p1,_⟩:=I.tuple (SqT.of ha)
  obtain⟨jts,r2,p2,_⟩:=I.tuple (SqT.of hp)
  obtain⟨x1,x2,rfl,⟨t1,rfl⟩,⟨t2,rfl⟩⟩:=r1.two
  obtain⟨y1,y2,rfl,⟨u1,rfl⟩,⟨u2,rfl⟩⟩:=r2.two
  have key:SeqAt.RcAt A s (.ref a) (.ref p) ((List.range (min 2 2)).all (fun j=>if j=0 then d.1==c.1 else d.2==c.2)&&(2:Nat)==2):=SeqAt.RcAt.tuples (items:=#[.int d.1 t1,.int d.2 t2]) (items2:=#[.int c.1 u1,.int c.2 u2]) p1 p2 hu fun j h1 h2=>by
   match j,h1,h2 with
   |0,_,_=>exact SeqAt.EqAt.int_int _ _ _ _
   |1,_,_=>exact SeqAt.EqAt.int_int _ _ _ _
  have e:((List.range (min 2 2)).all (fun j=>if j=0 then d.1==c.1 else d.2==c.2)&&(2:Nat)==2)=decide (d=c):=by
   obtain⟨d1,d2⟩:=d
   obtain⟨c1,c2⟩:=c
   show(List.all [0,1] _&&true)=_
   simp only [all_cons,List.all_nil,Bool.and_true,if_true,Nat.one_ne_zero,if_false]
   rw [Bool.eq_iff_iff]
   simp
  rw [e]at key
  exact SeqAt.EqAt.of_refs hap key
theorem A6e (hu:X.A.units<cLine):OpR X (compareOp .Eq) (fun x y H Q=> ∃a b bs,x= .ref a/\y= .ref b/\H a=some (.lst ((bs:List Bool).map V.bl))/\H b=some (.lst (bs.map V.bl))/\Q (.bl true) H):=by
 intro pins s σ H x y v u Q I rx ry h
 obtain⟨a,b,bs,rfl,rfl,ha,hb,q⟩:=h
 cases rx
 cases ry
 obtain⟨its,r1,p1,_⟩:=I.list (SqL.of ha)
 obtain⟨jts,r2,p2,_⟩:=I.list (SqL.of hb)
 have e:its=jts:=by
  have go:∀(bs:List Bool)(us ws:List Value),Vals (bs.map V.bl) us->Vals (bs.map V.bl) ws->us=ws:=by
   intro bs
   induction bs with
   |nil=>intro us ws h1 h2;cases h1;cases h2;rfl
   |cons b bs ih=>
    intro us ws h1 h2
    cases h1 with
    |cons a1 a2=>
     cases h2 with
     |cons b1 b2=>
      rw [show _=Value.bool b from a1,show _=Value.bool b from b1,ih _ _ a2 b2]
  exact go bs its jts r1 r2
 subst e
 refine SeqAt.eq_listAt (e:=fun _=>true) p1.isList p2.isList rfl hu (fun j h1 h2=>SeqAt.EqAt.same _) ⟨.bl true,H,I,?_,q⟩
 show Value.bool _=Value.bool true
 congr 1
 simp
end
theorem ObjOk.isThere {P:Program}{w:World}{H:Hp}{h:Heap}{a:Addr}{o:HO}(x:ObjOk P w H h a o):∃u,h.get? a=some u:=by
 cases o with
 |lst xs=>obtain⟨_,_,_,_,e⟩:=x;exact⟨_,e⟩
 |tup xs=>obtain⟨_,_,_,u,e,_⟩:=x;exact⟨u,e⟩
 |dK kvs=>obtain⟨_,_,_,_,o,_,_,e,_⟩:=x;exact⟨_,e⟩
 |dT kvs=>obtain⟨_,_,_,_,o,_,_,e,_⟩:=x;exact⟨_,e⟩
 |set S n=>obtain⟨o,_,_,_,e,_⟩:=x;exact⟨_,e⟩
 |ins C dx fs=>obtain⟨_,_,_,e,_⟩:=x;exact⟨_,e⟩
 |own y=>exact x
 |xd fs=>obtain⟨_,⟨_,_,_,e,_⟩,_⟩:=x;exact⟨_,e⟩
 |rng lo hi=>obtain⟨_,_,_,e⟩:=x;exact⟨_,e⟩
 |frz ob u=>obtain⟨e,_⟩:=x;exact⟨_,e⟩
 |tbl ps=>exact⟨_,(show h.get? a=some _ from x)⟩
 |met f y=>exact⟨_,(show h.get? a=some _ from x)⟩
 |ext φ=>obtain⟨_,e,_⟩:=x;exact e
theorem HOk.tracked {P:Program}{w:World}{H:Hp}{h h':Heap}(ok:HOk P w H h)(k:∀b u o,H b=some u->h.get? b=some o->h'.get? b=some o):HOk P w H h':=fun a o e=>
 (ok a o e).stay (fun b u hb q=>by
  rcases hb with z|z
  ·subst z;exact k _ _ _ e q
  ·exact k _ _ _ z q) (fun _ q=>q) fun _ _ q=>q
structure Fly (P:Program)(w:World)(outer:List Env)(H:Hp)(s:Shared)(e:Addr)(cls:Value)(H':Hp)(s':Shared):Prop where
 os:s'.os=s.os
 bare:AllBare s'.gens
 un:Un (frs outer) [] H H' s.heap s'.heap
 hok:HOk P w H' s'.heap
 fly:∃B a0,Heap.FlyingW B outer e cls a0 s'.heap/\(∀b o,s.heap.get? b=some o->H b=none->b∉frs outer->B.get? b=some o)/\(∀b o,s.heap.get? b=some o->b∉frs outer->∃o',B.get? b=some o')/\∀b u,H' b=some u->∃o,B.get? b=some o
def CX1 (P:Program)(w:World):CXT:=fun outer H s E e s'=> ∃a cls H',e= .ref a/\Fly P w outer H s a cls H' s'/\E cls none H'
theorem yD {env:Env}{l:List Env}{b:Addr}(h:b∈frs l):b∈frs (env::l):=by
 obtain⟨e,he,hb⟩:=mem_filterMap.mp h
 exact mem_filterMap.mpr ⟨e,zjS _ he,hb⟩
section
variable {X:Cx}{pins:List (Addr×Obj)}{σ:St}{H H':Hp}{s s':Shared}{cls:Value}{e:Addr}{Q:Unit->Shared->Prop}{E':Value->Shared->Prop}
theorem Inv.notOwn (I:Inv X pins σ H s){b:Addr}{o:Obj}(q:X.s₀.heap.get? b=some o)(hb:b∉X.fs):b∉frs X.stack:=fun hm=>by
 rcases mem_cons.mp (I.stkSub b hm)with z|z
 ·exact absurd (lt_of_lt_of_le (zjT q) I.ok.above) (by rw [z];exact lt_irrefl _)
 ·exact hb z
theorem A82 (I:Inv X pins σ H s)(hs:X.stack=X.env::X.outer)(hf:X.env.frame=some X.env.locals)(hex:X.ex=[]){h1:Heap}{args:List Value}(hx:Heap.MadeExcOf s.heap h1 e cls args)
  (k:∀h',Fly X.prog X.w X.outer X.H₀ X.s₀ e cls H {s with heap:=h'}->Q () {s with heap:=h'}):wpAny (model X.prog X.w) X.A (leaving X.env (.ref e)) Q E' {s with heap:=h1}:=by
 have st:s.heap.FunFrames X.base X.stack:=I.stack
 have hin:∀env∈X.stack,∀b,env.frame=some b->b∈frs X.stack:=fun env he b hb=>mem_filterMap.mpr ⟨env,he,hb⟩
 have fB:=W.funFrames_hide (as:=frs X.stack) st hin
 have hfr:=I.ok.frames
 rw [hs]at hfr fB
 refine wpAny_leaves_madeW (base:=W.hideAll s.heap (frs X.stack)) (h:=s.heap) hfr hf (fun b o q=>W.of_hideAll _ q) (by rw [hs];exact fB) hx fun h' t x1 x2 x3 x4=>k h' ?_
 have nex:∀b,b∉X.ex:=fun b hb=>by rw [hex]at hb;cases hb
 have kB:∀b o,s.heap.get? b=some o->b∉frs X.stack->(W.hideAll s.heap (frs X.stack)).get? b=some o:=fun b o q n=>W.hideAll_get _ q n
 have kS:∀b o,s.heap.get? b=some o->b∈frs X.stack->∃sl,h'.get? b=some {o with slots:=sl}:=fun b o q hb=>x4 b o (hx.keeps b o q) (by
  obtain⟨_,o',ho',hd⟩:=st.mem hb
  rw [q]at ho';cases ho';exact hd)
 have kT:∀b u,H b=some u->b∉frs X.stack:=fun b u q hb=>by
  have:=I.stkFree b hb
  rw [q]at this;cases this
 have up:∀{b:Addr},b∈X.fs->b∈frs X.stack:=fun hb=>by rw [hs];exact yD hb
 refine⟨I.os,I.bare,⟨fun b o q n hb _=> ?_,fun b o q n hb _=> ?_,fun b o q n _=>I.base.free b o q n (nex b),fun b o q _=> ?_,I.base.tups,I.base.frzs,I.base.tbls⟩,I.hok.tracked fun b u o q z=>x1.1 b o (kB b o z (kT b u q)),_,_,x1,fun b o q n hb=> ?_,fun b o q hb=> ?_,fun b u q=> ?_⟩
 ·exact x1.1 b o (kB b o (I.base.keep b o q n hb (nex b)) (I.notOwn q hb))
 ·obtain⟨sl,e1⟩:=I.base.slot b o q n hb (nex b)
  obtain⟨sl',e2⟩:=kS b _ e1 (up hb)
  exact⟨sl',e2⟩
 ·obtain⟨o',e1⟩:=I.base.there b o q (nex b)
  by_cases hm:b∈frs X.stack
  ·obtain⟨sl,e2⟩:=kS b o' e1 hm;exact⟨_,e2⟩
  ·exact⟨o',x1.1 b o' (kB b o' e1 hm)⟩
 ·exact kB b o (I.base.keep b o q n hb (nex b)) (I.notOwn q hb)
 ·obtain⟨o',e1⟩:=I.base.there b o q (nex b)
  exact⟨o',kB b o' e1 (I.notOwn q hb)⟩
 ·obtain⟨o,e1⟩:=(I.hok b u q).isThere
  exact⟨o,kB b o e1 (kT b u q)⟩
theorem Fly.over (I:Inv X pins σ H s)(hs:X.stack=X.env::X.outer)(hex:X.ex=[])(F:Fly X.prog X.w X.stack H s e cls H' s'){B:Heap}{a0:Value}(hfl:Heap.FlyingW B X.stack e cls a0 s'.heap)
  (g1:∀b o,s.heap.get? b=some o->H b=none->b∉frs X.stack->B.get? b=some o)(g2:∀b o,s.heap.get? b=some o->b∉frs X.stack->∃o',B.get? b=some o')(g3:∀b u,H' b=some u->∃o,B.get? b=some o)
  {h':Heap}(hfl':Heap.FlyingW B X.outer e cls a0 h')(hu:s'.heap.UpToSlots h'):Fly X.prog X.w X.outer X.H₀ X.s₀ e cls H' {s' with heap:=h'}:=by
 have nex:∀b,b∉X.ex:=fun b hb=>by rw [hex]at hb;cases hb
 have up:∀{b:Addr},b∈X.fs->b∈frs X.stack:=fun hb=>by rw [hs];exact yD hb
 have kS:∀b o,s'.heap.get? b=some o->b∈frs X.stack->∃sl,h'.get? b=some {o with slots:=sl}:=fun b o q hb=>hu b o q (by
  obtain⟨_,o',ho',hd⟩:=hfl.2.2.1.mem hb
  rw [q]at ho';cases ho';exact hd)
 refine⟨F.os.trans I.os,F.bare,⟨fun b o q n hb _=> ?_,fun b o q n hb _=> ?_,fun b o q n _=> ?_,fun b o q _=> ?_,fun b xs q=>F.un.tups b xs (I.base.tups b xs q),fun b o u q=>F.un.frzs b o u (I.base.frzs b o u q),fun b ps q=> ?_⟩,?_,B,a0,hfl',fun b o q n hb=> ?_,fun b o q hb=> ?_,g3⟩
 ·exact hfl'.1 b o (g1 b o (I.base.keep b o q n hb (nex b)) (I.base.free b o q n (nex b)) (I.notOwn q hb))
 ·obtain⟨sl,e1⟩:=I.base.slot b o q n hb (nex b)
  obtain⟨sl',e2⟩:=F.un.slot b _ e1 (I.base.free b o q n (nex b)) (up hb) (by simp)
  obtain⟨sl'',e3⟩:=kS b _ e2 (up hb)
  exact⟨sl'',e3⟩
 ·obtain⟨o',e1⟩:=I.base.there b o q (nex b)
  exact F.un.free b o' e1 (I.base.free b o q n (nex b)) (by simp)
 ·obtain⟨o',e1⟩:=I.base.there b o q (nex b)
  by_cases hm:b∈frs X.stack
  ·obtain⟨o2,e2⟩:=F.un.there b o' e1 (by simp)
   obtain⟨sl,e3⟩:=kS b o2 e2 hm;exact⟨_,e3⟩
  ·obtain⟨o2,e2⟩:=g2 b o' e1 hm
   exact⟨o2,hfl'.1 b o2 e2⟩
 ·obtain⟨m1,e1⟩:=I.base.tbls b ps q
  obtain⟨m2,e2⟩:=F.un.tbls b _ e1
  exact⟨m1++m2,by rw [e2,Array.append_assoc]⟩
 ·refine F.hok.tracked fun b u o q z=> ?_
  obtain⟨o',e1⟩:=g3 b u q
  have:=hfl.1 b o' e1
  rw [z]at this;cases this
  exact hfl'.1 b _ e1
 ·exact g1 b o (I.base.keep b o q n hb (nex b)) (I.base.free b o q n (nex b)) (I.notOwn q hb)
 ·obtain⟨o',e1⟩:=I.base.there b o q (nex b)
  exact g2 b o' e1 (I.notOwn q hb)
theorem xX (I:Inv X pins σ H s)(hs:X.stack=X.env::X.outer)(hf:X.env.frame=some X.env.locals)(hex:X.ex=[])(F:Fly X.prog X.w X.stack H s e cls H' s')
  (k:∀h',Fly X.prog X.w X.outer X.H₀ X.s₀ e cls H' {s' with heap:=h'}->Q () {s' with heap:=h'}):wpAny (model X.prog X.w) X.A (leaving X.env (.ref e)) Q E' s':=by
 obtain⟨B,a0,hfl,g1,g2,g3⟩:=F.fly
 have hfr:=I.ok.frames
 have hfl1:=hfl
 rw [hs]at hfr hfl1
 exact wpAny_leaves_onW hfr hf hfl1 fun h' x1 x2=>k h' (Fly.over I hs hex F hfl g1 g2 g3 x1 x2)
end
theorem kX {P:Program}{w:World}{K:W.Frag}{mg:Str->Option Value}{base:Heap}{N:List Str}{qual:Str}{scope:Scope}{f:Addr}{cd:Value}{A:Around}{outer:List Env}{s:Shared}{H:Hp}{E:XK}:
  jR (CX1 P w) (cV (CX1 P w) P w K mg base N qual scope f cd A outer s H E) E:=by
 intro pins σ H1 s1 e s2 I h
 obtain⟨a,cls,H',rfl,F,q⟩:=h
 exact xX (X:=cV (CX1 P w) P w K mg base N qual scope f cd A outer s H E) I rfl rfl rfl F fun h' F'=> ⟨a,cls,H',rfl,F',q⟩
abbrev bmV:List Value:=[.type "ValueError",.type "Exception",.type "BaseException",.type "object"]
structure ExcC (K:W.Frag)(C:Addr):Prop where
 ex:W.excIn K C bmV "ValueError.__new__" =true
theorem ExcC.obj {K:W.Frag}{C:Addr}{h:Heap}(c:ExcC K C)(X:K.In h):∃bm N nm q bs hdct sn sub ab col dd k0 k1 k2 k3 k5 mN,
  h.get? C=some (excClassObj nm q C N bs bm hdct sn sub ab col dd k0 k1 k2 k3 k5 "ValueError.__new__")/\h.Ns N mN/\mN "__init__" =none/\OwnTail h bmV bm:=by
 have z:=c.ex
 unfold W.excIn at z
 split at z
 ·rename_i dct cdat slt look
  split at z
  ·rename_i C2 tl a0 a1 a2 a3 nid a5 m1 m2
   simp only [Bool.and_eq_true,beq_iff_eq,Bool.not_eq_true']at z
   obtain⟨⟨⟨⟨⟨rfl,rfl⟩,noDel⟩,tail⟩,isN⟩,noInit⟩:=z
   obtain⟨y1,y2,y3,y4,y5,y6,y7,y8,y9,y10,y11⟩:=cdat
   dsimp only at m1 noDel isN noInit
   subst m1 noDel
   obtain⟨ls⟩:=slt
   replace m2:ls=_:=m2
   subst m2
   refine⟨tl,y4,y1,y5,y2,y6,y7,y8,y9,y10,dct,a0,a1,a2,a3,a5,_,X _ _ look,?_,W.nsMap_none_of_in X isN noInit,W.tail_of_in X tail⟩
   exact .of_isNs (W.isNs_of_in X isN)
  ·cases z
 ·cases z
section
variable {X:Cx}{x:Str}{z:Str}{j:Nat}{np p1 cpos pos:Pos}{C:Addr}{E:XK}
theorem wK (hxe:X.xe=fun e s'=>wpAny (model X.prog X.w) X.A (leaving X.env e) (fun _ s''=>CX1 X.prog X.w X.outer X.H₀ X.s₀ E e s'') (fun e' s''=>CX1 X.prog X.w X.outer X.H₀ X.s₀ E e' s'') s')
  (hs:X.stack=X.env::X.outer)(hf:X.env.frame=some X.env.locals)(hex:X.ex=[])(hc:X.calm=true)(hg:Gl X x)(hm:X.mg x=some (.ref C))(c:ExcC X.K C)(hd:(x==("__debug__":Str))=false:=by decide):
  PS X (.Raise (some (.Call (.Name x np) [.Constant (.str z) j p1] [] cpos)) none pos) (fun _ _ H=>E (.ref C) none H):=by
 intro pins s σ H D I h
 obtain⟨bm,N,nm,q,bs,hdct,sn,sub,ab,col,dd,k0,k1,k2,k3,k5,mN,hC,hN,hni,T⟩:=c.obj I.ok.mod.kin
 refine wpAny_Raise_call_subT (C:=C) (nm:=nm) (q:=q) (N:=N) (bs:=bs) (bm:=bm) (hdct:=hdct) (sn:=sn) (sub:=sub) (ab:=ab) (col:=col) (dd:=dd) (k0:=k0) (k1:=k1) (k2:=k2) (k3:=k3) (k5:=k5) PySem.F.excBase_ValueError (mN:=mN)
  (T.hasType PySem.F.excBase_ValueError.hasBase) (I.ok.hd hc) rfl hni (mG I hg hm ⟨rfl,?_⟩ hd)
 have ha:PA X [.Constant (.str z) j p1] (bZ (tC (.str z)) gZ):=bU iI aA
 refine Calls.evalArgs_plain (thn (ha cpos pins s σ H (fun vs H'=>H'=H/\vs=[.str z]) I ⟨rfl,rfl⟩) fun us s2 hA=> ?_)
 obtain⟨vs,H2,I2,rv,e1,e2⟩:=hA
 subst e1 e2
 have hl:=rv.length
 refine⟨rfl,?_,I2.bk _ _ hC,hN.keeps I2.bk,T.keeps I2.bk,fun h' e hx=> ?_⟩
 ·show us.length<=sizeLine
  rw [←hl];show 1<=sizeLine;decide
 ·rw [hxe]
  exact A82 I2 hs hf hex hx fun h2 F=> ⟨e,.ref C,_,rfl,F,h⟩
end
def Cx.within (X:Cx)(e:Addr)(oe:Obj):Cx:={X with A:=X.A.mark (some (.ref e)),calm:=false,pn:=(e,oe)::X.pn,xe:=fun _ _=>False}
def rD (X:Cx)(E:XK):Value->Shared->Prop:=fun v s'=> ∃pins σ H s e cls H',v= .ref e/\Inv X pins σ H s/\Fly X.prog X.w X.stack H s e cls H' s'/\E cls none H'
theorem A15 {X:Cx}{E:XK}:jR (CX1 X.prog X.w) (X.wish (rD X E)) E:=by
 intro pins σ H s e s' I h
 obtain⟨a,cls,H',rfl,F,q⟩:=h
 exact⟨pins,σ,H,s,a,cls,H',rfl,I.unwish,F,q⟩
section
variable {X:Cx}{pins:List (Addr×Obj)}{σ:St}{H H':Hp}{s s':Shared}{cls a0:Value}{e:Addr}{oe:Obj}{B h5:Heap}
theorem Inv.landed (I:Inv X pins σ H s)(F:Fly X.prog X.w X.stack H s e cls H' s')(hfl:Heap.FlyingW B X.stack e cls a0 s'.heap)
  (g1:∀b o,s.heap.get? b=some o->H b=none->b∉frs X.stack->B.get? b=some o)(g2:∀b o,s.heap.get? b=some o->b∉frs X.stack->∃o',B.get? b=some o')(g3:∀b u,H' b=some u->∃o,B.get? b=some o)
  (hB:B.StaysIn h5)(hu:s'.heap.UpToSlots h5):Inv X pins σ H' {s' with heap:=h5}:=by
 have kS:∀b o,s'.heap.get? b=some o->b∈frs X.stack->∃sl,h5.get? b=some {o with slots:=sl}:=fun b o q hb=>hu b o q (by
  obtain⟨_,o',ho',hd⟩:=hfl.2.2.1.mem hb
  rw [q]at ho';cases ho';exact hd)
 refine I.call' (s':={s' with heap:=h5}) (ch:=[]) F.os ⟨fun b o q n hb _=>hB b o (g1 b o q n hb),fun b o q n hb _=> ?_,fun b o q n _=>F.un.free b o q n (by simp),fun b o q _=> ?_,F.un.tups,F.un.frzs,F.un.tbls⟩ (F.hok.tracked fun b u o q z=> ?_) F.bare fun b z=>nomatch z
 ·obtain⟨sl,e2⟩:=F.un.slot b o q n hb (by simp)
  obtain⟨sl',e3⟩:=kS b _ e2 hb
  exact⟨sl',e3⟩
 ·by_cases hm:b∈frs X.stack
  ·obtain⟨o2,e2⟩:=F.un.there b o q (by simp)
   obtain⟨sl,e3⟩:=kS b o2 e2 hm;exact⟨_,e3⟩
  ·obtain⟨o2,e2⟩:=g2 b o q hm
   exact⟨o2,hB b o2 e2⟩
 ·obtain⟨o',e1⟩:=g3 b u q
  have:=hfl.1 b o' e1
  rw [z]at this;cases this
  exact hB b _ e1
theorem Inv.within (I:Inv X pins σ H s)(he:s.heap.get? e=some oe)(hn:H e=none)(hL:e≠X.env.locals)(hf:e∉X.fs)(hd:∀v,oe.data≠ .cell v):Inv (X.within e oe) pins σ H s:=
 ⟨⟨I.ok.mod,I.ok.kind,I.ok.glob,I.ok.blt,I.ok.above,I.ok.inj,I.ok.has,I.ok.cab,fun z=>(Bool.false_ne_true z).elim,I.ok.frames,I.ok.stk,I.ok.exf,I.ok.bs,I.ok.bsz,I.ok.noex,I.ok.exfs,I.ok.funs,I.ok.frf⟩,I.os,I.bare,I.base,I.loc,I.cell,I.free,I.freeC,
  fun p hp=>by
   rcases mem_append.mp hp with z|z
   ·rcases mem_cons.mp z with y|y
    ·subst y;exact⟨he,hn,hL,hf,hd⟩
    ·exact I.pin p (mem_append_left _ y)
   ·exact I.pin p (mem_append_right _ z),I.hok,I.len⟩
theorem Inv.suiteOver (hc:X.A.handled=none)(I:Inv (X.within e oe) [] σ H s)(hpn:X.pn=[]){h':Heap}{m:Str->Option Value}{t:Nat}(hN:h'.Ns X.env.locals m)(hs:Heap.SameBut X.env.locals s.heap h'):Inv X [] (replicate X.N.length none) H {s with heap:=h',toks:=t}:=by
 have below:∀b o,X.s₀.heap.get? b=some o->b≠X.env.locals:=fun b o q=>ne_of_lt (lt_of_lt_of_le (zjT q) I.ok.above)
 refine⟨⟨I.ok.mod,I.ok.kind,I.ok.glob,I.ok.blt,I.ok.above,I.ok.inj,I.ok.has,I.ok.cab,fun _=>hc,I.ok.frames,I.ok.stk,I.ok.exf,I.ok.bs,I.ok.bsz,I.ok.noex,I.ok.exfs,I.ok.funs,I.ok.frf⟩,I.os,I.bare,
  ⟨fun b o q n hb hx=>(hs.2 b (below b o q)).trans (I.base.keep b o q n hb hx),fun b o q n hb hx=>let ⟨sl,e1⟩:=I.base.slot b o q n hb hx;⟨sl,(hs.2 b (below b o q)).trans e1⟩,I.base.free,fun b o q hx=>let ⟨o',e1⟩:=I.base.there b o q hx;⟨o',(hs.2 b (below b o q)).trans e1⟩,I.base.tups,I.base.frzs,I.base.tbls⟩,
  ⟨m,hN,fun i x v _ e2 _=> ?_⟩,fun y c q=> ?_,I.free,I.freeC,fun p hp=> ?_,I.hok.tracked fun b u o q z=> ?_,by simp⟩
 ·rw [getElem?_replicate]at e2
  split at e2<;>cases e2
 ·obtain⟨w',z⟩:=I.cell y c q
  exact⟨w',z.sameBut hs (I.cne y c q)⟩
 ·rw [hpn]at hp;cases hp
 ·refine(hs.2 b fun y=> ?_).trans z
  have:=I.free
  rw [show(X.within e oe).env.locals=X.env.locals from rfl,←y,q]at this;cases this
end
section
variable {X:Cx}{E:XK}{R:VK}{y n:Str}{i:Nat}{Cy:Addr}{b₀:Stmt}{suite:List Stmt}{np hp:Pos}{tS:Addr->Obj->TS}
theorem A0p (hs:X.stack=X.env::X.outer)(hf:X.env.frame=some X.env.locals)(hpn:X.pn=[])(hcalm:X.calm=true)(hy:Gl X y)(hm:X.mg y=some (.ref Cy))(hN:X.N.Nodup)(hi:X.N[i]?=some n)(hn:X.env.scope.names.lookup n=some .local)
  (hk:∀cls H',E cls none H'->W.exmOne X.K cls (.ref Cy)=some true)(hS:∀e oe,PSs (X.within e oe) (b₀::suite) (tS e oe))
  (q:∀e oe cls H',oe.cls=cls->E cls none H'->tS e oe {nx:=fun _ _=>False,rt:=R} ((replicate X.N.length none).set i (some (.ref e))) H')(hdb:(y==("__debug__":Str))=false){D:bK}(hD:D.rt=R){v:Value}{s':Shared}(h:rD X E v s'):
  wpAny (model X.prog X.w) X.A (noteFrame v X.env) (fun _ s₂=>wpAny (model X.prog X.w) X.A (setFlight v none) (fun _ s₃=>wpAny (model X.prog X.w) X.A (handleBy v X.env [.ExceptHandler (some (.Name y np)) (some n) (b₀::suite) hp]) (SP X [] D) X.xe s₃) X.xe s₂) X.xe s':=by
 obtain⟨pins,σ,H,s,e,cls,H',rfl,I,F,qE⟩:=h
 obtain⟨B,a0,hfl,g1,g2,g3⟩:=F.fly
 have hfr:=I.ok.frames
 have hfl1:=hfl
 rw [hs]at hfr hfl1
 have heH:H' e=none:=by
  cases z:H' e with
  |none=>rfl
  |some u=>
   obtain⟨o,e1⟩:=g3 e u z
   rw [hfl.2.1]at e1;cases e1
 have obj:∀{h:Heap},Heap.FlyingW B (X.env::X.outer) e cls a0 h->Inv X pins σ H' {s' with heap:=h}->∃oe,oe.cls=cls/\h.get? e=some oe/\∀{pins' σ'},Inv X pins' σ' H' {s' with heap:=h}->Inv (X.within e oe) pins' σ' H' {s' with heap:=h}:=fun{h} fl J=>by
  obtain⟨oe,vs,ho,hc,hd,_⟩:=fl.first
  refine⟨oe,hc,ho,fun J'=>J'.within ho heH ?_ ?_ ?_⟩
  ·intro z
   obtain⟨m,⟨o2,es,ep,ho2,hd2,_⟩,_⟩:=J'.loc
   rw [←z,ho]at ho2;cases ho2
   rw [hd]at hd2;cases hd2
  ·intro z
   obtain⟨_,o2,ho2,hd2⟩:=J'.funs.mem z
   rw [ho]at ho2;cases ho2
   exact hd2 _ hd
  ·intro v z
   rw [hd]at z;cases z
 refine wpAny_looks_onW hfr hf hfl1 fun h₄ held₄ sm₄=>wpAny_landsW held₄ fun h₅ fl₅ sm₅=> ?_
 have I5:Inv X pins σ H' {s' with heap:=h₅}:=I.landed F hfl g1 g2 g3 fl₅.1 (sm₄.trans sm₅)
 obtain⟨o5,c5,he5,w5⟩:=obj fl₅ I5
 have LT:W.Looks (model X.prog X.w) h₅ (typeOf (.ref e)) cls:=c5▸(W.Looks.ld he5).andThen .now
 refine wpAny_handleBy_cons (codeAny_handlers_test (mG (X:=X.within e o5) (w5 I5) hy hm ?_ hdb)) (by intro z;cases z)
 refine(W.exm_one (M:=model X.prog X.w) I5.kIn LT (hk cls H' qE)).here ?_
 refine codeAny_handlers_suite_as (lands_againW fl₅ fun h₆ fl₆ sm₆=> ?_)
 have I6:Inv X pins σ H' {s' with heap:=h₆}:=I.landed F hfl g1 g2 g3 fl₆.1 ((sm₄.trans sm₅).trans sm₆)
 obtain⟨o6,c6,he6,w6⟩:=obj fl₆ I6
 have I6':Inv X [] (replicate X.N.length none) H' {s' with heap:=h₆}:=(I6.pins_of (pins':=[]) fun p z=>nomatch z).weak (by rw [length_replicate];exact I6.len.symm) fun j v z=>by
  rw [getElem?_replicate]at z
  split at z<;>cases z
 refine iX (X:=X.within e o6) (w6 I6') hN hi (.inl hn) (v:=.ref e) rfl (fun s₇ I7=> ?_) (.inr hn)
 refine wpAny_mono (hS e o6 [] s₇ _ H' _ I7 (q e o6 cls H' c6 qE)) (fun f s₈ h8=> ?_) fun _ _ z=>False.elim z
 have fin:∀{σ8:St}{H8:Hp},Inv (X.within e o6) [] σ8 H8 s₈->(∀s9,Inv X [] (replicate X.N.length none) H8 s9->SP X [] D f s9)->wpAny (model X.prog X.w) X.A (do bindName X.env n .none;unbindBehindTheSuite X.env n hp) (fun _ s₃=>SP X [] D f s₃) X.xe s₈:=fun{σ8 H8} I8 k=>by
  obtain⟨m,hm8,_⟩:=I8.loc
  exact wpAny_nameGoes hn hm8 (by rw [I.ok.kind];rfl) fun h' m' hN' hs'=>k _ (Inv.suiteOver (I.ok.hd hcalm) I8 hpn hN' hs')
 cases f with
 |next=>obtain⟨σ8,H8,I8,z⟩:=h8;exact False.elim z
 |brk=>obtain⟨σ8,H8,I8,z⟩:=h8;exact False.elim z
 |cont=>obtain⟨σ8,H8,I8,z⟩:=h8;exact False.elim z
 |ret u=>
  obtain⟨v8,σ8,H8,I8,r8,z⟩:=h8
  exact fin I8 fun s9 I9=> ⟨v8,_,H8,I9,r8,by rw [hD];exact z⟩
end
section
variable {P:Program}{w:World}{K:W.Frag}{mg:Str->Option Value}{base:Heap}
theorem Fun.okX {x qual:Str}{st:Stmt}{f:Addr}{fd:FuncData}{N ps:List Str}{k:Nat}{sp:Sp}(F:Fun K x qual st f fd)(S:bV N ps (aK st))(len:∀vs H Q E,sp vs H Q E->vs.length=ps.length)
  (hbody:∀(cdv:Value)(A:Around)(outer:List Env)(s:Shared)(H:Hp)(vs:List V)(Q:VK)(E:XK),Room k (A.deeper (envOfC qual (aK st) s.heap.objs.size f cdv))->sp vs H Q E->
   ∃t,PSs (cV (CX1 P w) P w K mg base N qual (aK st) f cdv A outer s H E) (bJ st) t/\t {nx:=fun _ H'=>Q .non H',rt:=Q} (start N vs) H):FnOk P w K mg base (CX1 P w) (k+1) f fd ps sp:=by
 obtain⟨oc,od,kV,doc,pm,an,cdv,ct,osl,rfl,lk,hcd⟩:=F.ex
 exact sX lk hcd S len fun A outer s H vs Q E hr hsp=>hbody cdv A outer s H vs Q E hr hsp
end
end L2
namespace L2
open PySem PySem.Spec PyProof.Rows Grd
theorem GridAt.same {H H':Hp}{a:Addr}{g:bG}(h:GridAt H a g)(s:Same H H'):GridAt H' a g:=h.ext s.ext
theorem A84 {K:W.Frag}{a l:Addr}{g:bG}{bs:List Addr}{f:Int->Bool}{H0:Hp}{tt2:TT}{Q:St->Hp->Prop}(ha:H0 a=some (.tup (bs.map V.ref)))(hG:RowsG H0 bs g)(hl:H0 l=none)(h4:g.length<=4)(h6:∀xs∈g,xs.length<=6)
  (htt:∀(at' k:Nat)(r:V)(i:Int) H' (Q':Bool->Hp->Prop),Q' (f i) H'->tt2 [some (.int at'),some r,some (.int k),some (.int i)] H' Q')
  (hQ:∀σ H' ps,Same H0 H'->H' l=some (.lst (ps.map V.ref))->PlAt H' ps (bC f g)->Q σ H'):
  dZ (Ite fun H xs=>SqT K H a xs) (jO K 2 (fP (dW 0) (fP (dW 1) kE))) (dR iR (lR (pV K (bZ (eL 1) gZ)) (jO K 2 (fP (dW 2) (fP (dW 3) kE))) tt2 (eY l (jS (bZ (eL 0) (bZ (eL 2) gZ)))))) (eC Q) [none,none,none,none] (upd H0 l (.lst [])):=by
 have s0:Same H0 (upd H0 l (.lst [])):=aV hl
 have hbs:bs.length=g.length:=Paired.length hG
 refine jI (xs:=bs.map V.ref) (fun i σ H'=>σ.length=4/\Same H0 H'/\∃ps,H' l=some (.lst (ps.map V.ref))/\PlAt H' ps (bC f (g.take i))/\ps.length<=6*i) ⟨rfl,s0,[],by rw [aJ];rfl,.nil,zero_le _⟩ (fun i σ H' _ h=>SqT.of (h.2.1 _ _ ha)) ?_ ?_
 ·rintro i r p σ H' hx ⟨hσ,hs,ps,hl',hP,hn⟩ hp
  obtain⟨b,hbi,rfl⟩:∃b,bs[i]?=some b/\V.ref b=r:=by
   rw [getElem?_map]at hx
   cases e:bs[i]? with
   |none=>rw [e]at hx;cases hx
   |some b=>rw [e]at hx;exact⟨b,rfl,Option.some.inj hx⟩
  obtain⟨xs,hgi,hb⟩:=hG.row hbi
  have hx6:=h6 xs (mem_of_getElem? hgi)
  have hi4:i<4:=lt_of_lt_of_le (zjW.mp hgi).1 h4
  have s1:Same H' (upd H' p (.tup [.int i,.ref b])):=aV hp
  match σ,hσ with
  | [x0,x1,x2,x3],_=>
  refine⟨p,_,rfl,SqT.of aJ,rfl,_,_,rfl,_,_,rfl,rfl,?_⟩
  refine kJ ?_
  refine⟨_,rfl,b,xs.map V.int,rfl,SqT.of (s1 _ _ (hs _ _ hb)),?_⟩
  refine jI (xs:=xs.map V.int) (fun j σ H2=>(∃y2 y3,σ=[some (.int i),some (.ref b),y2,y3])/\Same H0 H2/\∃ps,H2 l=some (.lst (ps.map V.ref))/\PlAt H2 ps (bC f (g.take i)++fL f i (xs.take j))/\ps.length<=6*i+j) ?_ (fun j σ H2 _ h=>SqT.of (h.2.1 _ _ hb)) ?_ ?_
  ·exact⟨⟨x2,x3,rfl⟩,hs.trans s1,ps,s1 _ _ hl',by simpa [fL]using hP.same s1,hn⟩
  ·rintro j x p2 σ H2 hxj ⟨⟨y2,y3,rfl⟩,hs2,ps2,hl2,hP2,hn2⟩ hp2
   obtain⟨z,hzj,rfl⟩:∃z,xs[j]?=some z/\V.int z=x:=by
    rw [getElem?_map]at hxj
    cases e:xs[j]? with
    |none=>rw [e]at hxj;cases hxj
    |some z=>rw [e]at hxj;exact⟨z,rfl,Option.some.inj hxj⟩
   have hj6:j<6:=lt_of_lt_of_le (zjW.mp hzj).1 hx6
   have s2:Same H2 (upd H2 p2 (.tup [.int j,.int z])):=aV hp2
   refine⟨p2,_,rfl,SqT.of aJ,rfl,_,_,rfl,_,_,rfl,rfl,?_⟩
   refine htt i j (.ref b) z _ _ (cH (fun e=> ?_) fun e=> ?_)
   ·refine⟨_,rfl,_,rfl,(by show 2<=sizeLine;decide),fun q hq=> ?_⟩
    have s3:=aV (o:=.tup [.int i,.int j]) hq
    have hlq:l≠q:=bW (s2 _ _ hl2) hq
    refine⟨_,s3 _ _ (s2 _ _ hl2),eI (by rw [length_map];omega),⟨_,_,rfl⟩,fun b' u e'=> ?_,ps2++[q],?_,?_,?_⟩
    ·rw [aQ (bW e' hl)];exact s3 _ _ (s2 _ _ (hs2 _ _ e'))
    ·rw [aJ,map_append];rfl
    ·have hne:∀b' u,(upd (upd H2 p2 (.tup [.int j,.int z])) q (.tup [.int i,.int j])) b'=some (.tup u)->(upd (upd (upd H2 p2 (.tup [.int j,.int z])) q (.tup [.int i,.int j])) l (.lst (ps2.map V.ref++[.ref q]))) b'=some (.tup u):=fun b' u e'=>by
      rw [aQ (fun z'=> ?_)];exact e'
      rw [z',aQ hlq,s2 _ _ hl2]at e';cases e'
     rw [Grd.rowF_succ f i xs j _ hzj,if_pos e,←append_assoc]
     exact PlAt.snoc (Paired.mapP ((hP2.same s2).same s3) fun _ _ e'=>hne _ _ e') (hne _ _ aJ)
    ·rw [length_append];show ps2.length+1<=_;omega
   ·refine⟨⟨_,_,rfl⟩,hs2.trans s2,ps2,s2 _ _ hl2,?_,by omega⟩
    rw [Grd.rowF_succ f i xs j _ hzj,if_neg (by rw [e];decide),append_nil]
    exact hP2.same s2
  ·rintro σ H2 ⟨⟨y2,y3,rfl⟩,hs2,ps2,hl2,hP2,hn2⟩
   rw [length_map]at hP2 hn2
   refine⟨rfl,hs2,ps2,hl2,?_,by omega⟩
   rw [take_of_length_le (zjQ _)]at hP2
   rw [Grd.gridF_succ f g i _ hgi]
   exact hP2
 ·rintro σ H' ⟨_,hs,ps,hl',hP,_⟩
  rw [length_map,hbs,take_of_length_le (zjQ _)]at hP
  exact hQ σ H' ps hs hl' hP
theorem wF:∀xs:List Int,((xs.map V.int).filter nonneg).length=eV xs
 | []=>rfl
 |x::xs=>by
  have ih:=wF xs
  unfold eV at ih⊢
  rw [map_cons]
  cases h:pos x with
  |true=>rw [filter_cons_of_pos (show nonneg (.int x)=true from h),filter_cons_of_pos h,length_cons,length_cons,ih]
  |false=>rw [filter_cons_of_neg (by show¬nonneg (.int x)=true;rw [show nonneg (.int x)=false from h];decide),filter_cons_of_neg (by rw [h];decide),ih]
theorem pE {H:Hp}:∀{bs:List Addr}{g:bG},RowsG H bs g->((bs.map V.ref).map (bP H)).sum=eK g
 |_,_,.nil=>rfl
 |b::bs,xs::g,.cons h t=>by
  have ih:=pE t
  unfold eK at ih⊢
  rw [map_cons,map_cons,sum_cons,map_cons,sum_cons,ih]
  congr 1
  unfold bP
  rw [fQ h]
  exact wF xs
theorem GridAt.good {H:Hp}{a:Addr}{g:bG}{w:Nat}(hA:GridAt H a g)(G:dX g w):dD H (.ref a)=true:=by
 obtain⟨bs,ha,hG⟩:=hA
 have hl:bs.length=g.length:=Paired.length hG
 have row:∀r∈bs.map V.ref,∃b xs,r= .ref b/\H b=some (.tup (xs.map V.int))/\xs∈g:=fun r hr=>by
  obtain⟨b,hb,rfl⟩:=mem_map.mp hr
  obtain⟨i,hi,e⟩:=getElem_of_mem hb
  obtain⟨xs,h1,h2⟩:=hG.row (i:=i) (b:=b) (by rw [getElem?_eq_getElem hi,e])
  exact⟨b,xs,rfl,h2,mem_of_getElem? h1⟩
 have len:∀r∈bs.map V.ref,bD H r=w:=fun r hr=>by
  obtain⟨b,xs,rfl,h1,h2⟩:=row r hr
  unfold bD
  rw [fQ h1]
  show(xs.map V.int).length=w
  rw [length_map];exact G.len xs h2
 unfold dD
 rw [fQ ha]
 dsimp only
 have c:=pE hG
 have h1:=G.h1
 have h4:=G.h4
 rw [length_map,hl,zjV G.h1,zjV G.h4,c,zjV G.c1,zjV G.c10]
 have e1:(bs.map V.ref).all (rowOk H)=true:=all_eq_true.mpr fun r hr=>by
  obtain⟨b,xs,rfl,h1,h2⟩:=row r hr
  have w1:=G.w1
  have w5:=G.w5
  have lx:=G.len xs h2
  unfold rowOk
  rw [fQ h1]
  dsimp only
  rw [length_map,zjV (show 1<=xs.length by omega),zjV (show xs.length<=6 by omega)]
  show(true&&_)=true
  rw [Bool.true_and,all_eq_true]
  intro x hx
  obtain⟨n,hn,rfl⟩:=mem_map.mp hx
  obtain⟨n1,n2⟩:=G.num xs h2 n hn
  show(decide (-2<=n)&&decide (n<=99))=true
  rw [zjV n1,zjV n2];rfl
 have e2:(bs.map V.ref).all (fun r=>decide (bD H r=bD H ((bs.map V.ref).headD .non)))=true:=all_eq_true.mpr fun r hr=>by
  match bs,hl,len,hr with
  |b::bs',_,len,hr=>exact zjV ((len r hr).trans (len _ zjR).symm)
  | [],_,_,hr=>cases hr
 rw [e1,e2]
 rfl
theorem GridAt.kn {H:Hp}{a:Addr}{g:bG}{w:Nat}(hA:GridAt H a g)(G:dX g w):KnA H (.ref a):=by
 obtain⟨bs,ha,hG⟩:=hA
 have hl:bs.length=g.length:=Paired.length hG
 have h4:=G.h4
 refine KnA.tup ha (by rw [length_map];omega) fun r hr=> ?_
 obtain⟨b,hb,rfl⟩:=mem_map.mp hr
 obtain⟨i,hi,e⟩:=getElem_of_mem hb
 obtain⟨xs,h1,h2⟩:=hG.row (i:=i) (b:=b) (by rw [getElem?_eq_getElem hi,e])
 have lx:=G.len xs (mem_of_getElem? h1)
 have w5:=G.w5
 refine KnA.tup h2 (by rw [length_map];omega) fun x hx=> ?_
 obtain⟨n,_,rfl⟩:=mem_map.mp hx
 exact KnA.int n
end L2
namespace M46
open PySem L2 PyProof.Rows Grd
abbrev pY:Stmt:=top 18
abbrev sU:Stmt:=top 20
def gE (f:Int->Bool):Sp:=fun vs H Q _=> ∃a g w,vs=[.ref a]/\GridAt H a g/\dX g w/\∀H' l ps,H l=none->Same H H'->H' l=some (.lst (ps.map V.ref))->PlAt H' ps (bC f g)->Q (.ref l) H'
def sV:Sp:=fun vs H Q _=> ∃a g w,vs=[.ref a]/\GridAt H a g/\dX g w/\∀H',Same H H'->Q .non H'
structure At (P:Program)(w:World)(K:W.Frag)(mg:Str->Option Value)(base:Heap)(CX:CXT)(k:Nat)(x:Str)(f:Addr)(fd:FuncData)(ps:List Str)(sp:Sp):Prop where
 nm:mg x=some (.ref f)
 kp:W.keepIn K (.ref f)=true
 bd:L2.Binds K fd ps []
 ok:FnOk P w K mg base CX k f fd ps sp
section
variable {P:Program}{w:World}{K:W.Frag}{mg:Str->Option Value}{base:Heap}
theorem A38 {f:Addr}{fd:FuncData}(F:Fun K "places_of_cells" "places_of_cells" kW f fd)(T:Txt mg):FnOk P w K mg base CX0 1 f fd ["mead"] (gE pos):=by
 refine F.ok uD (fun vs H Q E h=> ?_) (fun cdv A outer s H vs Q E hr h=> ?_)
 ·obtain⟨a,g,w',rfl,_⟩:=h;rfl
 ·obtain⟨a,g,w',rfl,⟨bs,ha,hG⟩,G,q⟩:=h
  refine⟨_,aW (bB (tN (aK kW).names ["mead"] ["at","row","k","mark"] [] rfl (kF rfl rfl T.enumerate (bH (pv 0) aA)) rfl rfl rfl (by decide +kernel)
   (fun Z=>eQ rfl (cB (bE (i:=0) nd4 rfl (Or.inl rfl)) (cB (bE (i:=1) nd4 rfl (Or.inl rfl)) eP))) (fun Z=>fR)
   (fun Z=>kF rfl rfl T.enumerate (bH (pv 1) aA)) (fun Z=>eQ rfl (cB (bE (i:=2) nd4 rfl (Or.inl rfl)) (cB (bE (i:=3) nd4 rfl (Or.inl rfl)) eP)))
   (fun Z=>jL (bN kC (pv 3) aH (nomark _))) (fun Z=>cZ (bH (pv 0) (bH (pv 2) aA))))),?_⟩
  refine⟨_,rfl,a,_,rfl,SqT.of ha,fun Z l hl=> ?_⟩
  exact A84 (f:=pos) ha hG hl G.h4 (fun xs hx=>by have:=G.len xs hx;have:=G.w5;omega) (fun at' k r i H' Q' hq=> ⟨_,rfl,_,_,rfl,rfl,_,rfl,hq⟩) fun σ H' ps hs hl' hP=>q H' l ps hl hs hl' hP
theorem A1r:bV ["mead"] ["mead"] (aK pY):=by ac_rfl
theorem A0u {f gI:Addr}{fd dI:FuncData}(F:Fun K "check_mead" "check_mead" pY f fd)(aI:At P w K mg base CX0 4 "is_mead" gI dI ["thing"] nO):FnOk P w K mg base CX0 5 f fd ["mead"] sV:=by
 refine F.ok A1r (fun vs H Q E h=> ?_) (fun cdv A outer s H vs Q E hr h=> ?_)
 ·obtain⟨a,g,w',rfl,_⟩:=h;rfl
 ·obtain⟨a,g,w',rfl,hA,G,q⟩:=h
  refine⟨_,aW (bQ (cQ (cS (aX aI.ok hr rfl aI.nm aI.kp aI.bd .nil bA (aE (pv 0) aA)))) A2k bO),?_⟩
  refine⟨_,rfl,_,rfl,hA.kn G 3,fun H' hs=> ⟨_,rfl,?_⟩⟩
  rw [hA.good G]
  exact cO (q H' hs)
theorem A0q:bV ["mead"] ["mead"] (aK sU):=by ac_rfl
theorem A7n {f gC gP:Addr}{fd dC dP:FuncData}(F:Fun K "cells_of" "cells_of" sU f fd)(aC:At P w K mg base CX0 5 "check_mead" gC dC ["mead"] sV)(aP:At P w K mg base CX0 1 "places_of_cells" gP dP ["mead"] (gE pos)):FnOk P w K mg base CX0 6 f fd ["mead"] (gE pos):=by
 refine F.ok A0q (fun vs H Q E h=> ?_) (fun cdv A outer s H vs Q E hr h=> ?_)
 ·obtain⟨a,g,w',rfl,_⟩:=h;rfl
 ·obtain⟨a,g,w',rfl,hA,G,q⟩:=h
  refine⟨_,aU (gO (aX aC.ok hr rfl aC.nm aC.kp aC.bd .nil bA (aE (pv 0) aA)))<|aW (bB (aX aP.ok (hr.mono (by decide)) rfl aP.nm aP.kp aP.bd .nil bA (aE (pv 0) aA))),?_⟩
  refine⟨_,rfl,a,g,w',rfl,hA,G,fun H1 s1=> ?_⟩
  exact⟨_,rfl,a,g,w',rfl,hA.same s1,G,fun H2 l ps hl s2 hl' hP=>q H2 l ps (s1.free hl) (s1.trans s2) hl' hP⟩
end
end M46
namespace M46
open PySem L2 PyProof.Rows
abbrev iY:Stmt:=top 34
def oK (d:Int):Sp:=fun vs H Q _=> ∃p,vs=[.ref p,.int d]/\PenAt H p/\∀v H',Stp p H H'->KnA H' v->Q v H'
section
variable {P:Program}{w:World}{K:W.Frag}{mg:Str->Option Value}{base:Heap}
abbrev oQ:List Str:=["_law_pen_here","_law_deep","_law_way","_law_many","_law_some"]
theorem scThing:bV oQ ["_law_pen_here","_law_deep"] (aK iY):=by ac_rfl
theorem A0v:(["_law_lap","_law_pen_here","_law_deep"]:List Str).Nodup:=by decide +kernel
theorem vP:(["_law_at","_law_one"]:List Str).Nodup:=by decide +kernel
theorem pick {H:Hp}{xs:List V}{i:Int}(h0:0<=i)(h1:i<xs.length)(hx:∀x∈xs,KnA H x):∃v,atI xs i=some v/\KnA H v:=by
 obtain⟨n,rfl⟩:=Int.eq_ofNat_of_zero_le h0
 have hlt:n<xs.length:=by omega
 exact⟨xs[n],bL (by simp [hlt]),hx _ (getElem_mem hlt)⟩
theorem sI {p l:Addr}{H H1 H2:Hp}{xs:List V}{i m:Int}{Q:VK}(st:Stp p H H1)(hl:H1 l=none)(st2:Stp p (upd H1 l (.lst xs)) H2)(i0:0<=i)(i1:i<m)(hx:∀x∈xs,∀H',KnA H' x)(q:∀v H',Stp p H H'->KnA H' v->Q v H')(hm:m=xs.length:=by rfl):
  oO K (.ref l) (.int i) H2 Q:=by
 have hlp:l≠p:=fun z=>by
  obtain⟨x,f',e⟩:=st.pen
  rw [z,e]at hl;cases hl
 obtain⟨v,hv,kv⟩:=pick (H:=H2) i0 (by rw [←hm];exact i1) fun x h=>hx x h H2
 exact⟨l,xs,i,v,rfl,rfl,SqL.of (st2.keep l _ hlp aJ),hv,q v H2 ((st.same (aV hl)).trans st2) kv⟩
theorem wO {f g:Addr}{fd gd:FuncData}{k:Nat}{spR:Sp}(hk:1<=k)(F:Fun K "_law_thing" "_law_thing" iY f fd)(T:Txt mg)(T2:dY mg)(mT:mg "_law_thing" =some (.ref f))(bT:Binds K fd ["_law_pen_here","_law_deep"] [])
  (G:FnOk P w K mg base CX0 k f fd ["_law_pen_here","_law_deep"] spR)(b1:Binds K gd ["_law_pen_here","_law_many"] [])(m1:mg "_law_draw" =some (.ref g))(p1:W.keepIn K (.ref g)=true)(D:FnOk P w K mg base CX0 1 g gd ["_law_pen_here","_law_many"] iA)
  (d:Int)(hR:d<7->∀p H Q E,PenAt H p->(∀v H',Stp p H H'->KnA H' v->Q v H')->spR [.ref p,.int (d+1)] H Q E):FnOk P w K mg base CX0 (k+1) f fd ["_law_pen_here","_law_deep"] (oK d):=by
 refine F.ok scThing (fun vs H Q E h=> ?_) (fun cdv A outer s H vs Q E hr h=> ?_)
 ·obtain⟨p,rfl,_⟩:=h;rfl
 ·obtain⟨p,rfl,hp,q⟩:=h
  have hr1:Room 1 _:=hr.mono hk
  have tail:∃tt,PSs (cV CX0 P w K mg base oQ "_law_thing" (aK iY) f cdv A outer s H E).nox ((bJ iY).drop 6) tt/\∀(way many:Int)(H2:Hp),d<7->0<=many->many<=100->Stp p H H2->
    tt {nx:=fun _ H'=>Q .non H',rt:=Q} [some (.ref p),some (.int d),some (.int way),some (.int many),none] H2:=by
   refine⟨_,aU (sG (i:=4) (aK iY).names oQ ["_law_lap"] [("_law_pen_here",0),("_law_deep",1)] rfl scThing.nd rfl rfl (kZ rfl T2.range (aE (pv 3) aA)) rfl rfl rfl (by decide +kernel)
    (fun Z=>bE (i:=0) A0v rfl (Or.inl rfl)) (fun Z=>fR) (fun Z=>aX G hr rfl mT F.kp bT .nil bA (aE (pv 1) (fN (bF eU (pv 2) aH) aA))))<|
   aU (bQ (bN eZ (pv 2) aH (nomark _)) (aW (bB (pv 4))) bO)<|
   aW (bB (oU (bN eZ (pv 2) aH (nomark _)) (fW nZ rfl T.tuple boot_tuple (aE (pv 4) aA))
    (fW (A8l rfl) rfl T2.dict boot_dict (bH (gY (aK iY).names oQ ["_law_at","_law_one"] [] rfl (xG rfl rfl T.enumerate (aE (pv 4) aA)) rfl rfl rfl (by decide +kernel)
     (fun Z=>eQ rfl (cB (bE (i:=0) vP rfl (Or.inl rfl)) (cB (bE (i:=1) vP rfl (Or.inl rfl)) eP))) (fun Z=>fR) (fun Z=>cZ (aE (pv 0) (aE (pv 1) aA)))) aA)))),?_⟩
   intro way many H2 hd7 hm0 hm1 st
   refine⟨_,rfl,many,rfl,by omega,by omega,fun Z l hl=> ?_⟩
   refine lB (lo:=0) (n:=many.toNat) (fun i σ H'=>(∃o,σ=[o,some (.ref p),some (.int d)])/\Stp p H2 H'/\∃xs,H' l=some (.lst xs)/\xs.length=i/\∀x∈xs,KnA H' x)
    ⟨⟨none,rfl⟩,(Stp.refl st.pen).updL hl st.pen,[],aJ,rfl,fun x hx=>by cases hx⟩ ?_ ?_
   ·rintro i σ H' hi ⟨⟨o,rfl⟩,st',xs,hl',hn,hx⟩
    refine nK ?_
    refine⟨_,rfl,_,rfl,_,_,rfl,rfl,?_⟩
    refine hR hd7 p H' _ _ st'.pen fun v H3 st3 kv=> ?_
    have hlp:l≠p:=fun z=>by
     obtain⟨x,f',e⟩:=st.pen
     rw [z,e]at hl;cases hl
    have hl3:=st3.keep l _ hlp hl'
    have ex:Ext H3 (upd H3 l (.lst (xs++[v]))):=Ext.updL hl3
    refine⟨xs,hl3,eI (by omega),⟨_,rfl⟩,(st'.trans st3).updL hl st.pen,xs++[v],aJ,by rw [length_append,hn];rfl,fun x hx'=> ?_⟩
    rcases mem_append.mp hx' with z|z
    ·exact((hx x z).ext (st3.ext st'.pen)).ext ex
    ·rw [mem_singleton.mp z];exact kv.ext ex
   ·rintro σ H3 ⟨_,st3,xs,hl3,hn,hx⟩
    have stA:=st.trans st3
    refine⟨_,rfl,rfl,_,rfl,dJ (fun _=> ?_) fun _=> ?_⟩
    ·exact⟨_,rfl,q _ _ stA (KnA.lst hl3)⟩
    ·refine⟨_,rfl,rfl,_,rfl,dJ (fun _=> ?_) fun _=> ?_⟩
     ·refine⟨_,rfl,l,xs,rfl,.inl ⟨SqL.of hl3,fun l2 hl2=> ?_⟩⟩
      have s2:=aV (o:=.tup xs) hl2
      exact q _ _ (stA.same s2) (KnA.tup aJ (by omega) fun x hx'=>(hx x hx').ext s2.ext)
     ·refine⟨_,rfl,l,xs,rfl,SqL.of hl3,fun Z2 l2 hl2=> ?_⟩
      refine A1h (fun H' hs=>SqL.of (hs _ _ hl3)) hl2 (by omega) fun σ H4 ps hs4 hl4 hn4 hP4=> ?_
      refine⟨l2,ps,xs,rfl,hl4,hn4,hP4,fun l5 hl5=> ?_⟩
      exact q _ _ ((stA.same hs4).same (aV hl5)) (KnA.dct aJ)
  obtain⟨tt,htail,hread⟩:=tail
  refine⟨_,aU (cJ (i:=2) scThing.nd rfl (Or.inl rfl) (aX D hr1 rfl m1 p1 b1 .nil bA (aE (pv 0) (A83 (oU (bN lE (pv 1) aH (nomark _)) aH aH) aA))))<|
   aU (bQ (bN eZ (pv 2) aH (nomark _)) (aW (bB (bM eO (dU (kY (qK (qK (xR hJ))))) (aX D hr1 rfl m1 p1 b1 .nil bA (aE (pv 0) (bU aH aA))) (fun _ _=>rfl)))) bO)<|
   aU (bQ (bN lE (pv 2) aH (nomark _)) (aW (bB (bM eO (dU (kY (hU (bF jN (aX D hr1 rfl m1 p1 b1 .nil bA (aE (pv 0) (bU aH aA))) aH) (yY (iG hZ (bF lW aH aH)) (hU (bF lW aH aH) (hU (bF lW aH aH) (hU (bF eU (bF lW aH aH) aH) hJ))))))) (aX D hr1 rfl m1 p1 b1 .nil bA (aE (pv 0) (bU aH aA))) (fun _ _=>rfl)))) bO)<|
   aU (vD (bN lE (pv 2) aH (nomark _)) (retq (hX (hX (hX (hX (hX (hX (hX (hX (hU (bF A6v iI aH) (hX hJ)))))))))) (aX D hr1 rfl m1 p1 b1 .nil bA (aE (pv 0) (bU aH aA))) (fun _ _=>rfl)) (A6c bO))<|
   aU (cJ (i:=3) scThing.nd rfl (Or.inl rfl) (aX D hr1 rfl m1 p1 b1 .nil bA (aE (pv 0) (bU aH aA))))<|
   aU (bQ (PW.pt (jC (bN eZ (pv 1) aH (nomark _)) (iS (bN eZ (aX D hr1 rfl m1 p1 b1 .nil bA (aE (pv 0) (bU aH aA))) aH (nomark _))))) (aW (cJ (i:=3) scThing.nd rfl (Or.inl rfl) aH)) bO)<|
   htail,?_⟩
  refine⟨_,rfl,_,rfl,_,_,rfl,rfl,_,rfl,dJ (fun h7=> ⟨p,9,rfl,hp,by decide,by decide,fun way H1 w0 w1 st=> ?_⟩) fun h7=> ⟨p,6,rfl,hp,by decide,by decide,fun way H1 w0 w1 st=> ?_⟩⟩
  all_goals
   refine⟨_,rfl,rfl,_,rfl,dJ (fun e0=> ?_) fun e0=> ?_⟩
   ·refine⟨by show 3<=sizeLine;decide,fun l hl=> ?_⟩
    refine⟨_,rfl,p,3,rfl,(st.same (aV hl)).pen,by decide,by decide,fun i H2 i0 i1 st2=> ?_⟩
    exact sI st hl st2 i0 i1 (fun x hx H'=>by simp at hx;rcases hx with rfl|rfl|rfl<;>first|exact KnA.bl _|exact KnA.non) q
   ·refine⟨_,rfl,_,_,rfl,rfl,_,rfl,dJ (fun e1=> ?_) fun e1=> ?_⟩
    ·refine⟨_,rfl,p,13,rfl,st.pen,by decide,by decide,fun j H2 j0 j1 st2=> ?_⟩
     refine⟨_,_,rfl,rfl,_,_,rfl,rfl,⟨by decide,by decide,by decide⟩,_,rfl,_,_,rfl,rfl,⟨by decide,by decide,by decide⟩,_,_,rfl,rfl,⟨by decide,by decide,by decide⟩,_,_,rfl,rfl,⟨by decide,by decide,by decide⟩,_,_,rfl,rfl,?_⟩
     refine⟨by show 5<=sizeLine;decide,fun l hl=> ?_⟩
     refine⟨_,rfl,p,5,rfl,((st.trans st2).same (aV hl)).pen,by decide,by decide,fun i H3 i0 i1 st3=> ?_⟩
     exact sI (st.trans st2) hl st3 i0 i1 (fun x hx H'=>by simp at hx;rcases hx with rfl|rfl|rfl|rfl|rfl<;>exact KnA.int _) q
    ·refine⟨_,rfl,_,_,rfl,rfl,_,rfl,dJ (fun e2=> ?_) fun e2=> ?_⟩
     ·refine⟨_,1000,rfl,rfl,by decide,by decide,by decide +kernel,fun z'=> ?_⟩
      refine⟨by show 10<=sizeLine;decide,fun l hl=> ?_⟩
      refine⟨_,rfl,p,10,rfl,(st.same (aV hl)).pen,by decide,by decide,fun i H2 i0 i1 st2=> ?_⟩
      refine sI st hl st2 i0 i1 (fun x hx H'=> ?_) q
      simp only [mem_cons,not_mem_nil,or_false]at hx
      rcases hx with rfl|rfl|rfl|rfl|rfl|rfl|rfl|rfl|rfl|rfl<;>exact KnA.str _
     ·refine⟨_,rfl,p,4,rfl,st.pen,by decide,by decide,fun many H2 m0 m1 st2=> ?_⟩
      have hd7:d<7:=by omega
      refine⟨_,rfl,rfl,_,rfl,dJ (fun e6=> ?_) fun e6=> ?_⟩
      ·refine⟨_,rfl,p,40,rfl,st2.pen,by decide,by decide,fun z H3 z0 z1 st3=> ?_⟩
       refine⟨rfl,_,rfl,dJ (fun ez=> ?_) fun ez=> ?_⟩
       ·exact hread way 100 H3 hd7 (by decide) (by decide) ((st.trans st2).trans st3)
       ·exact hread way many H3 hd7 m0 (by omega) ((st.trans st2).trans st3)
      ·refine cO ?_
       exact hread way many H2 hd7 m0 (by omega) (st.trans st2)
theorem uX {f g:Addr}{fd gd:FuncData}(F:Fun K "_law_thing" "_law_thing" iY f fd)(T:Txt mg)(T2:dY mg)(mT:mg "_law_thing" =some (.ref f))(bT:Binds K fd ["_law_pen_here","_law_deep"] [])
  (b1:Binds K gd ["_law_pen_here","_law_many"] [])(m1:mg "_law_draw" =some (.ref g))(p1:W.keepIn K (.ref g)=true)(D:FnOk P w K mg base CX0 1 g gd ["_law_pen_here","_law_many"] iA):
  ∀n:Nat,FnOk P w K mg base CX0 (n+2) f fd ["_law_pen_here","_law_deep"] (oK (7 -(n:Int)))
 |0=>wO (k:=1) (by decide) F T T2 mT bT FnOk.never b1 m1 p1 D (7 -((0:Nat):Int)) fun h=>absurd h (by decide)
 |n+1=>by
  refine wO (k:=n+2) (by omega) F T T2 mT bT (uX F T T2 mT bT b1 m1 p1 D n) b1 m1 p1 D (7 -((n+1:Nat):Int)) fun _ p H Q E hp hq=> ?_
  have e:7 -((n+1:Nat):Int)+1=7 -(n:Int):=by omega
  rw [e]
  exact⟨p,rfl,hp,hq⟩
end
end M46
namespace L2
open PySem PySem.Spec PyProof.Rows
def ObK (K:W.Frag)(D:Addr):Prop:=∃d kd sl,K.lookup D=some ⟨.type "type",d,.cls kd,sl⟩
theorem A5p {K:W.Frag}{D:Addr}{bm:List Value}{n:String}(h:W.excIn K D bm n=true):ObK K D:=by
 unfold W.excIn at h
 split at h
 ·rename_i e;exact⟨_,_,_,e⟩
 ·cases h
structure lF (K:W.Frag)(D:Addr):Prop where
 ob:ObK K D
 cl:W.findIn K (.ref D) "__class__" =some (some (.builtin "object.__class__"))
 ga:W.findIn K (.ref D) "__getattribute__" =some (some (.builtin "BaseException.__getattribute__"))
 gt:W.findIn K (.ref D) "__getattr__" =some none
 mo:W.mroIn K D (.type "object")=some true
 mb:W.mroIn K D (.type "BaseException")=some true
 gg:W.specialIn K (.builtin "object.__class__") "__get__" =some (some (.builtin "getset_descriptor.__get__"))
 tk:W.takesIn K (.builtin "object.__class__")=some true
end L2
namespace L2
open PySem PySem.W PySem.Calls PyProof.Rows Builtin Builtin.ObjectAttr Builtin.Getset_descriptor
section
variable {prog:Program}{w:World}{A:Around}{E:Value->Shared->Prop}{K:W.Frag}{x D:Addr}
theorem A5g {M:Model}{h:Heap}(X:K.In h)(c:lF K D):W.Looks M h (find (.ref x) (.ref D) "__class__") (.bind (.builtin "getset_descriptor.__get__") (.builtin "object.__class__")):=by
 refine(W.looks_findIn X c.cl).andThen ?_
 refine W.Looks.andThen (a:=some (Value.builtin "getset_descriptor.__get__")) (W.looks_specialIn X c.gg) ?_
 refine W.Looks.andThen (a:=some (Value.builtin "getset_descriptor.__get__",Value.builtin "object.__class__")) ?_ (W.Looks.tag .now)
 exact(W.looks_takesIn X c.tk).andThen .now
theorem A0j {R:Result->Shared->Prop}{s:Shared}{tp:Value}(X:K.In s.heap)(L0:W.Looks (model prog w) s.heap (typeOf (.ref x)) (.ref D))(c:lF K D)(h:R (.ok (.ret (.ref D))) s):
  codeAny (model prog w) A (.call (.builtin "getset_descriptor.__get__") ⟨[.builtin "object.__class__",.ref x,tp],[]⟩) R s:=by
 obtain⟨hh,g,dr,t,os⟩:=s
 have LM:=W.looks_mroIn (M:=model prog w) X c.mo
 refine codeAny_call_builtin KF.slot_gs.plain KF.entry_gs (KF.slot_gs.check _ _ _ _ _ _ _ _ KF.type_class (KF.args_gs _ _ _) ?_);unfold Builtin.«getset_descriptor.__get__» descrGet;rw [dga_obj]
 refine zjZ (zjY ?_);unfold descrGetter descrCheckInstance descrNameAndClass isInstance;simp only [KF.owner_class];repeat lk
 refine⟨Code.quiet_builtin _ (by decide +kernel),codeAny_builtin KF.entry_class ?_⟩;unfold Builtin.«object.__class__» shownTypeOf;repeat lk
 exact h
theorem A0x {s:Shared}{Q:Option Value->Shared->Prop}(X:K.In s.heap){o:Obj}(hx:s.heap.get? x=some o)(hc:o.cls= .ref D)(c:lF K D)(h:Q (some (.ref D)) {s with toks:=s.toks+1}):
  wpAny (model prog w) A (getAttr? (.ref x) "__class__") Q E s:=by
 obtain⟨hh,g,d,t,os⟩:=s
 have hx:hh.get? x=some o:=hx
 have L0:Looks (model prog w) hh (typeOf (.ref x)) (.ref D):=hc▸(Looks.ld hx).andThen .now
 have L1:=looks_findIn (M:=model prog w) X c.ga
 have L2':=looks_findIn (M:=model prog w) X c.gt
 have LB:=looks_mroIn (M:=model prog w) X c.mb
 have LF:=A5g (x:=x) (M:=model prog w) X c
 unfold getAttr? getAttrBy? getAttrBy
 refine zjZ (wpAny_mkText (zjZ (wpAny_attempt (wpAny_holding (zjZ (L0.at (zjZ (L1.at ?_))))))))
 have hne:(onTheHeap (Value.ref D)&&Value.builtin "BaseException.__getattribute__" ==Value.builtin "object.__getattribute__")=false:=by
  rw [show(Value.builtin "BaseException.__getattribute__" ==Value.builtin "object.__getattribute__")=false by decide +kernel];rfl
 dsimp only
 rw [if_neg (by rw [hne];decide)]
 unfold getAttrByItsOwn hookBefore
 rw [if_pos (show onTheHeap (Value.ref D)=true from rfl)]
 refine zjZ (L2'.at (zjZ (wpAny_attempt (wpAny_holding ?_))))
 unfold callGetattribute boundAndCalled
 rw [if_neg (by decide)]
 refine zjZ (wpAny_of_eq (PySem.F.attr_ValueError.ga.bind (.ref x)) ?_)
 refine wpAny_call (codeAny_call_builtin PySem.F.attr_ValueError.ga.plain PySem.F.entry_bexc_ga ?_)
 have hk:builtinKind "BaseException.__getattribute__" =some .slot:=by decide +kernel
 have hsp:splitId "BaseException.__getattribute__" =some ("BaseException","__getattribute__"):=by decide +kernel
 have ha:=PySem.F.args_bexc_ga (.ref x) (.str "__class__" t)
 simp only [checkBuiltinCall,hk,hsp]
 have LI:Looks (model prog w) hh (isInstance (.ref x) (.type "BaseException")) true:=L0.andThen LB
 refine zjZ (LI.at ?_)
 repeat (first|assumption|wp_step)
 rw [hc]
 have LC:=looks_findIn (M:=model prog w) X c.cl
 have LG:Looks (model prog w) hh (getOf (some (Value.builtin "object.__class__"))) (some (Value.builtin "getset_descriptor.__get__")):=looks_specialIn X c.gg
 have LD:Looks (model prog w) hh (dataDescriptor? (some (Value.builtin "object.__class__")) (some (Value.builtin "getset_descriptor.__get__"))) (some (Value.builtin "getset_descriptor.__get__",Value.builtin "object.__class__")):=(looks_takesIn X c.tk).andThen .now
 refine LC.at (zjZ (LG.at (zjZ (LD.at (zjZ (wpAny_rule (zjY ?_)))))))
 dsimp only
 unfold bindTo
 dsimp only
 refine zjZ (wpAny_holding (wpAny_call (A0j (s:=⟨hh,g,d,t+1,os⟩) X L0 c (zjY ?_))))
 exact handed_on rfl (zjY h)
end
theorem yR {K:W.Frag}{x D:Addr}(c:lF K D):W.KitX K (.ref x) (.ref D) (fun h=> ∃o,h.get? x=some o/\o.cls= .ref D)where
 ty:=fun M h _ z=>let ⟨o,h1,h2⟩:=z;h2▸(W.Looks.ld h1).andThen .now
 it:=fun M h X _=>by
  obtain⟨oD,kD,lD,look⟩:=c.ob
  have hC:=X _ _ look
  intro A' Q' E' s' k z
  unfold isType loadHead
  exact zjZ (wpAny_loadPart (k _ _ hC) (zjY z))
 ne:=fun h tp dd its n sl X htp=>Bool.eq_false_iff.mpr fun q=>by
  obtain⟨oD,kD,lD,look⟩:=c.ob
  have hC:=X _ _ look
  have e:D=tp:=Value.ref.inj (beq_iff_eq.mp q)
  subst e
  have z:Value.type "type" =Value.type "tuple":=congrArg Obj.cls (Option.some.inj (hC.symm.trans htp))
  injection z with z
  exact absurd z (by decide)
 ca:=fun X z k=>let ⟨o,h1,h2⟩:=z;A0x X h1 h2 c k
end L2
namespace L2
open PySem PySem.Spec PyProof.Rows
theorem pI {X:Cx}{e D:Addr}{oe:Obj}(c:lF X.K D):fE (X.within e oe) (.builtin "isinstance") (fun xs H Q=>oe.cls= .ref D/\((∃C b,xs=[.ref e,.ref C]/\W.kitOne X.K (.ref D) (.ref C)=some b/\Q (.bl b) H)\/ ∃T b,xs=[.ref e,.ty T]/\W.kitOne X.K (.ref D) (.type T)=some b/\Q (.bl b) H)):=by
 intro pins s σ H xs us Q I r h
 obtain⟨hc,h⟩:=h
 have hp:s.heap.get? e=some oe:=(I.pin (e,oe) (mem_append_left _ zjR)).1
 rcases h with⟨C,b,rfl,k,q⟩| ⟨T,b,rfl,k,q⟩
 ·obtain⟨u,w',rfl,rx,ry⟩:=kK r
  cases rx
  cases ry
  exact W.kia_one (yR c) I.kIn ⟨oe,hp,hc⟩ k (fun z=>nomatch z) fun tk=> ⟨.bl b,H,I.tok _,rfl,q⟩
 ·obtain⟨u,w',rfl,rx,ry⟩:=kK r
  cases rx
  cases (show w'=Value.type T from ry)
  exact W.kia_one (yR c) I.kIn ⟨oe,hp,hc⟩ k (fun z=>nomatch z) fun tk=> ⟨.bl b,H,I.tok _,rfl,q⟩
theorem yA {X:Cx}:fE X (.builtin "isinstance") (fun xs H Q=> ∃x t ty b,∃Ts:List String,xs=[x,.ref t]/\H t=some (.tup (Ts.map V.ty))/\TyOf X.K H x ty/\(∃T,ty= .type T)/\W.kitAny X.K ty (Ts.map Value.type)=some b/\Q (.bl b) H):=by
 intro pins s σ H xs us Q I r h
 obtain⟨x,t,ty,b,Ts,rfl,ht,hty,⟨T,rfl⟩,k,q⟩:=h
 obtain⟨u,w',rfl,rx,ry⟩:=kK r
 cases ry
 obtain⟨its,rv,⟨⟨c1,d1,t1,l1⟩,ho,hc,n,hd⟩,_⟩:=I.tuple (SqT.of ht)
 simp only at hc hd
 subst hc hd
 have e:its=Ts.map Value.type:=by
  have go:∀(Ts:List String)(us:List Value),Vals (Ts.map V.ty) us->us=Ts.map Value.type:=by
   intro Ts
   induction Ts with
   |nil=>intro us h;cases h;rfl
   |cons T Ts ih=>intro us h;cases h with|cons a b=>rw [show _=Value.type T from a,ih _ b];rfl
  exact go Ts its rv
 subst e
 have fin:∀tk,EP X pins σ Q (.bool b) {s with toks:=tk}:=fun tk=> ⟨.bl b,H,I.tok _,rfl,q⟩
 cases hty with
 |non=>cases (show u=Value.none from rx);exact W.kia_tup W.kitx_none I.kIn True.intro ho k (fun z=>nomatch z) fin
 |bl y=>cases (show u=Value.bool y from rx);exact W.kia_tup W.kitx_bool I.kIn True.intro ho k (fun z=>nomatch z) fin
 |int i=>obtain⟨t,z⟩:=(show∃t,u=Value.int i t from rx);cases z;exact W.kia_tup W.kitx_int I.kIn True.intro ho k (fun z=>nomatch z) fin
 |str y=>obtain⟨t,z⟩:=(show∃t,u=Value.str y t from rx);cases z;exact W.kia_tup W.kitx_str I.kIn True.intro ho k (fun z=>nomatch z) fin
 |flt y=>obtain⟨t,z⟩:=(show∃t,u=Value.float y t from rx);cases z;exact W.kia_tup W.kitx_float I.kIn True.intro ho k (fun z=>nomatch z) fin
 | @lst a xs ea=>
  cases (show u=Value.ref a from rx)
  obtain⟨_,_,n,_,h1⟩:=(show ObjOk X.prog X.w H s.heap a (.lst xs)from I.hok a _ ea)
  exact W.kia_tup W.kitx_list I.kIn ⟨_,h1,rfl⟩ ho k (fun z=>nomatch z) fin
 | @frz a ob xs ea=>
  cases (show u=Value.ref a from rx)
  obtain⟨_,_,_,n,_,h1⟩:=(show ObjOk X.prog X.w H s.heap a (.frz ob (.lst xs))from I.hok a _ ea)
  exact W.kia_tup W.kitx_list I.kIn ⟨_,h1,rfl⟩ ho k (fun z=>nomatch z) fin
 | @tup a xs ea=>
  cases (show u=Value.ref a from rx)
  obtain⟨_,_,_,p⟩:=(show ObjOk X.prog X.w H s.heap a (.tup xs)from I.hok a _ ea)
  obtain⟨o,h1,h2,_⟩:=p
  exact W.kia_tup W.kitx_tuple I.kIn ⟨o,h1,h2⟩ ho k (fun z=>nomatch z) fin
 | @dK a kvs ea=>
  cases (show u=Value.ref a from rx)
  obtain⟨_,_,vs,_,p⟩:=(show ObjOk X.prog X.w H s.heap a (.dK kvs)from I.hok a _ ea)
  obtain⟨o,es,ep,h1,h2,_⟩:=p
  exact W.kia_tup W.kitx_dict I.kIn ⟨o,h1,h2.1⟩ ho k (fun z=>nomatch z) fin
 | @dT a kvs ea=>
  cases (show u=Value.ref a from rx)
  obtain⟨_,_,xs,_,o,es,ep,h1,h2,_⟩:=(show ObjOk X.prog X.w H s.heap a (.dT kvs)from I.hok a _ ea)
  exact W.kia_tup W.kitx_dict I.kIn ⟨o,h1,h2.1⟩ ho k (fun z=>nomatch z) fin
theorem PI.or {X:Cx}{tg iter:Expr}{w1 w2:TI}(h1:PI X tg iter w1)(h2:PI X tg iter w2):PI X tg iter (fun σ H R=>w1 σ H R\/w2 σ H R):=by
 intro pins s σ H R I h
 rcases h with h|h
 ·exact h1 pins s σ H R I h
 ·exact h2 pins s σ H R I h
end L2
namespace M46
open PySem L2 PyProof.Rows Grd
abbrev mQ:Stmt:=top 33
abbrev oZ:Stmt:=top 36
def rG (a b:V):Prop:=a=b/\((∃i,a= .int i)\/(∃x,a= .str x)\/ ∃y,a= .bl y)
def SameV (H:Hp):Nat->V->V->Prop
 |0,a,b=>rG a b
 |n+1,a,b=>rG a b\/ ∃p q xs ys,a= .ref p/\b= .ref q/\((H p=some (.lst xs)/\H q=some (.lst ys))\/(H p=some (.tup xs)/\H q=some (.tup ys)))/\xs.length<=1000/\Paired (SameV H n) xs ys
theorem SameV.same {H H':Hp}(s:Same H H'):∀{n:Nat}{a b:V},SameV H n a b->SameV H' n a b
 |0,_,_,h=>h
 |n+1,a,b,h=>by
  rcases h with h| ⟨p,q,xs,ys,h1,h2,h3,h4,h5⟩
  ·exact .inl h
  ·refine .inr ⟨p,q,xs,ys,h1,h2,?_,h4,Paired.mapP h5 fun _ _ z=>SameV.same s z⟩
   rcases h3 with⟨u,v⟩| ⟨u,v⟩
   ·exact .inl ⟨s _ _ u,s _ _ v⟩
   ·exact .inr ⟨s _ _ u,s _ _ v⟩
theorem SameV.int {H:Hp}(n:Nat)(i:Int):SameV H n (.int i) (.int i):=by cases n with|zero=>exact⟨rfl,.inl ⟨i,rfl⟩⟩|succ n=>exact .inl ⟨rfl,.inl ⟨i,rfl⟩⟩
def lV (n:Nat):Sp:=fun vs H Q _=> ∃a b,vs=[a,b]/\SameV H n a b/\∀H',Same H H'->Q (.bl true) H'
theorem wZ {α β:Type}{F:α->β->Prop}:∀{l₁:List α}{l₂:List β}{i:Nat}{a:α}{b:β},Paired F l₁ l₂->l₁[i]?=some a->l₂[i]?=some b->F a b
 |_,_,0,_,_,.cons r _,h1,h2=>by cases h1;cases h2;exact r
 |_,_,i+1,_,_,.cons _ t,h1,h2=>wZ (i:=i) t (by simpa using h1) (by simpa using h2)
section
variable {P:Program}{w:World}{K:W.Frag}{mg:Str->Option Value}{base:Heap}
theorem A4x:bV ["_law_thing_here","_law_due"] ["_law_thing_here","_law_due"] (aK mQ):=by ac_rfl
theorem zA:(["_law_one","_law_other"]:List Str).Nodup:=by decide +kernel
theorem vV {f:Addr}{fd:FuncData}{k:Nat}{spR:Sp}(F:Fun K "_law_same" "_law_same" mQ f fd)(T:Txt mg)(T2:dY mg)(mS:mg "_law_same" =some (.ref f))(bS:L2.Binds K fd ["_law_thing_here","_law_due"] [])
    (G:FnOk P w K mg base CX0 k f fd ["_law_thing_here","_law_due"] spR)(SR:Hp->V->V->Prop)(hSR:∀H H',Same H H'->∀a b,SR H a b->SR H' a b)(hR:∀a b H Q E,SR H a b->(∀H',Same H H'->Q (.bl true) H')->spR [a,b] H Q E):
    FnOk P w K mg base CX0 (k+1) f fd ["_law_thing_here","_law_due"] (fun vs H Q _=> ∃a b,vs=[a,b]/\(rG a b\/ ∃p q xs ys,a= .ref p/\b= .ref q/\((H p=some (.lst xs)/\H q=some (.lst ys))\/(H p=some (.tup xs)/\H q=some (.tup ys)))/\xs.length<=1000/\Paired (SR H) xs ys)/\∀H',Same H H'->Q (.bl true) H'):=by
  refine F.ok A4x (fun vs H Q E h=> ?_) (fun cdv A outer s H vs Q E hr h=> ?_)
  · obtain⟨a,b,rfl,_⟩:=h;rfl
  · obtain⟨a,b,rfl,hS,q⟩:=h
    refine⟨_,aU (bQ (cS (bI yA rfl T.isinstance boot_isinstance (aE (pv 1) (lG (cZ (aE (dQ (v:=.ty "list") rfl T2.list boot_list rfl) (aE (dQ (v:=.ty "tuple") rfl T.tuple boot_tuple rfl) aA))) aA))))
        (aU (bQ (PW.pt (fU (cQ (cS (bI yA rfl T.isinstance boot_isinstance (aE (pv 0) (lG (cZ (aE (dQ (v:=.ty "list") rfl T2.list boot_list rfl) (aE (dQ (v:=.ty "tuple") rfl T.tuple boot_tuple rfl) aA))) aA)))))
            (iP (bN gA (bI eW rfl T.isinstance boot_isinstance (aE (pv 0) (aE (dQ (v:=.ty "list") rfl T2.list boot_list rfl) aA))) (bI eW rfl T.isinstance boot_isinstance (aE (pv 1) (aE (dQ (v:=.ty "list") rfl T2.list boot_list rfl) aA))) (nomark _))))) (aW (bB cT)) bO)<|
         aU (bQ (bN gA (bI eN rfl T.len PySem.boot_len (aE (pv 0) aA)) (bI eN rfl T.len PySem.boot_len (aE (pv 1) aA)) (nomark _)) (aW (bB cT)) bO)<|
         aW (bB (bI (nE rfl) rfl T.all boot_all (mJ (gY (aK mQ).names ["_law_thing_here","_law_due"] ["_law_one","_law_other"] [] rfl (PI.or (xS kL_ok rfl T2.zip (aE (pv 0) (aE (pv 1) aA))) (xS kT_ok rfl T2.zip (aE (pv 0) (aE (pv 1) aA)))) rfl rfl rfl (by decide +kernel)
            (fun Z=>eQ rfl (cB (bE (i:=0) zA rfl (Or.inl rfl)) (cB (bE (i:=1) zA rfl (Or.inl rfl)) eP))) (fun Z=>fR) (fun Z=>aX G hr rfl mS F.kp bS .nil bA (aE (pv 0) (aE (pv 1) aA)))) aA)))) bO)<|
      aU (bQ (bN vE (pv 1) pW (nomark _)) (aW (bB (iN vE (pv 0) pW (nomark _)))) bO)<|
      aW (bB (nX (iN eZ (bI eW rfl T.isinstance boot_isinstance (aE (pv 0) (aE (dQ (v:=.ty "bool") rfl T.bool boot_bool rfl) aA))) (bI eW rfl T.isinstance boot_isinstance (aE (pv 1) (aE (dQ (v:=.ty "bool") rfl T.bool boot_bool rfl) aA))) (nomark _)) (pH (iN eZ (pv 0) (pv 1) (nomark _))))),?_⟩
    rcases hS with⟨rfl,hf⟩| ⟨p,qq,xs,ys,rfl,rfl,hpq,hz,hP⟩
    ·
      obtain⟨ty,hty,hT,hk,hb,hnn,hsc⟩:∃ty,TyOf K H a ty/\(∃T,ty= .type T)/\W.kitAny K ty (["list","tuple"].map Value.type)=some false/\(∃kb,W.kitOne K ty (.type "bool")=some kb)/\a≠ .non/\scal a a=true:=by
        rcases hf with⟨i,rfl⟩| ⟨x,rfl⟩| ⟨y,rfl⟩
        · exact⟨_,.int i,⟨_,rfl⟩,by kernel_rfl,⟨false,by kernel_rfl⟩,(fun z=>by cases z),rfl⟩
        · exact⟨_,.str x,⟨_,rfl⟩,by kernel_rfl,⟨false,by kernel_rfl⟩,(fun z=>by cases z),rfl⟩
        · exact⟨_,.bl y,⟨_,rfl⟩,by kernel_rfl,⟨true,by kernel_rfl⟩,(fun z=>by cases z),rfl⟩
      refine⟨_,rfl,by show 2<=sizeLine;decide,fun t ht=> ?_⟩
      have s1:=aV (o:=.tup [.ty "list",.ty "tuple"]) ht
      have hty1:∃ty,TyOf K (upd H t (.tup [.ty "list",.ty "tuple"])) a ty/\(∃T,ty= .type T)/\W.kitAny K ty (["list","tuple"].map Value.type)=some false/\(∃kb,W.kitOne K ty (.type "bool")=some kb):=by
        rcases hf with⟨i,rfl⟩| ⟨x,rfl⟩| ⟨y,rfl⟩
        · exact⟨_,.int i,⟨_,rfl⟩,by kernel_rfl,⟨false,by kernel_rfl⟩⟩
        · exact⟨_,.str x,⟨_,rfl⟩,by kernel_rfl,⟨false,by kernel_rfl⟩⟩
        · exact⟨_,.bl y,⟨_,rfl⟩,by kernel_rfl,⟨true,by kernel_rfl⟩⟩
      obtain⟨ty1,a1,a2,a3,kb,a4⟩:=hty1
      refine⟨_,t,ty1,false,["list","tuple"],rfl,aJ,a1,a2,a3,_,rfl,cO ?_⟩
      refine⟨_,rfl,rfl,_,rfl,?_⟩
      rw [zjU hnn]
      refine cO ?_
      refine⟨_,rfl,_,"bool",ty1,kb,rfl,a1,a4,_,rfl,_,"bool",ty1,kb,rfl,a1,a4,rfl,_,rfl,?_⟩
      rw [zjV rfl]
      refine cN ⟨_,rfl,_,rfl,hsc,?_⟩
      rw [zjV rfl]
      exact q _ s1
    · have hlen:xs.length=ys.length:=Paired.length hP
      refine⟨_,rfl,by show 2<=sizeLine;decide,fun t ht=> ?_⟩
      have s1:=aV (o:=.tup [.ty "list",.ty "tuple"]) ht
      have kinds:∃T,(T= "list" \/T= "tuple")/\(∀H',Same H H'->TyOf K H' (.ref p) (.type T)/\TyOf K H' (.ref qq) (.type T))/\W.kitAny K (.type T) (["list","tuple"].map Value.type)=some true/\W.kitOne K (.type T) (.type "list")=some (decide (T= "list")):=by
        rcases hpq with⟨h1,h2⟩| ⟨h1,h2⟩
        · exact⟨"list",.inl rfl,fun H' s=> ⟨.lst (s _ _ h1),.lst (s _ _ h2)⟩,by kernel_rfl,by kernel_rfl⟩
        · exact⟨"tuple",.inr rfl,fun H' s=> ⟨.tup (s _ _ h1),.tup (s _ _ h2)⟩,by kernel_rfl,by kernel_rfl⟩
      obtain⟨TT,hTT,hk,k1,k2⟩:=kinds
      refine⟨_,t,.type TT,true,["list","tuple"],rfl,aJ,(hk _ s1).2,⟨_,rfl⟩,k1,_,rfl,cN ?_⟩
      refine⟨_,rfl,by show 2<=sizeLine;decide,fun t2 ht2=> ?_⟩
      have s2:=s1.trans (aV (o:=.tup [.ty "list",.ty "tuple"]) ht2)
      refine⟨_,t2,.type TT,true,["list","tuple"],rfl,aJ,(hk _ s2).1,⟨_,rfl⟩,k1,_,rfl,cO ?_⟩
      refine⟨_,rfl,_,"list",.type TT,_,rfl,(hk _ s2).1,k2,_,rfl,_,"list",.type TT,_,rfl,(hk _ s2).2,k2,rfl,_,rfl,tI rfl ?_⟩
      have sq:∀H',Same H H'->(SqL K H' p xs\/SqT K H' p xs)/\(SqL K H' qq ys\/SqT K H' qq ys):=fun H' s=>by
        rcases hpq with⟨h1,h2⟩| ⟨h1,h2⟩
        · exact⟨.inl (SqL.of (s _ _ h1)),.inl (SqL.of (s _ _ h2))⟩
        · exact⟨.inr (SqT.of (s _ _ h1)),.inr (SqT.of (s _ _ h2))⟩
      refine⟨_,rfl,p,xs,rfl,(sq _ s2).1,_,rfl,qq,ys,rfl,(sq _ s2).2,rfl,_,rfl,tI (by rw [hlen]) ?_⟩
      have loop:∀(kk:SeqK),(∀H',Same H H'->kk.Sq K H' p xs/\kk.Sq K H' qq ys)->∀(l:Addr)(H2:Hp),Same H H2->H2 l=none->∀(Q':L2.St->Hp->Prop),(∀σ H',Same H2 H'->H' l=some (.lst (xs.map fun _=>V.bl true))->Q' σ H')->
          dZ (Itz (fun H xs=>kk.Sq K H p xs) fun H ys=>kk.Sq K H qq ys) (jO K 2 (fP (dW 0) (fP (dW 1) kE))) (dR iR (eY l (yG spR [] E0 (bZ (eL 0) (bZ (eL 1) gZ))))) (eC Q') [none,none] (upd H2 l (.lst [])):=by
        intro kk hkk l H2 sH hl Q' hQ'
        refine vR (xs:=xs) (ys:=ys) hlen (fun i σ H'=>σ.length=2/\Same H2 H'/\H' l=some (.lst ((xs.take i).map fun _=>V.bl true))) ⟨rfl,aV hl,by rw [aJ];rfl⟩ (fun i σ H' h=>hkk H' (sH.trans h.2.1)) ?_ ?_
        · rintro i x y p3 σ H' hx hy ⟨hσ,hs,hl'⟩ hp3
          match σ,hσ with
          | [x0,x1],_=>
          have s3:=aV (o:=.tup [x,y]) hp3
          refine⟨p3,_,rfl,SqT.of aJ,rfl,_,_,rfl,_,_,rfl,rfl,?_⟩
          refine kJ ?_
          refine⟨_,rfl,_,rfl,?_⟩
          refine hR x y _ _ _ (hSR _ _ ((sH.trans hs).trans s3) x y (wZ hP hx hy)) fun H4 s4=> ?_
          refine⟨_,s4 _ _ (s3 _ _ hl'),eI (by rw [length_map,length_take];omega),rfl,fun b' u e'=> ?_,?_⟩
          · rw [aQ (bW e' hl)];exact s4 _ _ (s3 _ _ (hs _ _ e'))
          · rw [aJ,take_succ,hx,map_append];rfl
        · rintro σ H' ⟨_,hs,hl'⟩
          rw [take_of_length_le (zjQ _)]at hl'
          exact hQ' σ H' hs hl'
      have fin:∀(l:Addr)(H2:Hp),Same H H2->∀(σ:L2.St)(H':Hp),Same H2 H'->H' l=some (.lst (xs.map fun _=>V.bl true))->∃(p:Addr)(bs:List Bool),[V.ref l]=[.ref p]/\SqL K H' p (bs.map V.bl)/\Q (.bl (bs.all id)) H':=fun l H2 sH σ H' hs hl'=>by
        refine⟨l,xs.map fun _=>true,rfl,SqL.of (by rw [hl',map_map];rfl),?_⟩
        have:(xs.map fun _=>true).all id=true:=by simp
        rw [this]
        exact q H' (sH.trans hs)
      rcases hpq with⟨h1,h2⟩| ⟨h1,h2⟩
      · refine .inl ⟨_,rfl,_,rfl,p,qq,xs,ys,rfl,SqL.of (s2 _ _ h1),SqL.of (s2 _ _ h2),fun Z l hl=> ?_⟩
        exact loop kL (fun H' s=> ⟨SqL.of (s _ _ h1),SqL.of (s _ _ h2)⟩) l _ s2 hl _ fun σ H' hs hl'=>fin l _ s2 σ H' hs hl'
      · refine .inr ⟨_,rfl,_,rfl,p,qq,xs,ys,rfl,SqT.of (s2 _ _ h1),SqT.of (s2 _ _ h2),fun Z l hl=> ?_⟩
        exact loop kT (fun H' s=> ⟨SqT.of (s _ _ h1),SqT.of (s _ _ h2)⟩) l _ s2 hl _ fun σ H' hs hl'=>fin l _ s2 σ H' hs hl'
theorem tZ {f:Addr}{fd:FuncData}(F:Fun K "_law_same" "_law_same" mQ f fd)(T:Txt mg)(T2:dY mg)(mS:mg "_law_same" =some (.ref f))(bS:L2.Binds K fd ["_law_thing_here","_law_due"] []):∀n:Nat,FnOk P w K mg base CX0 (n+1) f fd ["_law_thing_here","_law_due"] (lV n)
 |0=>(vV (k:=0) F T T2 mS bS FnOk.never (fun _ _ _=>False) (fun _ _ _ _ _ z=>z) (fun _ _ _ _ _ z=>z.elim)).imp fun vs H Q E h=>by
  obtain⟨a,b,e,h1,h2⟩:=h
  exact⟨a,b,e,.inl h1,h2⟩
 |n+1=>(vV (k:=n+1) F T T2 mS bS (tZ F T T2 mS bS n) (fun H a b=>SameV H n a b) (fun H H' s a b z=>SameV.same s z) (fun a b H Q E h q=> ⟨a,b,rfl,h,q⟩)).imp fun vs H Q E h=>by
  obtain⟨a,b,e,h1,h2⟩:=h
  exact⟨a,b,e,h1,h2⟩
abbrev nLC:List Str:=["_law_mead_here","_law_found","_law_row","_law_numbers"]
theorem scLC:bV nLC ["_law_mead_here"] (aK oZ):=by ac_rfl
theorem zL:(["_law_column","_law_number","_law_row"]:List Str).Nodup:=by decide +kernel
theorem A58 {f:Addr}{fd:FuncData}(F:Fun K "_law_cells" "_law_cells" oZ f fd)(T:Txt mg):FnOk P w K mg base CX0 1 f fd ["_law_mead_here"] (gE pos):=by
 refine F.ok scLC (fun vs H Q E h=> ?_) (fun cdv A outer s H vs Q E hr h=> ?_)
 ·obtain⟨a,g,w',rfl,_⟩:=h;rfl
 ·obtain⟨a,g,w',rfl,⟨bs,ha,hG⟩,G,q⟩:=h
  have nd:=scLC.nd
  refine⟨_,aU (cJ (i:=1) nd rfl (Or.inl rfl) (dU aA))<|
   aU (iB PassesOwn.never rfl (kF rfl rfl T.enumerate (aE (pv 0) aA)) (eQ rfl (cB (bE (i:=2) nd rfl (Or.inr rfl)) (cB (bE (i:=3) nd rfl (Or.inl rfl)) eP)))
    (aW (gO (jZ PySem.F.plainAttrs_list PySem.F.slot_list_extend PySem.F.type_list_extend A2m (pv 1) (mJ (gY (aK oZ).names nLC ["_law_column","_law_number"] [("_law_row",2)] rfl (kF rfl rfl T.enumerate (aE (pv 3) aA)) rfl rfl rfl (by decide +kernel)
     (fun Z=>eQ rfl (cB (bE (i:=0) zL rfl (Or.inl rfl)) (cB (bE (i:=1) zL rfl (Or.inl rfl)) eP))) (fun Z=>jL (bN kC (pv 1) aH (nomark _))) (fun Z=>cZ (aE (pv 2) (aE (pv 0) aA)))) aA)))))<|
   aW (bB (pv 1)),?_⟩
  refine⟨by show 0<=sizeLine;decide,fun l hl=> ?_⟩
  have s0:=aV (o:=.lst []) hl
  have hbs:bs.length=g.length:=Paired.length hG
  refine⟨_,rfl,a,_,rfl,SqT.of (s0 _ _ ha),?_⟩
  refine jI (xs:=bs.map V.ref) (fun i σ H'=>(∃o2 o3,σ=[some (.ref a),some (.ref l),o2,o3])/\Same H H'/\∃ps,H' l=some (.lst (ps.map V.ref))/\PlAt H' ps (bC pos (g.take i))/\ps.length<=6*i) ⟨⟨_,_,rfl⟩,s0,[],by rw [aJ];rfl,.nil,zero_le _⟩ (fun i σ H' _ h=>SqT.of (h.2.1 _ _ ha)) ?_ ?_
  ·rintro i r p σ H' hx ⟨⟨o2,o3,rfl⟩,hs,ps,hl',hP,hn⟩ hp
   obtain⟨b,hbi,rfl⟩:∃b,bs[i]?=some b/\V.ref b=r:=by
    rw [getElem?_map]at hx
    cases e:bs[i]? with
    |none=>rw [e]at hx;cases hx
    |some b=>rw [e]at hx;exact⟨b,rfl,Option.some.inj hx⟩
   obtain⟨xs,hgi,hb⟩:=hG.row hbi
   have hx5:xs.length<=6:=by have:=G.len xs (mem_of_getElem? hgi);have:=G.w5;omega
   have h4:=G.h4
   have hi4:i<4:=lt_of_lt_of_le (zjW.mp hgi).1 h4
   have s1:Same H' (upd H' p (.tup [.int i,.ref b])):=aV hp
   refine⟨p,_,rfl,SqT.of aJ,rfl,_,_,rfl,_,_,rfl,rfl,?_⟩
   refine⟨_,rfl,.inl ⟨rfl,_,SqL.of (s1 _ _ hl')⟩,_,rfl,b,xs.map V.int,rfl,SqT.of (s1 _ _ (hs _ _ hb)),fun Z l2 hl2=> ?_⟩
   have sA:=hs.trans s1
   refine jI (xs:=xs.map V.int) (fun j σ H2=>(∃y1 y2,σ=[y1,y2,some (.int i)])/\Same (upd H' p (.tup [.int i,.ref b])) H2/\∃zs,H2 l2=some (.lst (zs.map V.ref))/\PlAt H2 zs (fL pos i (xs.take j))/\zs.length<=j) ⟨⟨_,_,rfl⟩,aV hl2,[],by rw [aJ];rfl,.nil,zero_le _⟩ (fun j σ H2 _ h=>SqT.of (h.2.1 _ _ (sA _ _ hb))) ?_ ?_
   ·rintro j x p2 σ H2 hxj ⟨⟨y1,y2,rfl⟩,hs2,zs,hl2',hP2,hn2⟩ hp2
    obtain⟨z,hzj,rfl⟩:∃z,xs[j]?=some z/\V.int z=x:=by
     rw [getElem?_map]at hxj
     cases e:xs[j]? with
     |none=>rw [e]at hxj;cases hxj
     |some z=>rw [e]at hxj;exact⟨z,rfl,Option.some.inj hxj⟩
    have hj:j<6:=lt_of_lt_of_le (zjW.mp hzj).1 hx5
    have s2:Same H2 (upd H2 p2 (.tup [.int j,.int z])):=aV hp2
    refine⟨p2,_,rfl,SqT.of aJ,rfl,_,_,rfl,_,_,rfl,rfl,?_⟩
    refine⟨_,rfl,_,_,rfl,rfl,_,rfl,cH (fun e=> ?_) fun e=> ?_⟩
    ·refine⟨_,rfl,_,rfl,(by show 2<=sizeLine;decide),fun q3 hq3=> ?_⟩
     have s3:=aV (o:=.tup [.int i,.int j]) hq3
     have hlq:l2≠q3:=bW (s2 _ _ hl2') hq3
     refine⟨_,s3 _ _ (s2 _ _ hl2'),eI (by rw [length_map];omega),⟨_,_,rfl⟩,fun b' u e'=> ?_,zs++[q3],?_,?_,?_⟩
     ·rw [aQ (bW e' hl2)];exact s3 _ _ (s2 _ _ (hs2 _ _ e'))
     ·rw [aJ,map_append];rfl
     ·have hne:∀b' u,(upd (upd H2 p2 (.tup [.int j,.int z])) q3 (.tup [.int i,.int j])) b'=some (.tup u)->(upd (upd (upd H2 p2 (.tup [.int j,.int z])) q3 (.tup [.int i,.int j])) l2 (.lst (zs.map V.ref++[.ref q3]))) b'=some (.tup u):=fun b' u e'=>by
       rw [aQ (fun z'=> ?_)];exact e'
       rw [z',aQ hlq,s2 _ _ hl2']at e';cases e'
      rw [Grd.rowF_succ pos i xs j _ hzj,if_pos (show pos z=true from e)]
      exact PlAt.snoc (Paired.mapP ((hP2.same s2).same s3) fun _ _ e'=>hne _ _ e') (hne _ _ aJ)
     ·rw [length_append];show zs.length+1<=_;omega
    ·refine⟨⟨_,_,rfl⟩,hs2.trans s2,zs,s2 _ _ hl2',?_,by omega⟩
     rw [Grd.rowF_succ pos i xs j _ hzj,if_neg (by rw [show pos z=false from e];decide),append_nil]
     exact hP2.same s2
   ·rintro σ H2 ⟨⟨y1,y2,rfl⟩,hs2,zs,hl2',hP2,hn2⟩
    rw [length_map]at hP2 hn2
    rw [take_of_length_le (zjQ _)]at hP2
    have hlH2:=hs2 _ _ (s1 _ _ hl')
    have hll:l2≠l:=fun z=>by rw [z,s1 _ _ hl']at hl2;cases hl2
    refine⟨l,l2,_,_,rfl,rfl,hlH2,hl2',by rw [length_map,length_map,sizeLine_eq];omega,?_⟩
    have keepT:∀b' u,H2 b'=some (.tup u)->(upd H2 l (.lst (ps.map V.ref++zs.map V.ref))) b'=some (.tup u):=fun b' u e'=>by
     rw [aQ (fun z'=> ?_)];exact e'
     rw [z',hlH2]at e';cases e'
    refine⟨⟨_,_,rfl⟩,fun b' u e'=> ?_,ps++zs,by rw [aJ,map_append],?_,by rw [length_append];omega⟩
    ·rw [aQ (bW e' hl)];exact hs2 _ _ (s1 _ _ (hs _ _ e'))
    ·rw [Grd.gridF_succ pos g i _ hgi]
     have app:∀{as bs:List Addr}{cs ds:List (Int×Int)},PlAt (upd H2 l (.lst (ps.map V.ref++zs.map V.ref))) as cs->PlAt (upd H2 l (.lst (ps.map V.ref++zs.map V.ref))) bs ds->PlAt (upd H2 l (.lst (ps.map V.ref++zs.map V.ref))) (as++bs) (cs++ds):=by
      intro as bs cs ds h1 h2
      induction h1 with
      |nil=>exact h2
      |cons r t ih=>exact .cons r ih
     exact app (Paired.mapP ((hP.same s1).same hs2) fun _ _ e'=>keepT _ _ e') (Paired.mapP hP2 fun _ _ e'=>keepT _ _ e')
  ·rintro σ H' ⟨⟨o2,o3,rfl⟩,hs,ps,hl',hP,_⟩
   rw [length_map,hbs,take_of_length_le (zjQ _)]at hP
   exact⟨_,rfl,q H' l ps hl hs hl' hP⟩
end
end M46
namespace PySem
section
variable {prog:Program}{w:World}{A:Around}{E:Value->Shared->Prop}{s:Shared}
end
end PySem
namespace L2
open PySem PySem.Spec PyProof.Rows
section
variable {X:Cx}
end
end L2
namespace Srt
open PySem PySem.W PyProof.Rows
section
variable {cmp:Nat->Nat->(Bool->Shared->Prop)->Shared->Prop}{n:Nat}{r:Nat->Int}{s:Shared}
def iF (cmp:Nat->Nat->(Bool->Shared->Prop)->Shared->Prop)(n:Nat)(r:Nat->Int)(s:Shared):Prop:=∀i j (C:Bool->Shared->Prop),i<n->j<n->C (decide (r i<r j)) s->cmp i j C s
def at' (p:Array Nat)(k:Nat):Nat:=p.getD k 0
def Pm (n:Nat)(p:Array Nat):Prop:=p.Perm (List.range n).toArray
theorem Pm.size {p:Array Nat}(h:Pm n p):p.size=n:=by rw [Array.Perm.size_eq h];simp
theorem Pm.lt {p:Array Nat}(h:Pm n p)(k:Nat)(hn:0<n):at' p k<n:=by
 unfold at'
 by_cases hk:k<p.size
 ·have e:p.getD k 0=p[k]:=by simp [Array.getD,hk]
  rw [e]
  have h1:p[k]∈p.toList:=by simp
  have h2:=(Array.perm_iff_toList_perm.mp h).mem_iff.mp h1
  simpa using h2
 ·have e:p.getD k 0=0:=by simp [Array.getD,hk]
  rw [e];exact hn
def R (r:Nat->Int)(p:Array Nat)(k:Nat):Int:=r (at' p k)
def Up (r:Nat->Int)(p:Array Nat)(k:Nat):Prop:=∀i j,i<=j->j<k->R r p i<=R r p j
def Dn (r:Nat->Int)(p:Array Nat)(k:Nat):Prop:=∀i j,i<=j->j<k->R r p j<=R r p i
theorem A8e {p:Array Nat}{k:Nat}(h:Up r p k)(h1:R r p (k - 1)<=R r p k):Up r p (k+1):=by
 intro i j hij hj
 by_cases e:j<k
 ·exact h i j hij e
 ·have:j=k:=by omega
  subst this
  by_cases e2:i=j
  ·subst e2;exact Int.le_refl _
  ·exact Int.le_trans (h i (j - 1) (by omega) (by omega)) h1
theorem pN {p:Array Nat}{k:Nat}(h:Dn r p k)(h1:R r p k<=R r p (k - 1)):Dn r p (k+1):=by
 intro i j hij hj
 by_cases e:j<k
 ·exact h i j hij e
 ·have:j=k:=by omega
  subst this
  by_cases e2:i=j
  ·subst e2;exact Int.le_refl _
  ·exact Int.le_trans h1 (h i (j - 1) (by omega) (by omega))
theorem A2s {p:Array Nat}{i j:Nat}(hj:j<=p.size)(k:Nat):at' (kas_rev p i j) k=if i<=k/\k<j then at' p (i+j - 1 - k)else at' p k:=by
 have e:=getElem?_mirror_all (xs:=p) (i:=i) hj k
 have g:∀(xs:Array Nat)(k:Nat),at' xs k=(xs[k]?).getD 0:=fun xs k=>by unfold at';simp [Array.getD];split<;>simp [*]
 rw [g,g,g]
 show(mirror p i j ((j - i)/2))[k]?.getD 0=_
 rw [e]
 split<;>rfl
theorem tK {p:Array Nat}{i j:Nat}(hj:j<=p.size)(k:Nat):R r (kas_rev p i j) k=if i<=k/\k<j then R r p (i+j - 1 - k)else R r p k:=by
 unfold R;rw [A2s hj];split<;>rfl
theorem kQ {p:Array Nat}{i j:Nat}(hj:j<=p.size)(h:∀k,i<=k->k<j->R r p k=R r p (j - 1))(k:Nat):R r (kas_rev p i j) k=R r p k:=by
 rw [tK hj]
 split
 ·rw [h _ (by omega) (by omega),h k (by omega) (by omega)]
 ·rfl
theorem Pm.rev {p:Array Nat}(h:Pm n p)(i j:Nat):Pm n (kas_rev p i j):=Array.Perm.trans (mirror_perm _ _ _ _) h
theorem Pm.bub {p:Array Nat}(h:Pm n p)(k d:Nat):Pm n (bubble p k d):=Array.Perm.trans (bubble_perm _ _ _) h
theorem wG {p:Array Nat}{src d:Nat}(hs:src<p.size)(hd:d<=src)(k:Nat):R r (bubble p src d) k=if k=src - d then R r p src else if src - d<k/\k<=src then R r p (k - 1)else R r p k:=by
 have e:=getElem?_bubble (xs:=p) hs d hd k
 have g:∀(xs:Array Nat)(k:Nat),at' xs k=(xs[k]?).getD 0:=fun xs k=>by unfold at';simp [Array.getD];split<;>simp [*]
 unfold R
 rw [g,e]
 split
 ·rw [g]
 ·split<;>rw [g]
theorem pO (ha:iF cmp n r s)(hn:0<n){p:Array Nat}(hp:Pm n p):∀(f k:Nat)(Q:Nat->Shared->Prop),1<=k->Up r p k->(∀m,k<=m->m<=k+f->Up r p m->(m=k+f\/R r p m<R r p (m - 1))->Q m s)->(kas_asc p f k).kasWp cmp Q s
 |0,k,Q,h1,hu,h=>h k (zjQ _) (zjQ _) hu (.inl rfl)
 |f+1,k,Q,h1,hu,h=>by
  show cmp (at' p k) (at' p (k - 1)) (fun b s'=>(if b=true then KasT.ret k else kas_asc p f (k+1)).kasWp cmp Q s') s
  refine ha _ _ _ (hp.lt _ hn) (hp.lt _ hn) ?_
  by_cases c:r (at' p k)<r (at' p (k - 1))
  ·rw [zjV c]
   exact h k (zjQ _) (by omega) hu (.inr c)
  ·rw [zjU c]
   refine pO ha hn hp f (k+1) Q (by omega) (A8e hu (Int.not_lt.mp c)) fun m a b u e=>h m (by omega) (by omega) u ?_
   rcases e with e|e
   ·left;omega
   ·exact .inr e
theorem tH (ha:iF cmp n r s)(hn:0<n):∀(f k q:Nat)(p:Array Nat)(Q:Array Nat×Nat×Nat->Shared->Prop),Pm n p->1<=k->k+f<=n->Dn r p k->q+1<=k->(∀i,k -(q+1)<=i->i<k->R r p i=R r p (k - 1))->
  (∀p' m q',Pm n p'->k<=m->m<=k+f->Dn r p' m->q'+1<=m->(∀i,m -(q'+1)<=i->i<m->R r p' i=R r p' (m - 1))->Q (p',m,q') s)->(kas_desc f p k q).kasWp cmp Q s
 |0,k,q,p,Q,hp,h1,hk,hd,hq,he,h=>h p k q hp (zjQ _) (zjQ _) hd hq he
 |f+1,k,q,p,Q,hp,h1,hk,hd,hq,he,h=>by
  have hsz:k<=p.size:=by rw [hp.size];omega
  show cmp (at' p k) (at' p (k - 1)) (fun c s'=>(if c=true then(if q>0 then kas_desc f (kas_rev p (k -(q+1)) k) (k+1) 0 else kas_desc f p (k+1) 0)else KasT.ask (at' p (k - 1)) (at' p k) fun d=>if d=true then KasT.ret (p,k,q)else kas_desc f p (k+1) (q+1)).kasWp cmp Q s') s
  refine ha _ _ _ (hp.lt _ hn) (hp.lt _ hn) ?_
  by_cases c:r (at' p k)<r (at' p (k - 1))
  ·rw [zjV c]
   have go:∀p',Pm n p'->(∀i,R r p' i=R r p i)->(kas_desc f p' (k+1) 0).kasWp cmp Q s:=fun p' hp' e=>by
    refine tH ha hn f (k+1) 0 p' Q hp' (by omega) (by omega) ?_ (by omega) ?_ fun p2 m q' a1 a2 a3 a4 a5 a6=>h p2 m q' a1 (by omega) (by omega) a4 a5 a6
    ·intro i j hij hj
     rw [e,e]
     exact pN hd (Int.le_of_lt c) i j hij hj
    ·intro i hi1 hi2
     have:i=k:=by omega
     subst this;rfl
   show(if q>0 then kas_desc f (kas_rev p (k -(q+1)) k) (k+1) 0 else kas_desc f p (k+1) 0).kasWp cmp Q s
   by_cases hq0:q>0
   ·rw [if_pos hq0];exact go _ (hp.rev _ _) (kQ hsz he)
   ·rw [if_neg hq0];exact go p hp fun _=>rfl
  ·rw [zjU c]
   show cmp (at' p (k - 1)) (at' p k) (fun d s'=>(if d=true then KasT.ret (p,k,q)else kas_desc f p (k+1) (q+1)).kasWp cmp Q s') s
   refine ha _ _ _ (hp.lt _ hn) (hp.lt _ hn) ?_
   by_cases d:r (at' p (k - 1))<r (at' p k)
   ·rw [zjV d]
    exact h p k q hp (zjQ _) (by omega) hd hq he
   ·rw [zjU d]
    have e:R r p k=R r p (k - 1):=Int.le_antisymm (Int.not_lt.mp d) (Int.not_lt.mp c)
    show(kas_desc f p (k+1) (q+1)).kasWp cmp Q s
    refine tH ha hn f (k+1) (q+1) p Q hp (by omega) (by omega) (pN hd (Int.le_of_eq e)) (by omega) ?_ fun p2 m q' a1 a2 a3 a4 a5 a6=>h p2 m q' a1 (by omega) (by omega) a4 a5 a6
    intro i hi1 hi2
    rw [show k+1 - 1=k by omega,e]
    by_cases ik:i=k
    ·rw [ik,e]
    ·exact he i (by omega) (by omega)
theorem vL (ha:iF cmp n r s)(hn:0<n){p:Array Nat}(hp:Pm n p){k nrem:Nat}{Q:Nat×Array Nat->Shared->Prop}(h1:1<=k)(hk:k<=nrem)(hz:nrem<=n)(hd:Dn r p k)
  (h:∀m p',Pm n p'->1<=m->m<=nrem->Up r p' m->Q (m,p') s):(kas_tail3 k nrem p).kasWp cmp Q s:=by
 unfold kas_tail3
 rw [KasT.kasWp_bind]
 have hsz:k<=p.size:=by rw [hp.size];omega
 refine pO ha hn (hp.rev 0 k) _ _ _ h1 ?_ fun m a b u _=>h m _ (hp.rev 0 k) (by omega) (by omega) u
 intro i j hij hj
 rw [tK hsz,tK hsz,if_pos (by omega),if_pos (by omega)]
 exact hd _ _ (by omega) (by omega)
theorem zK (ha:iF cmp n r s)(hn:0<n){p:Array Nat}(hp:Pm n p){k nrem:Nat}{Q:Nat×Array Nat->Shared->Prop}(hk:k+1<=nrem)(hz:nrem<=n)(hd:Dn r p (k+1))
  (h:∀m p',Pm n p'->1<=m->m<=nrem->Up r p' m->Q (m,p') s):(kas_descPart k nrem p).kasWp cmp Q s:=by
 unfold kas_descPart
 rw [KasT.kasWp_bind]
 refine tH ha hn _ (k+1) 0 p _ hp (by omega) (by omega) hd (by omega) (fun i a b=>show R r p i=R r p (k+1 - 1) by rw [show i=k+1 - 1 by omega]) fun p' m q hp' a1 a2 hd' hq he=> ?_
 show(if q>0 then kas_tail3 m nrem (kas_rev p' (m -(q+1)) m)else kas_tail3 m nrem p').kasWp cmp Q s
 have hsz:m<=p'.size:=by rw [hp'.size];omega
 by_cases hq0:q>0
 ·rw [if_pos hq0]
  refine vL ha hn (hp'.rev _ _) (by omega) (by omega) hz ?_ h
  intro i j hij hj
  rw [kQ hsz he,kQ hsz he]
  exact hd' i j hij hj
 ·rw [if_neg hq0]
  exact vL ha hn hp' (by omega) (by omega) hz hd' h
theorem A5e (ha:iF cmp n r s)(hn:0<n){p:Array Nat}(hp:Pm n p){Q:Nat×Array Nat->Shared->Prop}
  (h:∀m p',Pm n p'->1<=m->m<=n->Up r p' m->Q (m,p') s):(kas_count n p).kasWp cmp Q s:=by
 unfold kas_count
 rw [KasT.kasWp_bind]
 refine pO ha hn hp _ 1 _ (zjQ _) (fun i j a b=>show R r p i<=R r p j by rw [show i=j by omega];exact Int.le_refl _) fun m a b u e=> ?_
 by_cases e1:m=n
 ·rw [if_pos (by simpa using e1)]
  exact h m p hp a (by omega) u
 ·rw [if_neg (by simpa using e1)]
  have hlt:R r p m<R r p (m - 1):=e.resolve_left (by omega)
  have dn1:∀p',Pm n p'->Dn r p' m->(∀i,R r p' i=R r p i)->Dn r p' (m+1):=fun p' _ d z=>pN d (by rw [z,z];exact Int.le_of_lt hlt)
  by_cases e2:m>1
  ·rw [if_pos e2]
   show cmp (at' p 0) (at' p (m - 1)) (fun c s'=>(if c=true then KasT.ret (m,p)else kas_descPart m n (kas_rev p 0 m)).kasWp cmp Q s') s
   refine ha _ _ _ (hp.lt _ hn) (hp.lt _ hn) ?_
   by_cases c:r (at' p 0)<r (at' p (m - 1))
   ·rw [zjV c]
    exact h m p hp a (by omega) u
   ·rw [zjU c]
    have hall:∀k,0<=k->k<m->R r p k=R r p (m - 1):=fun k _ hk=>by
     have a1:=u 0 k (by omega) hk
     have a2:=u k (m - 1) (by omega) (by omega)
     have a3:R r p (m - 1)<=R r p 0:=Int.not_lt.mp c
     omega
    have hsz:m<=p.size:=by rw [hp.size];omega
    refine zK ha hn (hp.rev 0 m) (by omega) (zjQ _) (dn1 _ (hp.rev 0 m) ?_ (kQ hsz hall)) h
    intro i j hij hj
    rw [kQ hsz hall,kQ hsz hall,hall i (by omega) (by omega),hall j (by omega) hj]
    exact Int.le_refl _
  ·rw [if_neg e2]
   have:m=1:=by omega
   subst this
   refine zK ha hn hp (by omega) (zjQ _) (dn1 p hp (fun i j hij hj=> ?_) fun _=>rfl) h
   have:i=j:=by omega
   subst this;exact Int.le_refl _
theorem qG (ha:iF cmp n r s)(hn:0<n){p:Array Nat}(hp:Pm n p){k:Nat}(hu:Up r p k):∀(f lo hi:Nat)(Q:Nat->Shared->Prop),lo<=hi->hi<=k->hi - lo<=f->(∀i,i<lo->R r p i<=R r p k)->(∀i,hi<=i->i<k->R r p k<R r p i)->
  (∀l,l<=k->(∀i,i<l->R r p i<=R r p k)->(∀i,l<=i->i<k->R r p k<R r p i)->Q l s)->(kas_place p k f lo hi).kasWp cmp Q s
 |0,lo,hi,Q,h1,h2,h3,hl,hh,h=>h lo (by omega) hl fun i a b=>hh i (by omega) b
 |f+1,lo,hi,Q,h1,h2,h3,hl,hh,h=>by
  unfold kas_place
  by_cases e:lo≥hi
  ·rw [if_pos e]
   exact h lo (by omega) hl fun i a b=>hh i (by omega) b
  ·rw [if_neg e]
   show cmp (at' p k) (at' p ((lo+hi)/2)) (fun c s'=>(if c=true then kas_place p k f lo ((lo+hi)/2)else kas_place p k f ((lo+hi)/2+1) hi).kasWp cmp Q s') s
   refine ha _ _ _ (hp.lt _ hn) (hp.lt _ hn) ?_
   by_cases c:r (at' p k)<r (at' p ((lo+hi)/2))
   ·rw [zjV c]
    refine qG ha hn hp hu f lo ((lo+hi)/2) Q (by omega) (by omega) (by omega) hl (fun i a b=> ?_) h
    exact Int.lt_of_lt_of_le c (hu ((lo+hi)/2) i a b)
   ·rw [zjU c]
    refine qG ha hn hp hu f ((lo+hi)/2+1) hi Q (by omega) (by omega) (by omega) (fun i a=> ?_) hh h
    exact Int.le_trans (hu i ((lo+hi)/2) (by omega) (by omega)) (Int.not_lt.mp c)
theorem vG (ha:iF cmp n r s)(hn:0<n):∀(f k:Nat)(p:Array Nat)(Q:Array Nat->Shared->Prop),Pm n p->k+f=n->Up r p k->(∀p',Pm n p'->Up r p' n->Q p' s)->(kas_bin f p k).kasWp cmp Q s
 |0,k,p,Q,hp,hk,hu,h=>h p hp (by rw [←hk];exact hu)
 |f+1,k,p,Q,hp,hk,hu,h=>by
  show((kas_place p k k 0 k).bind fun l=>kas_bin f (bubble p k (k - l)) (k+1)).kasWp cmp Q s
  rw [KasT.kasWp_bind]
  refine qG ha hn hp hu k 0 k _ (zero_le _) (zjQ _) (by omega) (fun i a=>by omega) (fun i a b=>by omega) fun l hl h1 h2=> ?_
  refine vG ha hn f (k+1) _ Q (hp.bub _ _) (by omega) ?_ h
  have hs:k<p.size:=by rw [hp.size];omega
  intro i j hij hj
  rw [wG hs (by omega),wG hs (by omega),show k -(k - l)=l by omega]
  by_cases c1:i=l
  ·rw [if_pos c1]
   by_cases c2:j=l
   ·rw [if_pos c2];exact Int.le_refl _
   ·rw [if_neg c2,if_pos (by omega)]
    exact Int.le_of_lt (h2 (j - 1) (by omega) (by omega))
  ·rw [if_neg c1]
   by_cases c2:j=l
   ·rw [if_pos c2,if_neg (by omega)]
    exact h1 i (by omega)
   ·rw [if_neg c2]
    by_cases c3:l<i/\i<=k
    ·rw [if_pos c3,if_pos (by omega)]
     exact hu _ _ (by omega) (by omega)
    ·rw [if_neg c3]
     by_cases c4:l<j/\j<=k
     ·rw [if_pos c4]
      exact hu _ _ (by omega) (by omega)
     ·rw [if_neg c4]
      exact hu _ _ hij (by omega)
theorem A6i (ha:iF cmp n r s)(h2:2<=n){Q:Array Nat->Shared->Prop}(h:∀p,Pm n p->Up r p n->Q p s):(kas_sort n).kasWp cmp Q s:=by
 unfold kas_sort
 rw [KasT.kasWp_bind]
 refine A5e ha (by omega) (Array.Perm.refl _) fun m p hp h1 hm u=> ?_
 show(if m<n then kas_bin (n - max m 1) p (max m 1)else KasT.ret p).kasWp cmp Q s
 by_cases e:m<n
 ·rw [if_pos e]
  have:max m 1=m:=by omega
  rw [this]
  exact vG ha (by omega) _ _ p Q hp (by omega) u h
 ·rw [if_neg e]
  have:m=n:=by omega
  subst this
  exact h p hp u
end
section
variable {prog:Program}{w:World}{A:Around}{E:Value->Shared->Prop}{s:Shared}{κ:SortKind}{r:Nat->Int}
def But (a:Addr)(h h':Heap):Prop:=∀b o,b≠a->h.get? b=some o->h'.get? b=some o
theorem A02 (n:Nat):Pm n (toArray (List.range n)):=Array.Perm.refl _
theorem A9k {p:Array Nat}{n:Nat}(h:n<2):Up r p n:=fun i j hij hj=>by
 have:i=j:=by omega
 subst this;exact Int.le_refl _
theorem A3l (vs:List Value):(toArray (List.range vs.length)).toList.map (fun i=>vs.getD i Value.none)=vs:=by
 refine ext_getElem (by simp) fun i h1 h2=> ?_
 simp [h2]
theorem A4j {a:Addr}{vs:List Value}{n:Nat}{P:PySem.Fin->Shared->Prop}(ho:s.heap.get? a=some (seqObj "list" vs.toArray n))(h64:vs.length<64)
  (hk:2<=vs.length->∀h',But a s.heap h'->(∀Q:SortKind->Shared->Prop,Q κ {s with heap:=h'}->wpAny (model prog w) A (keyKind' vs.toArray) Q E {s with heap:=h'})/\iF (kas_ask prog w A κ vs) vs.length r {s with heap:=h'})
  (h:∀h' c p,Pm vs.length p->Up r p vs.length->h'.get? a=some (seqObj "list" (p.toList.map fun i=>vs.getD i Value.none).toArray c)->But a s.heap h'->P (.done (.ret .none)) {s with heap:=h'}):
  wpAny (model prog w) A (Builtin.«list.sort» ⟨[.ref a],[]⟩) P E s:=by
 have la:=zjT ho
 obtain⟨c1,o1⟩:∃c1,(s.heap.update a (Obj.mapSeq fun _=>(#[]:Array Value))).get? a=some (seqObj "list" #[] c1):=⟨_,get?_update_seq ho fun _=> #[]⟩
 have b1:But a s.heap (s.heap.update a (Obj.mapSeq fun _=>(#[]:Array Value))):=fun b o hb e=>by rw [Heap.get?_update_ne _ _ _ _ hb];exact e
 generalize hg1:s.heap.update a (Obj.mapSeq fun _=>(#[]:Array Value))=g1 at o1 b1
 have o3:((g1.push (seqObj "tuple" vs.toArray 0)).push (seqObj "list" #[] 0)).get? a=some (seqObj "list" #[] c1):=zjX _ (zjX _ o1)
 have b3:But a s.heap ((g1.push (seqObj "tuple" vs.toArray 0)).push (seqObj "list" #[] 0)):=fun b o hb e=>zjX _ (zjX _ (b1 b o hb e))
 rw [list_sort_plain]
 refine zjZ (listItems_at ho rfl ?_)
 refine zjZ (listUpdate_at ho rfl ?_ (by rw [size_toArray,sizeLine_eq];omega) (zero_le _))
 rw [hg1]
 refine zjZ (seqEpoch_at o1 rfl ?_)
 refine zjZ (wpAny_newTuple ?_ (by show vs.length<=_;rw [sizeLine_eq];omega))
 refine zjZ (wpAny_newList ?_ (zero_le _))
 refine wpAny_holding ?_
 show wpAny (model prog w) A _ P E {s with heap:=(g1.push (seqObj "tuple" vs.toArray 0)).push (seqObj "list" #[] 0)}
 generalize (g1.push (seqObj "tuple" vs.toArray 0)).push (seqObj "list" #[] 0)=g3 at o3 b3
 dsimp only
 have fin:∀(st:SortSt)(p:Array Nat),Pm vs.length p->Up r p vs.length->(arrOf st).map (·.2)=(p.toList.map fun i=>vs.getD i Value.none).toArray->failedOf st=none->
   wpAny (model prog w) A (do
    let touched:=(←seqEpoch a) !=c1
    Builtin.List.listUpdate (.ref a) fun _=>(arrOf st).map (·.2)
    if let some e:=failedOf st then rule "list.sort.comparison-raised";throw e
    if touched then rule "list.sort.modified";raiseError "ValueError" "list modified during sort"
    ret .none) P E {s with heap:=g3}:=fun st p hp hu hout hf=>by
  rw [hout,hf]
  have hz:(p.toList.map fun i=>vs.getD i Value.none).toArray.size=vs.length:=by rw [size_toArray,length_map,Array.length_toList,hp.size]
  obtain⟨c4,o4⟩:∃c4,(g3.update a (Obj.mapSeq fun _=>(p.toList.map fun i=>vs.getD i Value.none).toArray)).get? a=some (seqObj "list" (p.toList.map fun i=>vs.getD i Value.none).toArray c4):=⟨_,get?_update_seq o3 fun _=>(p.toList.map fun i=>vs.getD i Value.none).toArray⟩
  refine zjZ (seqEpoch_at o3 rfl ?_)
  refine zjZ (listUpdate_at o3 rfl ?_ (zero_le _) (le_trans (Nat.le_of_eq hz) (by rw [sizeLine_eq];omega)))
  simp only [bne_self_eq_false,Bool.false_eq_true,if_false]
  exact zjY (h _ c4 p hp hu o4 fun b o hb e=>by rw [Heap.get?_update_ne _ _ _ _ hb];exact b3 b o hb e)
 by_cases h2:vs.toArray.size<2
 ·rw [if_pos h2,if_pos h2]
  refine zjZ (zjY ?_)
  rw [StateT.run_pure]
  refine zjZ (zjY ?_)
  refine fin _ _ (A02 _) (A9k (by rw [size_toArray]at h2;exact h2)) ?_ rfl
  rw [A3l]
  show(vs.toArray.zip vs.toArray).map (·.2)=_
  apply Array.toList_inj.mp
  simp [List.map_snd_zip]
 ·rw [if_neg h2,if_neg h2]
  rw [size_toArray]at h2
  obtain⟨kk,ask⟩:=hk (by omega) g3 b3
  refine zjZ (kk _ ?_)
  refine zjZ (wpAny_mono (kat_run (Q:=fun st' s'=>s'={s with heap:=g3}/\∃p,Pm vs.length p/\Up r p vs.length/\arrOf st'=p.map (kas_item (vs.toArray.zip vs.toArray))/\failedOf st'=none) (G:=fun p s'=>s'={s with heap:=g3}/\Pm vs.length p/\Up r p vs.length)
   rfl (by omega) h64 (fun p st' s' a1 a2 a3 a4=> ⟨a4.1,p,a4.2.1,a4.2.2,a2,a3⟩) (A6i ask (by omega) fun p hp hu=> ⟨rfl,hp,hu⟩)) ?_ fun _ _ e=>e)
  rintro⟨⟨⟩,st'⟩ s' ⟨rfl,p,hp,hu,har,hf⟩
  exact fin st' p hp hu (kat_snds rfl har) hf
theorem A4t {x:Value}{vs:List Value}{Q:Value->Shared->Prop}(h64:vs.length<64)
  (hc:∀Q':List Value->Shared->Prop,(∀h1 tk,(∀b o,s.heap.get? b=some o->h1.get? b=some o)->s.heap.objs.size<=h1.objs.size->Q' vs {s with heap:=h1,toks:=tk})->wpAny (model prog w) A.in1 (collect x) Q' E s)
  (hr:∀h1 tk,(∀b o,s.heap.get? b=some o->h1.get? b=some o)->2<=vs.length->(∀Q:SortKind->Shared->Prop,Q κ {s with heap:=h1,toks:=tk}->wpAny (model prog w) A.in1.in1 (keyKind' vs.toArray) Q E {s with heap:=h1,toks:=tk})/\iF (kas_ask prog w A.in1.in1 κ vs) vs.length r {s with heap:=h1,toks:=tk})
  (h:∀D h' tk c p,s.heap.objs.size<=D->Pm vs.length p->Up r p vs.length->h'.get? D=some (seqObj "list" (p.toList.map fun i=>vs.getD i Value.none).toArray c)->(∀b o,s.heap.get? b=some o->h'.get? b=some o)->Q (.ref D) {s with heap:=h',toks:=tk}):
  wpAny (model prog w) A (call (.builtin "sorted") [x]) Q E s:=by
 refine Calls.call_function_entry kind_sorted plain_sorted entry_sorted (args_sorted1 _) ?_
 unfold Builtin.«sorted»
 refine zjZ (m:=checkCount "sorted" 1 1 _) (zjY ?_)
 refine zjZ (hc _ fun h1 tk k1 z1=> ?_)
 refine zjZ (wpAny_newList ?_ (by rw [sizeLine_eq];omega))
 have oL:(h1.push (seqObj "list" vs.toArray 0)).get? h1.objs.size=some (seqObj "list" vs.toArray 0):=get?_push_size _ rfl
 have kL:∀b o,s.heap.get? b=some o->(h1.push (seqObj "list" vs.toArray 0)).get? b=some o/\b≠h1.objs.size:=fun b o e=> ⟨zjX _ (k1 b o e),ne_of_lt (lt_of_lt_of_le (zjT e) z1)⟩
 refine zjZ (wpAny_holding (wpAny_call_entry slot_list_sort ⟨_,oL,rfl⟩ entry_list_sort ?_ (args_list_sort _)))
 refine A4j (κ:=κ) (r:=r) oL h64 (fun h2 h' b'=>hr h' tk (fun b o e=>b' b o (kL b o e).2 (kL b o e).1) h2) fun h' c p hp hu o' b'=> ⟨_,rfl,?_⟩
 exact zjY ⟨_,rfl,h h1.objs.size h' tk c p z1 hp hu o' fun b o e=>b' b o (kL b o e).2 (kL b o e).1⟩
end
end Srt
namespace Srt
theorem nV:∀xs:List Int,HT.lexLt xs xs=false
 | []=>rfl
 |x::xs=>by rw [HT.lexLt_cons,if_pos rfl];exact nV xs
theorem tT:∀{xs ys zs:List Int},HT.lexLt xs ys=true->HT.lexLt ys zs=true->HT.lexLt xs zs=true
 | [],[],_,h,_=>by cases h
 | [],_::_,[],_,h=>by cases h
 | [],_::_,_::_,_,_=>rfl
 |_::_,[],_,h,_=>by cases h
 |_::_,_::_,[],_,h=>by cases h
 |x::xs,y::ys,z::zs,h1,h2=>by
  rw [HT.lexLt_cons]at h1 h2⊢
  by_cases e1:x=y
  ·subst e1
   rw [if_pos rfl]at h1
   by_cases e2:x=z
   ·subst e2
    rw [if_pos rfl]at h2⊢
    exact tT h1 h2
   ·rw [if_neg e2]at h2⊢;exact h2
  ·rw [if_neg e1,decide_eq_true_eq]at h1
   by_cases e2:y=z
   ·subst e2
    rw [if_neg e1,decide_eq_true_eq];exact h1
   ·rw [if_neg e2,decide_eq_true_eq]at h2
    rw [if_neg (by omega),decide_eq_true_eq];omega
theorem wM:∀{xs ys:List Int},HT.lexLt xs ys=false->HT.lexLt ys xs=false->xs=ys
 | [],[],_,_=>rfl
 | [],_::_,h,_=>by cases h
 |_::_,[],_,h=>by cases h
 |x::xs,y::ys,h1,h2=>by
  rw [HT.lexLt_cons]at h1 h2
  by_cases e:x=y
  ·subst e
   rw [if_pos rfl]at h1 h2
   rw [wM h1 h2]
  ·rw [if_neg e,decide_eq_false_iff_not]at h1
   rw [if_neg (fun z=>e z.symm),decide_eq_false_iff_not]at h2
   omega
def rank (rows:List (List Int))(x:List Int):Int:=(rows.countP fun z=>HT.lexLt z x:Nat)
theorem qM {α:Type}{p q:α->Bool}:∀{l:List α},(∀a∈l,p a=true->q a=true)->l.countP p<=l.countP q
 | [],_=>by simp
 |a::l,h=>by
  have ih:=qM (p:=p) (q:=q) (l:=l) fun b hb=>h b (zjS _ hb)
  rw [countP_cons,countP_cons]
  have:=h a zjR
  cases hp:p a<;>cases hq:q a<;>simp_all<;>omega
theorem uS {α:Type}{p q:α->Bool}{x:α}:∀{l:List α},(∀a∈l,p a=true->q a=true)->x∈l->p x=false->q x=true->l.countP p<l.countP q
 | [],_,hx,_,_=>by cases hx
 |a::l,h,hx,hp,hq=>by
  have hl:∀b∈l,p b=true->q b=true:=fun b hb=>h b (zjS _ hb)
  rw [countP_cons,countP_cons]
  rcases mem_cons.mp hx with e|e
  ·subst e
   have:=qM hl
   rw [hp,hq]
   simp
   omega
  ·have ih:=uS hl e hp hq
   have:=h a zjR
   cases hp':p a<;>cases hq':q a<;>simp_all<;>omega
theorem xP {rows:List (List Int)}{x y:List Int}(hx:x∈rows)(hy:y∈rows):decide (rank rows x<rank rows y)=HT.lexLt x y:=by
 unfold rank
 cases h:HT.lexLt x y with
 |true=>
  rw [decide_eq_true_eq]
  have:=uS (l:=rows) (p:=fun z=>HT.lexLt z x) (q:=fun z=>HT.lexLt z y) (fun a _ ha=>tT ha h) hx (nV x) h
  omega
 |false=>
  rw [decide_eq_false_iff_not]
  have:rows.countP (fun z=>HT.lexLt z y)<=rows.countP (fun z=>HT.lexLt z x):=by
   refine qM fun a _ ha=> ?_
   cases h2:HT.lexLt y x with
   |true=>exact tT ha h2
   |false=>rw [wM h h2];exact ha
  omega
end Srt
namespace L2
open PySem PySem.Spec PyProof.Rows Srt
section
variable {prog:Program}{w:World}{A:Around}
end
theorem jW:∀{as:List Addr}{us:List Value},Vals (as.map V.ref) us->us=as.map Value.ref
 | [],_,.nil=>rfl
 |a::as,_,.cons r t=>by rw [jW t];cases (show _=Value.ref a from r);rfl
section
variable {X:Cx}
end
end L2
namespace Wlk
abbrev Pl:=Int×Int
abbrev aY:=Pl×Pl
def cout (nw ne sw se:Bool):Fin 4->Bool
 |0=>se&& !ne
 |1=>sw&& !se
 |2=>nw&& !sw
 |3=>ne&& !nw
def nx (nw ne sw se:Bool)(d:Fin 4):Fin 4:=if cout nw ne sw se (d+1)=true then d+1 else if cout nw ne sw se d=true then d else d+3
section
variable (land:List Pl)(b:Pl)
end
def rtS (s:aY):Pl:=(s.2.1+s.2.2 - s.1.2,s.2.2+s.1.1 - s.2.1)
def A04 (ss:List aY)(b:Pl):List aY:=ss.filter fun o=>decide (o.1=b)
def nxt (ss:List aY)(s:aY):aY:=if (s.2,rtS s)∈ss then(s.2,rtS s)else(A04 ss s.2).headD s
section
variable {land:List Pl}{ss:List aY}
end
end Wlk
namespace Cyc
section
variable {α:Type} [DecidableEq α]
def it (f:α->α):Nat->α->α
 |0,s=>s
 |n+1,s=>f (it f n s)
variable {l:List α}{f:α->α}
def Per (f:α->α)(s:α)(m:Nat):Prop:=1<=m/\it f m s=s/\∀k,1<=k->k<m->it f k s≠s
open Classical in
noncomputable def per (f:α->α)(s:α):Nat:=if h:∃m,Per f s m then h.choose else 0
noncomputable def orb (f:α->α)(s:α):List α:=(List.range (per f s)).map fun i=>it f i s
def stF (o:α->List α)(wd:List (List α)×List α)(s:α):List (List α)×List α:=if s∈wd.2 then wd else(wd.1++[o s],wd.2++o s)
end
end Cyc
namespace Srt
open PySem PySem.W PyProof.Rows L2
def fl:List (Int×Int)->List Int
 | []=> []
 |c::cs=>c.1::c.2::fl cs
theorem A1a {β:Type}{zs:List β}(z0:β)(key:β->List Int){p:Array Nat}(hp:Pm zs.length p)(hu:Up (fun i=>rank (zs.map key) (key (zs.getD i z0))) p zs.length):
  (p.toList.map fun i=>zs.getD i z0).Perm zs/\(p.toList.map fun i=>zs.getD i z0).Pairwise fun a b=>HT.lexLt (key b) (key a)=false:=by
 have hperm:=Array.perm_iff_toList_perm.mp hp
 have inz:∀k (hk:k<p.toList.length),p.toList[k]<zs.length:=fun k hk=>by
  have:=hperm.mem_iff.mp (getElem_mem hk)
  simpa using this
 refine⟨(hperm.map fun i=>zs.getD i z0).trans (List.Perm.of_eq (ext_getElem (by simp) fun i a b=>by simp [b])),?_⟩
 rw [pairwise_map,pairwise_iff_getElem]
 intro i j hi hj hij
 have hsz:p.toList.length=zs.length:=by rw [Array.length_toList,hp.size]
 have h1:=hu i j (by omega) (by omega)
 have mem:∀k (hk:k<p.toList.length),key (zs.getD (p.toList[k]'hk) z0)∈zs.map key:=fun k hk=>by
  have e:zs.getD p.toList[k] z0=zs[p.toList[k]]'(inz k hk):=by rw [List.getD_eq_getElem?_getD,getElem?_eq_getElem (inz k hk)];rfl
  rw [e]
  exact mem_map_of_mem (getElem_mem _)
 have e:∀k (hk:k<p.toList.length),at' p k=p.toList[k]:=fun k hk=>by
  have:k<p.size:=by simpa using hk
  unfold at';simp [Array.getD,this]
 unfold R at h1
 rw [e i hi,e j hj]at h1
 rw [←xP (mem j hj) (mem i hi),decide_eq_false_iff_not]
 exact Int.not_lt.mpr h1
end Srt
namespace L2
open PySem PySem.Spec PyProof.Rows Srt
def SqA (H:Hp)(a:Addr)(cs:List (Int×Int)):Prop:=∃ps:List Addr,H a=some (.tup (ps.map V.ref))/\PlAt H ps cs
def vQ (zs zs':List (Addr×List (Int×Int))):Prop:=zs'.Perm zs/\zs'.Pairwise fun a b=>HT.lexLt (fl b.2) (fl a.2)=false
section
variable {X:Cx}
theorem uO {pins:List (Addr×Obj)}{σ:St}{H:Hp}{A:Around}{C:Bool->Shared->Prop}{s:Shared}(I:Inv X pins σ H s)(hu:A.units<cLine):∀{ps qs:List Addr}{cs ds:List (Int×Int)}(i:Nat),PlAt H ps cs->PlAt H qs ds->C (HT.lexLt (fl cs) (fl ds)) s->
  W.KatLex X.prog X.w A false (decide (ps.length<qs.length)) C ((ps.map Value.ref).zip (qs.map Value.ref)) i s
 | [],[],[],[],i,.nil,.nil,h=>by
  show C (decide (0<0)) s
  exact h
 | [],q::qs,[],d::ds,i,.nil,.cons _ _,h=>by
  show C (decide (0<qs.length+1)) s
  rw [zjV (by omega)];exact h
 |p::ps,[],c::cs,[],i,.cons _ _,.nil,h=>by
  show C (decide (ps.length+1<0)) s
  rw [zjU (by omega)];exact h
 |p::ps,q::qs,c::cs,d::ds,i,.cons r1 t1,.cons r2 t2,h=>by
  show W.KatLex X.prog X.w A false (decide (ps.length+1<qs.length+1)) C ((Value.ref p,Value.ref q)::(ps.map Value.ref).zip (qs.map Value.ref)) i s
  refine W.kat_cons (A7l I hu r1 r2 X.prog X.w _ _ ?_)
  have e0:HT.lexLt (fl (c::cs)) (fl (d::ds))=if c=d then HT.lexLt (fl cs) (fl ds)else HT.lexLt [c.1,c.2] [d.1,d.2]:=by
   obtain⟨c1,c2⟩:=c
   obtain⟨d1,d2⟩:=d
   show HT.lexLt (c1::c2::fl cs) (d1::d2::fl ds)=_
   rw [HT.lexLt_cons,HT.lexLt_cons,HT.lexLt_cons,HT.lexLt_cons]
   by_cases e1:c1=d1
   ·subst e1
    by_cases e2:c2=d2
    ·subst e2;simp
    ·simp [e2]
   ·simp [e1]
  rw [e0]at h
  by_cases e:c=d
  ·rw [zjV e]
   rw [if_pos e]at h
   refine W.kat_yes ?_
   rw [show decide (ps.length+1<qs.length+1)=decide (ps.length<qs.length) by simp]
   exact uO I hu (i+1) t1 t2 h
  ·rw [zjU e]
   rw [if_neg e]at h
   refine W.kat_no (W.kat_one _ _ ?_)
   obtain⟨its,s1,p1,_⟩:=I.tuple (SqT.of (K:=X.K) r1)
   obtain⟨its2,s2,p2,_⟩:=I.tuple (SqT.of (K:=X.K) r2)
   have i1:IntsAre its.toArray.toList [c.1,c.2]:=oX s1
   have i2:IntsAre its2.toArray.toList [d.1,d.2]:=oX s2
   exact HT.lt_tupInts p1 p2 i1 i2 hu h
theorem A1b (hu:X.A.units+2<cLine):fE X (.builtin "sorted") (fun xs H Q=> ∃(p:Addr)(zs:List (Addr×List (Int×Int))),xs=[.ref p]/\H p=some (.lst (zs.map fun z=>V.ref z.1))/\(∀z∈zs,SqA H z.1 z.2/\z.2≠[])/\zs.length<64/\
  ∀l zs',H l=none->vQ zs zs'->Q (.ref l) (upd H l (.lst (zs'.map fun z=>V.ref z.1)))):=by
 intro pins s σ H xs us Q I r h
 obtain⟨p,zs,rfl,hq,hz,h64,q⟩:=h
 obtain⟨u,rfl,rx⟩:=fT r
 cases rx
 obtain⟨its,rv,pl,_⟩:=I.list (SqL.of (K:=X.K) hq)
 have hits:its=zs.map fun z=>Value.ref z.1:=by
  have:=jW (as:=zs.map (·.1)) (us:=its) (by rw [map_map];exact rv)
  rw [this,map_map];rfl
 subst hits
 have isl:=pl.isList
 have gd:∀i,i<zs.length->(zs.map fun z=>Value.ref z.1).getD i Value.none= .ref (zs.getD i (0,[])).1/\zs.getD i (0,[])∈zs:=fun i hi=>by
  constructor
  ·simp [hi]
  ·rw [show zs.getD i (0,[])=zs[i] by simp [hi]];exact getElem_mem _
 refine A4t (κ:=tuples' false) (r:=fun i=>rank (zs.map fun z=>fl z.2) (fl (zs.getD i (0,[])).2)) (vs:=zs.map fun z=>Value.ref z.1) (by rw [length_map];exact h64) (fun Q' k=> ?_) (fun h1 tk k1 h2=> ⟨fun Q2 q2=> ?_,fun i j C hi hj hC=> ?_⟩) fun D h' tk c pp hD hp hu' o' k'=> ?_
 ·refine collect_list isl ?_ (by rw [length_map,sizeLine_eq];omega)
  refine k _ s.toks (fun b o e=> ?_) (by rw [Heap.size_update,size_push'];exact le_succ _)
  rw [Heap.get?_update_ne _ _ _ _ (ne_of_lt (zjT e))]
  exact zjX _ e
 ·have I1:Inv X pins σ H {s with heap:=h1,toks:=tk}:=I.kept k1
  have key:∀ys:List (Addr×List (Int×Int)),(∀z∈ys,z∈zs)->∃fs:List Value,W.KatTups h1 (ys.map fun z=>Value.ref z.1) fs/\fs.length=ys.length/\∀v∈fs,∃a o,v= .ref a/\h1.get? a=some o/\o.cls= .type "tuple":=fun ys=>by
   induction ys with
   |nil=>intro _;exact⟨[],trivial,rfl,fun v hv=>by cases hv⟩
   |cons z ys ih=>
    intro hm
    obtain⟨fs,g1,g2,g3⟩:=ih fun y hy=>hm y (zjS _ hy)
    obtain⟨⟨ps,hz1,hP⟩,hne⟩:=hz z (hm z zjR)
    obtain⟨cs0,cs1,ec⟩:=exists_cons_of_ne_nil hne
    rw [ec]at hP
    cases hP with
    |cons r0 t0=>
     rename_i p0 ps0
     obtain⟨_,it,rt,o,ho,hc,n,hd⟩:=(show ObjOk X.prog X.w H h1 z.1 (.tup _)from I1.hok _ _ hz1)
     obtain⟨_,it2,rt2,o2,ho2,hc2,_⟩:=(show ObjOk X.prog X.w H h1 p0 (.tup _)from I1.hok _ _ r0)
     have ei:=jW rt
     subst ei
     exact⟨.ref p0::fs,W.KatTups.cons ho hc hd (by simp) g1,by simp [g2],fun v hv=>by
      rcases mem_cons.mp hv with e|e
      ·exact⟨p0,o2,e,ho2,hc2⟩
      ·exact g3 v e⟩
  obtain⟨fs,g1,g2,g3⟩:=key zs fun z hz=>hz
  rw [length_map]at h2
  refine W.kat_kind (T:=.type "tuple") (s:={s with heap:=h1,toks:=tk}) g1 (by omega) (fun v hv=> ?_) rfl q2
  obtain⟨a,o,rfl,ho,hc⟩:=g3 v hv
  have lk:W.Looks (model X.prog X.w) h1 (typeOf (.ref a)) o.cls:=(W.Looks.ld ho).andThen .now
  rw [hc]at lk
  exact lk
 ·rw [length_map]at hi hj
  obtain⟨ei,mi⟩:=gd i hi
  obtain⟨ej,mj⟩:=gd j hj
  show wpAny _ _ (keyLt' (tuples' false) ((zs.map fun z=>Value.ref z.1).getD i Value.none) ((zs.map fun z=>Value.ref z.1).getD j Value.none)) C (fun _ _=>False) _
  rw [ei,ej]
  have I1:Inv X pins σ H {s with heap:=h1,toks:=tk}:=I.kept k1
  obtain⟨⟨ps,hz1,hP⟩,_⟩:=hz _ mi
  obtain⟨⟨qs,hz2,hP2⟩,_⟩:=hz _ mj
  obtain⟨_,it,rt,o,ho,hc,n,hd⟩:=(show ObjOk X.prog X.w H h1 _ (.tup _)from I1.hok _ _ hz1)
  obtain⟨_,it2,rt2,o2,ho2,hc2,n2,hd2⟩:=(show ObjOk X.prog X.w H h1 _ (.tup _)from I1.hok _ _ hz2)
  have e1:=jW rt
  have e2:=jW rt2
  subst e1 e2
  rw [xP (mem_map.mpr ⟨_,mi,rfl⟩) (mem_map.mpr ⟨_,mj,rfl⟩)]at hC
  refine W.kat_lt (s:={s with heap:=h1,toks:=tk}) ho hd ho2 hd2 ?_
  rw [size_toArray,size_toArray,length_map,length_map]
  exact uO I1 (show X.A.units+1+1<cLine by omega) 0 hP hP2 hC
 ·rw [length_map]at hp hu'
  have so:=A1a (0,[]) (fun z:Addr×List (Int×Int)=>fl z.2) hp hu'
  have eo:(pp.toList.map fun i=>(zs.map fun z=>Value.ref z.1).getD i Value.none)=(pp.toList.map fun i=>zs.getD i (0,[])).map fun z=>Value.ref z.1:=by
   rw [map_map]
   refine map_congr_left fun i hi=> ?_
   have:i<zs.length:=by
    have:=(Array.perm_iff_toList_perm.mp hp).mem_iff.mp hi
    simpa using this
   exact(gd i this).1
  rw [eo]at o'
  have hlen:=so.1.length_eq
  have vf:∀zs:List (Addr×List (Int×Int)),Vals (zs.map fun z=>V.ref z.1) (zs.map fun z=>Value.ref z.1):=fun zs=>by
   induction zs with
   |nil=>exact .nil
   |cons z zs ih=>exact .cons rfl ih
  refine⟨.ref D,_,I.laid (t':=tk) (o:=.lst ((pp.toList.map fun i=>zs.getD i (0,[])).map fun z=>V.ref z.1)) k' hD ⟨by rw [length_map,hlen,sizeLine_eq];omega,_,c,vf _,o'⟩,rfl,q _ _ (I.hok.fresh hD) so⟩
end
end L2
namespace PySem
section
variable {prog:Program}{w:World}{A:Around}{E:Value->Shared->Prop}{s:Shared}
end
end PySem
namespace L2
open PySem PySem.Spec PyProof.Rows
section
variable {X:Cx}
end
def Wk (J:It)(xs:List V)(S:Hp->Prop):Prop:=∀{g:TG}{tb:TS}{D:bK}{σ:St}{H:Hp}(Pv:Nat->St->Hp->Prop),Pv 0 σ H->(∀i σ H,i<=xs.length->Pv i σ H->S H)->
 (∀i x σ H,xs[i]?=some x->Pv i σ H->g x σ H fun σ2 H2=>tb {D with nx:=Pv (i+1),ct:=Pv (i+1),bk:=D.nx} σ2 H2)->(∀σ H,Pv xs.length σ H->D.nx σ H)->dZ J g tb D σ H
theorem uW {K:W.Frag}{a:Addr}{xs:List V}:Wk (Itl K a) xs fun H=>SqL K H a xs:=fun Pv h0 hl hs hd=>jX Pv h0 hl hs hd
def E3 (R:V->V->Bool->Prop):List V->List V->List Bool->Prop
 | [],[],[]=>True
 |x::xs,y::ys,k::ks=>R x y k/\E3 R xs ys ks
 |_,_,_=>False
def EqF (a b:V)(k:Bool):Prop:=(∃i j,a= .int i/\b= .int j/\k=decide (i=j))\/ ∃x y,a= .str x/\b= .str y/\k=decide (x=y)
def EqD (H:Hp):Nat->V->V->Bool->Prop
 |0,a,b,k=>EqF a b k
 |n+1,a,b,k=>EqF a b k\/ ∃p q xs ys ks,a= .ref p/\b= .ref q/\((H p=some (.tup xs)/\H q=some (.tup ys))\/(H p=some (.lst xs)/\H q=some (.lst ys)))/\E3 (EqD H n) xs ys ks/\k=ks.all id
theorem E3.len {R:V->V->Bool->Prop}:∀{xs ys:List V}{ks:List Bool},E3 R xs ys ks->xs.length=ys.length/\xs.length=ks.length
 | [],[],[],_=> ⟨rfl,rfl⟩
 |x::xs,y::ys,k::ks,h=>by
  have:=E3.len h.2
  simp only [length_cons];omega
 | [],[],_::_,h=>h.elim
 | [],_::_,_,h=>h.elim
 |_::_,[],_,h=>h.elim
 |_::_,_::_,[],h=>h.elim
theorem E3.get {R:V->V->Bool->Prop}:∀{xs ys:List V}{ks:List Bool}{i:Nat}{x y:V},E3 R xs ys ks->xs[i]?=some x->ys[i]?=some y->∃k,ks[i]?=some k/\R x y k
 |x::xs,y::ys,k::ks,0,_,_,h,h1,h2=>by cases h1;cases h2;exact⟨k,rfl,h.1⟩
 |x::xs,y::ys,k::ks,i+1,_,_,h,h1,h2=>E3.get (i:=i) h.2 (by simpa using h1) (by simpa using h2)
 | [],_,_,_,_,_,_,h1,_=>by simp at h1
 |_::_,[],_,_,_,_,h,_,_=>h.elim
 |_::_,_::_,[],_,_,_,h,_,_=>h.elim
theorem EqF.refl_true {a:V}{k:Bool}(h:EqF a a k):k=true:=by
 rcases h with⟨i,j,h1,h2,h3⟩| ⟨x,y,h1,h2,h3⟩
 ·rw [h1]at h2;rw [h3,V.int.inj h2];simp
 ·rw [h1]at h2;rw [h3,V.str.inj h2];simp
theorem EqD.refl_true {H:Hp}:∀{n:Nat}{a:V}{k:Bool},EqD H n a a k->k=true
 |0,a,k,h=>EqF.refl_true h
 |n+1,a,k,h=>by
  rcases h with h| ⟨p,q,xs,ys,ks,h1,h2,h3,h4,h5⟩
  ·exact EqF.refl_true h
  ·rw [h1]at h2
   cases h2
   have e:xs=ys:=by
    rcases h3 with⟨u,v⟩| ⟨u,v⟩
    ·rw [u]at v;cases v;rfl
    ·rw [u]at v;cases v;rfl
   subst e
   rw [h5,all_eq_true]
   have go:∀{xs:List V}{ks:List Bool},E3 (EqD H n) xs xs ks->∀k∈ks,id k=true:=fun{xs ks}=>by
    induction xs generalizing ks with
    |nil=>intro h k hk;cases ks with|nil=>cases hk|cons _ _=>exact h.elim
    |cons x xs ih=>
     intro h k hk
     cases ks with
     |nil=>cases hk
     |cons k0 ks=>
      rcases mem_cons.mp hk with z|z
      ·rw [z];exact EqD.refl_true h.1
      ·exact ih h.2 k z
   exact go h4
theorem EqD.int {H:Hp}(n:Nat)(i j:Int):EqD H n (.int i) (.int j) (decide (i=j)):=by
 cases n with
 |zero=>exact .inl ⟨i,j,rfl,rfl,rfl⟩
 |succ n=>exact .inl (.inl ⟨i,j,rfl,rfl,rfl⟩)
section
variable {X:Cx}{pins:List (Addr×Obj)}{σ:St}{H:Hp}{s:Shared}
theorem wE (ks:List Bool):(List.range ks.length).all (fun j=>ks.getD j true)=ks.all id:=by
 rw [Bool.eq_iff_iff,all_eq_true,all_eq_true]
 constructor
 ·intro h k hk
  obtain⟨j,hj,e⟩:=getElem_of_mem hk
  have:=h j (by simpa using hj)
  rw [show ks.getD j true=ks[j] by simp [hj],e]at this
  exact this
 ·intro h j hj
  have hj':j<ks.length:=by simpa using hj
  rw [show ks.getD j true=ks[j] by simp [hj']]
  exact h _ (getElem_mem _)
theorem oC {A:Around}{n:Nat}{xs ys:List V}{us ws:List Value}{ks:List Bool}(ih:∀{a b:V}{k:Bool}{u v:Value},EqD H n a b k->RelV a u->RelV b v->SeqAt.EqAt A s u v k)(h4:E3 (EqD H n) xs ys ks)(r1:Vals xs us)(r2:Vals ys ws):
  ∀j (h1:j<us.toArray.size)(h2:j<ws.toArray.size),SeqAt.EqAt A s us.toArray[j] ws.toArray[j] (ks.getD j true):=fun j h1 h2=>by
 have hl:=h4.len
 have l1:=r1.length
 have l2:=r2.length
 rw [size_toArray]at h1 h2
 have j1:j<xs.length:=by omega
 have j2:j<ys.length:=by omega
 obtain⟨u,hu,ru⟩:=r1.get (getElem?_eq_getElem j1)
 obtain⟨v,hv,rv⟩:=r2.get (getElem?_eq_getElem j2)
 obtain⟨k,hk,e⟩:=h4.get (getElem?_eq_getElem j1) (getElem?_eq_getElem j2)
 have eu:us.toArray[j]=u:=by
  have:=(zjW.mp hu).2
  simpa using this
 have ev:ws.toArray[j]=v:=by
  have:=(zjW.mp hv).2
  simpa using this
 rw [eu,ev,show ks.getD j true=k by rw [List.getD_eq_getElem?_getD,hk];rfl]
 exact ih e ru rv
theorem qX {A:Around}{n:Nat}{p q:Addr}{xs ys:List V}{ks:List Bool}(I:Inv X pins σ H s)(hu:A.units<cLine)(ih:∀{a b:V}{k:Bool}{u v:Value},EqD H n a b k->RelV a u->RelV b v->SeqAt.EqAt A.in1 s u v k)
  (h3:(H p=some (.tup xs)/\H q=some (.tup ys))\/(H p=some (.lst xs)/\H q=some (.lst ys)))(h4:E3 (EqD H n) xs ys ks):SeqAt.RcAt A s (.ref p) (.ref q) (ks.all id)/\SeqAt.RcNeAt A s (.ref p) (.ref q) (!ks.all id):=by
 have hl:=h4.len
 rcases h3 with⟨hp,hq⟩| ⟨hp,hq⟩
 ·obtain⟨us,r1,p1,_⟩:=I.tuple (SqT.of hp)
  obtain⟨ws,r2,p2,_⟩:=I.tuple (SqT.of hq)
  have l1:=r1.length
  have l2:=r2.length
  have e:((List.range (min us.toArray.size ws.toArray.size)).all (fun j=>ks.getD j true)&&us.toArray.size==ws.toArray.size)=ks.all id:=by
   rw [size_toArray,size_toArray,show min us.length ws.length=ks.length by omega,wE,show us.length=ws.length by omega]
   simp
  have k1:=SeqAt.RcAt.tuples p1 p2 hu (oC ih h4 r1 r2)
  have k2:=SeqAt.RcNeAt.tuples p1 p2 hu (oC ih h4 r1 r2)
  rw [e]at k1 k2
  exact⟨k1,k2⟩
 ·obtain⟨us,r1,p1,_⟩:=I.list (SqL.of hp)
  obtain⟨ws,r2,p2,_⟩:=I.list (SqL.of hq)
  have l1:=r1.length
  have l2:=r2.length
  have e:(List.range us.toArray.size).all (fun j=>ks.getD j true)=ks.all id:=by rw [size_toArray,show us.length=ks.length by omega,wE]
  have hz:us.toArray.size=ws.toArray.size:=by rw [size_toArray,size_toArray];omega
  have k1:=SeqAt.RcAt.lists p1.isList p2.isList hz hu (oC ih h4 r1 r2)
  have k2:=SeqAt.RcNeAt.lists p1.isList p2.isList hz hu (oC ih h4 r1 r2)
  rw [e]at k1 k2
  exact⟨k1,k2⟩
theorem tE (I:Inv X pins σ H s):∀{n:Nat}{A:Around}{a b:V}{k:Bool}{u v:Value},A.units+n<cLine->EqD H n a b k->RelV a u->RelV b v->SeqAt.EqAt A s u v k:=by
 have flat:∀{A:Around}{a b:V}{k:Bool}{u v:Value},EqF a b k->RelV a u->RelV b v->SeqAt.EqAt A s u v k:=fun{A a b k u v} h ra rb=>by
  rcases h with⟨i,j,rfl,rfl,rfl⟩| ⟨x,y,rfl,rfl,rfl⟩
  ·obtain⟨t,rfl⟩:=ra
   obtain⟨t',rfl⟩:=rb
   have:=SeqAt.EqAt.int_int (A:=A) (s:=s) i t j t'
   rwa [show(i==j)=decide (i=j) by rw [Bool.eq_iff_iff];simp]at this
  ·obtain⟨t,rfl⟩:=ra
   obtain⟨t',rfl⟩:=rb
   have:=SeqAt.EqAt.str_str (A:=A) (s:=s) x t y t'
   rwa [show(x==y)=decide (x=y) by rw [Bool.eq_iff_iff];simp]at this
 intro n
 induction n with
 |zero=>intro A a b k u v _ h ra rb;exact flat h ra rb
 |succ n ih=>
  intro A a b k u v hu h ra rb
  rcases h with h| ⟨p,q,xs,ys,ks,rfl,rfl,h3,h4,rfl⟩
  ·exact flat h ra rb
  ·cases ra
   cases rb
   by_cases hpq:p=q
   ·subst hpq
    have:(ks.all id)=true:=EqD.refl_true (n:=n+1) (H:=H) (a:=.ref p) (.inr ⟨p,p,xs,ys,ks,rfl,rfl,h3,h4,rfl⟩)
    rw [this]
    exact SeqAt.EqAt.same _
   ·exact SeqAt.EqAt.of_refs hpq (qX I (by omega) (fun e r1 r2=>ih (show A.in1.units+n<cLine by show A.units+1+n<cLine;omega) e r1 r2) h3 h4).1
end
section
variable {X:Cx}
def xH (n:Nat)(g:Bool->Bool):R2:=fun x y H Q=> ∃p q xs ys ks,x= .ref p/\y= .ref q/\((H p=some (.tup xs)/\H q=some (.tup ys))\/(H p=some (.lst xs)/\H q=some (.lst ys)))/\E3 (EqD H n) xs ys ks/\Q (.bl (g (ks.all id))) H
theorem A1q (n:Nat)(hu:X.A.units+n+1<cLine):OpR X (compareOp .Eq) (xH n id):=by
 intro pins s σ H x y v u Q I rx ry h
 obtain⟨p,q,xs,ys,ks,rfl,rfl,h3,h4,hq⟩:=h
 cases rx
 cases ry
 exact(qX I (by omega) (fun e r1 r2=>tE I (show X.A.in1.units+n<cLine by show X.A.units+1+n<cLine;omega) e r1 r2) h3 h4).1 X.prog X.w X.xe _ ⟨.bl _,H,I,rfl,hq⟩
theorem A72 (n:Nat)(hu:X.A.units+n+1<cLine):OpR X (compareOp .NotEq) (xH n not):=by
 intro pins s σ H x y v u Q I rx ry h
 obtain⟨p,q,xs,ys,ks,rfl,rfl,h3,h4,hq⟩:=h
 cases rx
 cases ry
 exact(qX I (by omega) (fun e r1 r2=>tE I (show X.A.in1.units+n<cLine by show X.A.units+1+n<cLine;omega) e r1 r2) h3 h4).2 X.prog X.w X.xe _ ⟨.bl _,H,I,rfl,hq⟩
def yF (n:Nat)(g:Bool->Bool):R2:=fun x y H Q=> ∃q xs ks,y= .ref q/\(H q=some (.tup xs)\/H q=some (.lst xs))/\E3 (EqD H n) xs (xs.map fun _=>x) ks/\Q (.bl (g (ks.any id))) H
theorem zJ:∀{a b:V}{u:Value},RelV a u->RelV b u->a=b:=fun{a b u} ha hb=>by
 cases a<;>cases b<;>simp only [RelV]at ha hb<;>first
  |rfl
  | (subst ha;cases hb;rfl)
  | (subst ha;cases hb;done)
  | (obtain⟨t,rfl⟩:=ha;obtain⟨t',e⟩:=hb;cases e;rfl)
  | (obtain⟨t,rfl⟩:=ha;obtain⟨t',e⟩:=hb;cases e;done)
  | (obtain⟨t,rfl⟩:=ha;cases hb;done)
  | (obtain⟨t,rfl⟩:=hb;cases ha;done)
theorem EqF.func {a b:V}{k k':Bool}(h:EqF a b k)(h':EqF a b k'):k=k':=by
 rcases h with⟨i,j,rfl,rfl,rfl⟩| ⟨x,y,rfl,rfl,rfl⟩
 ·rcases h' with⟨i',j',h1,h2,rfl⟩| ⟨x,y,h1,h2,rfl⟩
  ·cases h1;cases h2;rfl
  ·cases h1
 ·rcases h' with⟨i',j',h1,h2,rfl⟩| ⟨x',y',h1,h2,rfl⟩
  ·cases h1
  ·cases h1;cases h2;rfl
theorem EqF.noref {p:Addr}{b:V}{k:Bool}(h:EqF (.ref p) b k):False:=by
 rcases h with⟨i,j,h1,_⟩| ⟨x,y,h1,_⟩<;>cases h1
theorem EqD.func {H:Hp}:∀{n:Nat}{a b:V}{k k':Bool},EqD H n a b k->EqD H n a b k'->k=k'
 |0,a,b,k,k',h,h'=>EqF.func h h'
 |n+1,a,b,k,k',h,h'=>by
  rcases h with h| ⟨p,q,xs,ys,ks,rfl,rfl,h3,h4,rfl⟩
  ·rcases h' with h'| ⟨p,q,xs,ys,ks,rfl,rfl,h3,h4,rfl⟩
   ·exact EqF.func h h'
   ·exact h.noref.elim
  ·rcases h' with h'| ⟨p',q',xs',ys',ks',e1,e2,h3',h4',rfl⟩
   ·exact h'.noref.elim
   ·cases e1;cases e2
    have ex:xs=xs'/\ys=ys':=by
     rcases h3 with⟨u,v⟩| ⟨u,v⟩<;>rcases h3' with⟨u',v'⟩| ⟨u',v'⟩<;>rw [u]at u'<;>rw [v]at v'<;>cases u'<;>cases v'<;>exact⟨rfl,rfl⟩
    obtain⟨rfl,rfl⟩:=ex
    have go:∀{xs ys:List V}{ks ks':List Bool},E3 (EqD H n) xs ys ks->E3 (EqD H n) xs ys ks'->ks=ks':=fun{xs}=>by
     induction xs with
     |nil=>
      intro ys ks ks' g g'
      cases ys with
      |nil=>
       cases ks with
       |nil=>cases ks' with|nil=>rfl|cons _ _=>exact g'.elim
       |cons _ _=>exact g.elim
      |cons _ _=>exact g.elim
     |cons x xs ih=>
      intro ys ks ks' g g'
      cases ys with
      |nil=>exact g.elim
      |cons y ys=>
       cases ks with
       |nil=>exact g.elim
       |cons k ks=>
        cases ks' with
        |nil=>exact g'.elim
        |cons k' ks'=>rw [EqD.func g.1 g'.1,ih g.2 g'.2]
    rw [go h4 h4']
open Classical in
theorem yU {H:Hp}{n:Nat}{x:V}{e:Value->Bool}(he:∀a u k,RelV a u->EqD H n a x k->e u=k):∀{xs:List V}{us:List Value}{ks:List Bool},Vals xs us->E3 (EqD H n) xs (xs.map fun _=>x) ks->us.any e=ks.any id
 | [],_,[],.nil,_=>rfl
 | [],_,_::_,.nil,h=>h.elim
 |y::xs,_,k::ks,.cons r t,h=>by
  rw [any_cons,any_cons,he _ _ _ r h.1,yU he t h.2];rfl
 |_::_,_,[],.cons _ _,h=>h.elim
open Classical in
theorem pF {A:Around}{n:Nat}{x:V}{v:Value}{xs:List V}{us:List Value}{ks:List Bool}{pins:List (Addr×Obj)}{σ:St}{H:Hp}{s:Shared}(I:Inv X pins σ H s)(hu:A.units+n<cLine)(rx:RelV x v)(r:Vals xs us)(h:E3 (EqD H n) xs (xs.map fun _=>x) ks):
  ∃e:Value->Bool,(∀y∈us,SeqAt.EqAt A s y v (e y))/\us.any e=ks.any id:=by
 refine⟨fun y=>decide (∃a,RelV a y/\EqD H n a x true),fun y hy=> ?_,yU (fun a u k ra hk=> ?_) r h⟩
 ·obtain⟨j,hj,e⟩:=getElem_of_mem hy
  have hl:=r.length
  have hjx:j<xs.length:=by omega
  obtain⟨u,hu',ru⟩:=r.get (getElem?_eq_getElem hjx)
  have eu:u=y:=by
   rw [getElem?_eq_getElem hj,e]at hu'
   exact(Option.some.inj hu').symm
  subst eu
  obtain⟨k,hk,ek⟩:=h.get (getElem?_eq_getElem hjx) (y:=x) (by rw [getElem?_map,getElem?_eq_getElem hjx];rfl)
  have:decide (∃a,RelV a u/\EqD H n a x true)=k:=by
   cases k with
   |true=>exact zjV ⟨_,ru,ek⟩
   |false=>
    refine zjU ?_
    rintro⟨a,ra,ea⟩
    have:=zJ ra ru
    subst this
    cases EqD.func ek ea
  show SeqAt.EqAt A s u v (decide (∃a,RelV a u/\EqD H n a x true))
  rw [this]
  exact tE I hu ek ru rx
 ·cases k with
  |true=>exact zjV ⟨a,ra,hk⟩
  |false=>
   refine zjU ?_
   rintro⟨b,rb,eb⟩
   have:=zJ rb ra
   subst this
   cases EqD.func hk eb
theorem A50 (n:Nat)(hu:X.A.units+n+1<cLine):OpR X (compareOp .In) (yF n id):=by
 intro pins s σ H x y v u Q I rx ry h
 obtain⟨q,xs,ks,rfl,hq,h4,hQ⟩:=h
 cases ry
 have hu':X.A.in1.units+n<cLine:=by show X.A.units+1+n<cLine;omega
 rcases hq with hq|hq
 ·obtain⟨us,r,p,_⟩:=I.tuple (SqT.of hq)
  obtain⟨e,e1,e2⟩:=pF I hu' rx r h4
  refine SeqAt.in_tupleAt e p (fun y hy=>e1 y (by simpa using hy)) ⟨.bl _,H,I,rfl,?_⟩
  rw [show us.toArray.any e=us.any e by simp,e2];exact hQ
 ·obtain⟨us,r,p,_⟩:=I.list (SqL.of hq)
  obtain⟨e,e1,e2⟩:=pF I hu' rx r h4
  refine SeqAt.in_listAt e p.isList (fun y hy=>e1 y (by simpa using hy)) ⟨.bl _,H,I,rfl,?_⟩
  rw [show us.toArray.any e=us.any e by simp,e2];exact hQ
theorem vI (n:Nat)(hu:X.A.units+n+1<cLine):OpR X (compareOp .NotIn) (yF n not):=by
 intro pins s σ H x y v u Q I rx ry h
 obtain⟨q,xs,ks,rfl,hq,h4,hQ⟩:=h
 cases ry
 have hu':X.A.in1.units+n<cLine:=by show X.A.units+1+n<cLine;omega
 rcases hq with hq|hq
 ·obtain⟨us,r,p,_⟩:=I.tuple (SqT.of hq)
  obtain⟨e,e1,e2⟩:=pF I hu' rx r h4
  refine SeqAt.notIn_tupleAt e p (fun y hy=>e1 y (by simpa using hy)) ⟨.bl _,H,I,rfl,?_⟩
  rw [show us.toArray.any e=us.any e by simp,e2];exact hQ
 ·obtain⟨us,r,p,_⟩:=I.list (SqL.of hq)
  obtain⟨e,e1,e2⟩:=pF I hu' rx r h4
  refine SeqAt.notIn_listAt e p.isList (fun y hy=>e1 y (by simpa using hy)) ⟨.bl _,H,I,rfl,?_⟩
  rw [show us.toArray.any e=us.any e by simp,e2];exact hQ
end
end L2
namespace PySem.SeqAt
open AutoSeq1 (wpAny_loadPart')
open MeetsSeq MeetsSeq2 MeetsSeq3 SeqRoads2
end PySem.SeqAt
namespace L2
open PySem PySem.Spec PyProof.Rows
section
variable {X:Cx}
end
end L2
namespace Grd
open PySem PyProof.Rows
def ltP (c d:Int×Int):Prop:=HT.lexLt [c.1,c.2] [d.1,d.2]=true
theorem A0a {r j k:Int}(h:j<k):ltP (r,j) (r,k):=by
 unfold ltP
 rw [HT.lexLt_cons,if_pos rfl,HT.lexLt_cons,if_neg (by show¬j=k;omega)]
 exact zjV h
theorem A1l {r s j k:Int}(h:r<s):ltP (r,j) (s,k):=by
 unfold ltP
 rw [HT.lexLt_cons,if_neg (by show¬r=s;omega)]
 exact zjV h
theorem zP {α:Type}(xs:List α):xs.zipIdx.Pairwise fun a b=>a.2<b.2:=by
 rw [pairwise_iff_getElem]
 intro i j hi hj hij
 simp only [List.getElem_zipIdx]
 omega
theorem A2e (f:Int->Bool)(r:Int)(xs:List Int):(fL f r xs).Pairwise ltP:=by
 unfold fL
 rw [List.pairwise_filterMap]
 refine(zP xs).imp fun{a b} h c hc d hd=> ?_
 cases ha:f a.1 with
 |false=>simp [ha]at hc
 |true=>
  cases hb:f b.1 with
  |false=>simp [hb]at hd
  |true=>
   simp only [ha,if_true,Option.some.injEq]at hc
   simp only [hb,if_true,Option.some.injEq]at hd
   subst hc hd
   exact A0a (by omega)
theorem rY (f:Int->Bool)(g:bG):(bC f g).Pairwise ltP:=by
 unfold bC
 rw [List.pairwise_flatten]
 refine⟨fun l hl=> ?_,?_⟩
 ·obtain⟨p,_,rfl⟩:=mem_map.mp hl
  exact A2e _ _ _
 ·rw [pairwise_map]
  refine(zP g).imp fun{a b} h c hc d hd=> ?_
  obtain⟨e1,_⟩:=mem_rowF.mp hc
  obtain⟨e2,_⟩:=mem_rowF.mp hd
  obtain⟨c1,c2⟩:=c
  obtain⟨d1,d2⟩:=d
  dsimp only at e1 e2
  subst e1 e2
  exact A1l (by omega)
end Grd
namespace L2
open PySem Grd
theorem PlAt.at {H:Hp}:∀{ps:List Addr}{cs:List (Int×Int)}{i:Nat}{p:Addr},PlAt H ps cs->ps[i]?=some p->∃c,cs[i]?=some c/\H p=some (.tup [.int c.1,.int c.2])
 |_,_,0,_,.cons r _,h=>by cases h;exact⟨_,rfl,r⟩
 |_,_,i+1,_,.cons _ t,h=>PlAt.at (i:=i) t (by simpa using h)
theorem lU {ps:List Addr}{i:Nat}{x:V}(h:(ps.map V.ref)[i]?=some x):∃p,ps[i]?=some p/\x= .ref p:=by
 rw [getElem?_map]at h
 cases e:ps[i]? with
 |none=>rw [e]at h;cases h
 |some p=>rw [e]at h;exact⟨p,rfl,(Option.some.inj h).symm⟩
end L2
namespace L2
open PySem PySem.Spec PyProof.Rows Grd Wlk
section
variable {X:Cx}{es:List Expr}{te:TE}{t:TA}
theorem nN {x pos}(he:PE X (.Name x pos) te)(hr:PAq X es t):PAq X (.Name x pos::es) (bZ te t):=by unfold PAq at*;exact aE he hr
end
abbrev PlA (H:Hp)(p:Addr)(c:Int×Int):Prop:=H p=some (.tup [.int c.1,.int c.2])
def StA (H:Hp)(q:Addr)(s:aY):Prop:=∃a b,H q=some (.tup [.ref a,.ref b])/\PlA H a s.1/\PlA H b s.2
theorem StA.same {H H':Hp}{q:Addr}{s:aY}(h:StA H q s)(e:Same H H'):StA H' q s:=let ⟨a,b,h1,h2,h3⟩:=h;⟨a,b,e _ _ h1,e _ _ h2,e _ _ h3⟩
theorem StA.sq {H:Hp}{q:Addr}{s:aY}(h:StA H q s):SqA H q [s.1,s.2]:=let ⟨a,b,h1,h2,h3⟩:=h;⟨[a,b],h1,.cons h2 (.cons h3 .nil)⟩
theorem StA.of {H:Hp}{q:Addr}{s:aY}(h:SqA H q [s.1,s.2]):StA H q s:=by
 obtain⟨ps,h1,h2⟩:=h
 cases h2 with
 |cons r t=>
  cases t with
  |cons r2 t2=>cases t2;exact⟨_,_,h1,r,r2⟩
def StAt (H:Hp)(qs:List Addr)(ss:List aY):Prop:=Paired (StA H) qs ss
theorem StAt.same {H H':Hp}{qs:List Addr}{ss:List aY}(h:StAt H qs ss)(e:Same H H'):StAt H' qs ss:=Paired.mapP h fun _ _ z=>z.same e
theorem StAt.at {H:Hp}:∀{qs:List Addr}{ss:List aY}{i:Nat}{q:Addr},StAt H qs ss->qs[i]?=some q->∃s,ss[i]?=some s/\StA H q s
 |_,_,0,_,.cons r _,h=>by cases h;exact⟨_,rfl,r⟩
 |_,_,i+1,_,.cons _ t,h=>StAt.at (i:=i) t (by simpa using h)
theorem StAt.snoc {H:Hp}{qs:List Addr}{ss:List aY}{q:Addr}{s:aY}(h:StAt H qs ss)(e:StA H q s):StAt H (qs++[q]) (ss++[s]):=Paired.snoc h e
theorem PlA.put {H:Hp}{l:Addr}{xs ys:List V}(hl:H l=some (.lst xs)){p:Addr}{c:Int×Int}(h:PlA H p c):PlA (upd H l (.lst ys)) p c:=by
 have h':H p=some (.tup [.int c.1,.int c.2]):=h
 show upd H l (.lst ys) p=_
 rw [aQ (fun z=>by rw [z,hl]at h';cases h')];exact h
theorem A8o {H:Hp}{l q:Addr}{xs ys us:List V}(hl:H l=some (.lst xs))(h:H q=some (.tup us)):upd H l (.lst ys) q=some (.tup us):=by
 rw [aQ (fun z=>by rw [z,hl]at h;cases h)];exact h
theorem StA.put {H:Hp}{l:Addr}{xs ys:List V}(hl:H l=some (.lst xs)){q:Addr}{s:aY}(h:StA H q s):StA (upd H l (.lst ys)) q s:=let ⟨a,b,h1,h2,h3⟩:=h;⟨a,b,A8o hl h1,h2.put hl,h3.put hl⟩
theorem StAt.put {H:Hp}{l:Addr}{xs ys:List V}(hl:H l=some (.lst xs)){qs:List Addr}{ss:List aY}(h:StAt H qs ss):StAt (upd H l (.lst ys)) qs ss:=Paired.mapP h fun _ _ z=>z.put hl
theorem A2r {t:TA}{D:bK}{σ:St}{H:Hp}(h:t σ H fun xs H1=>xs.length<=sizeLine/\∀p,H1 p=none->D.rt (.ref p) (upd H1 p (.lst xs))):nG (nA t) D σ H:=h
theorem yK {A:Around}{k:Nat}(hr:Room k A):A.units+1+1<cLine:=lt_of_le_of_lt (add_le_add_left (by decide:2<=64) _) hr.units
theorem A8p {A:Around}{k:Nat}(hr:Room k A):A.units+2<cLine:=lt_of_le_of_lt (add_le_add_left (by decide:2<=64) _) hr.units
theorem qD {H:Hp}{p q:Addr}{c d:Int×Int}(h1:PlA H p c)(h2:PlA H q d)(n:Nat):EqD H (n+1) (.ref p) (.ref q) (decide (c=d)):=by
 refine .inr ⟨p,q,_,_,[decide (c.1=d.1),decide (c.2=d.2)],rfl,rfl,.inl ⟨h1,h2⟩,⟨EqD.int _ _ _,EqD.int _ _ _,trivial⟩,?_⟩
 rw [Bool.eq_iff_iff]
 simp [Prod.ext_iff]
theorem A5t {H:Hp}{a b a' b':Addr}{s t:aY}(h1:PlA H a s.1)(h2:PlA H b s.2)(h3:PlA H a' t.1)(h4:PlA H b' t.2):E3 (EqD H 1) [.ref a,.ref b] [.ref a',.ref b'] [decide (s.1=t.1),decide (s.2=t.2)]:=⟨qD h1 h3 0,qD h2 h4 0,trivial⟩
theorem A3o (s t:aY):[decide (s.1=t.1),decide (s.2=t.2)].all id=decide (s=t):=by
 rw [Bool.eq_iff_iff]
 simp [Prod.ext_iff]
theorem A7i {H:Hp}{p q:Addr}{s t:aY}(h1:StA H p s)(h2:StA H q t):EqD H 2 (.ref p) (.ref q) (decide (s=t)):=by
 obtain⟨a,b,e1,e2,e3⟩:=h1
 obtain⟨a',b',f1,f2,f3⟩:=h2
 exact .inr ⟨p,q,_,_,_,rfl,rfl,.inl ⟨e1,f1⟩,A5t e2 e3 f2 f3,(A3o s t).symm⟩
theorem uZ {H:Hp}{q:Addr}{d:Int×Int}(h:PlA H q d):∀{ps:List Addr}{cs:List (Int×Int)},PlAt H ps cs->E3 (EqD H 1) (ps.map V.ref) ((ps.map V.ref).map fun _=>V.ref q) (cs.map fun c=>decide (c=d))
 | [],[],.nil=>trivial
 |_::_,_::_,.cons r t=> ⟨qD r h 0,uZ h t⟩
theorem pQ {H:Hp}{q:Addr}{t:aY}(h:StA H q t):∀{qs:List Addr}{ss:List aY},StAt H qs ss->E3 (EqD H 2) (qs.map V.ref) ((qs.map V.ref).map fun _=>V.ref q) (ss.map fun s=>decide (s=t))
 | [],[],.nil=>trivial
 |_::_,_::_,.cons r z=> ⟨A7i r h,pQ h z⟩
end L2
namespace Wlk
open PySem PyProof.Rows Srt
abbrev f2 (s:aY):List Int:=fl [s.1,s.2]
def unS (cs:List Pl):aY:=(cs.getD 0 (0,0),cs.getD 1 (0,0))
def A5x (ss u:List aY):Prop:=ss.Perm u/\ss.Pairwise fun a b=>HT.lexLt (f2 b) (f2 a)=false
end Wlk
namespace Wlk
open PySem PyProof.Rows Srt Cyc Grd
theorem A93 (x:List Int):HT.lexLt x x=false:=nV x
theorem tX {cs:List Pl}(h:cs.Pairwise ltP):cs.Nodup:=by
 rw [List.nodup_iff_pairwise_ne]
 refine h.imp fun{a b} hab e=> ?_
 subst e
 unfold ltP at hab
 rw [A93]at hab;cases hab
section
variable {land:List Pl}{ss:List aY}
noncomputable def gone (ss:List aY):List (List aY)×List aY:=ss.foldl (stF (orb (nxt ss))) ([],[])
end
section
variable {land:List Pl}{ss:List aY}
end
def eC (land:List Pl)(x y:Int)(c:Pl):Nat:=(if c.1=x/\c.2+1<=y/\(c.1,c.2+1)∉land then 1 else 0)+(if c.1=x/\c.2<=y/\(c.1,c.2 - 1)∉land then 1 else 0)
def turn (s:aY):Int:=s.1.1*s.2.2 - s.2.1*s.1.2
def beside (c:Pl):List Pl:=[(c.1 - 1,c.2),(c.1,c.2 - 1),(c.1,c.2+1),(c.1+1,c.2)]
end Wlk
namespace Stb
open PySem PySem.SetTable
theorem mY {α:Type} [DecidableEq α]:∀(l1 l2:List α),l1.Nodup->(∀x∈l1,x∈l2)->l1.length<=l2.length
 | [],_,_,_=>zero_le _
 |x::xs,l2,hn,hs=>by
  have hx:x∈l2:=hs x zjR
  have h:=mY xs (l2.erase x) (nodup_cons.mp hn).2 (fun y hy=>(List.mem_erase_of_ne (fun(e:y=x)=>(nodup_cons.mp hn).1 (e▸hy))).mpr (hs y (zjS _ hy)))
  rw [List.length_erase_of_mem hx]at h
  have:0<l2.length:=length_pos_of_mem hx
  simp only [length_cons];omega
theorem hole (pl:List Nat)(M:Nat)(h:pl.length<M):∃p,p<M/\p∉pl:=by
 refine Classical.byContradiction fun hc=> ?_
 have:(List.range M).length<=pl.length:=mY _ _ nodup_range (fun x hx=>Classical.byContradiction fun hn=>hc ⟨x,mem_range.mp hx,hn⟩)
 rw [length_range]at this;omega
theorem least {P:Nat->Prop}:∀n,P n->∃m,m<=n/\P m/\∀k<m,¬P k:=fun n=>Nat.strongRecOn n fun n ih h=>by
 by_cases hc:∃k,k<n/\P k
 ·obtain⟨k,hk,pk⟩:=hc
  obtain⟨m,h1,h2,h3⟩:=ih k hk pk
  exact⟨m,by omega,h2,h3⟩
 ·exact⟨n,zjQ _,h,fun k hk pk=>hc ⟨k,hk,pk⟩⟩
def rk (j:Nat):List Nat->Nat
 | []=>0
 |x::xs=>if x<j then rk j xs+1 else 0
theorem vM (j:Nat):∀(l:List Nat)(i:Nat),i<rk j l->l.getD i j<j
 | [],i,h=>by simp [rk]at h
 |x::xs,i,h=>by
  unfold rk at h
  by_cases hx:x<j
  ·rw [if_pos hx]at h
   cases i with
   |zero=>simpa using hx
   |succ i=>simpa using vM j xs i (by omega)
  ·rw [if_neg hx]at h;omega
theorem xJ (j:Nat):∀(l:List Nat),l.Pairwise (· < ·)->∀i,rk j l<=i->¬l.getD i j<j
 | [],_,i,_=>by simp
 |x::xs,hp,i,h=>by
  rw [pairwise_cons]at hp
  unfold rk at h
  by_cases hx:x<j
  ·rw [if_pos hx]at h
   cases i with
   |zero=>omega
   |succ i=>simpa using xJ j xs hp.2 i (by omega)
  ·cases i with
   |zero=>simpa using hx
   |succ i=>
    intro hlt
    have hlt':xs.getD i j<j:=by simpa using hlt
    by_cases hi:i<xs.length
    ·have e:xs.getD i j=xs[i]:=by simp [hi]
     have:=hp.1 xs[i] (getElem_mem hi)
     omega
    ·have e:xs.getD i j=j:=by simp [List.getD,List.getElem?_eq_none (Nat.le_of_not_lt hi)]
     omega
theorem gR (j:Nat):∀(l:List Nat),rk j l<=l.length
 | []=>zjQ _
 |x::xs=>by
  unfold rk
  have:=gR j xs
  split<;>simp<;>omega
theorem fJ {j:Nat}:∀{l:List Nat}{i:Nat},l.Pairwise (· < ·)->l[i]?=some j->rk j l=i
 | [],i,_,h=>by simp at h
 |x::xs,0,_,h=>by
  have:x=j:=by simpa using h
  unfold rk;rw [if_neg (by omega)]
 |x::xs,i+1,hp,h=>by
  rw [pairwise_cons]at hp
  have h':xs[i]?=some j:=by simpa using h
  have:=hp.1 j (mem_of_getElem? h')
  unfold rk;rw [if_pos this,fJ hp.2 h']
theorem rR (xs:Array Nat)(j k:Nat)(h1:∀i,i<k->xs.getD i j<j)(h2:∀i,k<=i->¬xs.getD i j<j):∀(fuel lo hi:Nat),hi - lo<=fuel->lo<=k->k<=hi->below.go xs j fuel lo hi=k
 |0,lo,hi,hf,hl,hh=>by unfold below.go;omega
 |fuel+1,lo,hi,hf,hl,hh=>by
  unfold below.go
  by_cases hlt:lo<hi
  ·rw [if_pos hlt]
   dsimp only
   by_cases hm:xs.getD ((lo+hi)/2) j<j
   ·rw [if_pos hm]
    have:(lo+hi)/2<k:=Nat.lt_of_not_le fun h=>h2 _ h hm
    exact rR xs j k h1 h2 fuel _ _ (by omega) (by omega) hh
   ·rw [if_neg hm]
    have:k<=(lo+hi)/2:=Nat.le_of_not_lt fun h=>hm (h1 _ h)
    exact rR xs j k h1 h2 fuel _ _ (by omega) hl this
  ·rw [if_neg hlt];omega
theorem jJ {l:List Nat}(h:l.Pairwise (· < ·))(j:Nat):below l.toArray j=rk j l:=by
 unfold below
 refine rR _ _ _ (fun i hi=> ?_) (fun i hi=> ?_) _ _ _ (by simp) (zero_le _) (by simpa using gR j l)
 ·simpa using vM j l i hi
 ·simpa using xJ j l h i hi
def ins {α:Type}(l:List α)(k:Nat)(x:α):List α:=l.take k++x::l.drop k
theorem kG {α:Type}(l:List α)(k:Nat)(x:α):SetTable.insertAt l.toArray k x=(ins l k x).toArray:=by
 unfold SetTable.insertAt ins
 apply Array.ext'
 simp
 rw [take_of_length_le (by rw [length_drop];exact zjQ _)]
theorem mem_ins {α:Type}{l:List α}{k:Nat}{x y:α}:y∈ins l k x↔y=x\/y∈l:=by
 unfold ins
 rw [mem_append,mem_cons]
 have:y∈l↔y∈l.take k\/y∈l.drop k:=by
  rw [←mem_append,List.take_append_drop]
 rw [this]
 constructor
 ·rintro(h|h|h)
  ·exact .inr (.inl h)
  ·exact .inl h
  ·exact .inr (.inr h)
 ·rintro(h|h|h)
  ·exact .inr (.inl h)
  ·exact .inl h
  ·exact .inr (.inr h)
theorem fA {α:Type}{l:List α}{k:Nat}{x:α}(h:k<=l.length):(ins l k x).length=l.length+1:=by
 unfold ins
 rw [length_append,length_cons,length_take,length_drop];omega
theorem mI {α:Type}(l:List α)(k:Nat)(x:α):(ins l k x).Perm (x::l):=by
 unfold ins
 refine List.perm_middle.trans ?_
 rw [List.take_append_drop]
theorem lL {j:Nat}:∀{l:List Nat},l.Pairwise (· < ·)->j∉l->(ins l (rk j l) j).Pairwise (· < ·)
 | [],_,_=>by simp [ins]
 |x::xs,hp,hn=>by
  rw [pairwise_cons]at hp
  rw [mem_cons,not_or]at hn
  by_cases hx:x<j
  ·have e:ins (x::xs) (rk j (x::xs)) j=x::ins xs (rk j xs) j:=by
    have e':rk j (x::xs)=rk j xs+1:=by rw [rk,if_pos hx]
    unfold ins;rw [e'];rfl
   rw [e,pairwise_cons]
   refine⟨fun y hy=> ?_,lL hp.2 hn.2⟩
   rcases mem_ins.mp hy with rfl|h
   ·exact hx
   ·exact hp.1 y h
  ·have e:ins (x::xs) (rk j (x::xs)) j=j::x::xs:=by
    have e':rk j (x::xs)=0:=by rw [rk,if_neg hx]
    unfold ins;rw [e'];rfl
   have hx':j<x:=by omega
   rw [e,pairwise_cons,pairwise_cons]
   refine⟨fun y hy=> ?_,hp⟩
   rcases mem_cons.mp hy with rfl|h
   ·exact hx'
   ·exact lt_trans hx' (hp.1 y h)
theorem qA {α β:Type}(l:List α)(k:List β)(r:Nat)(x:α)(y:β)(hl:l.length=k.length):(ins l r x).zip (ins k r y)=ins (l.zip k) r (x,y):=by
 unfold ins
 rw [List.zip_append (by rw [length_take,length_take,hl]),zip_cons_cons]
 unfold List.zip
 rw [List.take_zipWith,List.drop_zipWith]
def tb (mask moves:Nat)(led:Bool)(pl:List Nat):SetTable:={mask:=mask,place:=pl.toArray,dummies:=#[],finger:=0,led:=led,moves:=moves,plain:=true}
theorem slot_live {mask moves:Nat}{led:Bool}{pl:List Nat}{i j:Nat}(hu:pl.Pairwise (· < ·))(h:pl[i]?=some j):(tb mask moves led pl).slot j= .live i:=by
 have e:below pl.toArray j=i:=by rw [jJ hu,fJ hu h]
 unfold SetTable.slot
 show(let i':=below pl.toArray j;if pl.toArray[i']?==some j then Slot.live i' else _)=_
 rw [e]
 simp [h]
theorem tR {mask moves:Nat}{led:Bool}{pl:List Nat}{j:Nat}(h:j∉pl):(tb mask moves led pl).slot j= .empty:=by
 unfold SetTable.slot
 show(let i':=below pl.toArray j;if pl.toArray[i']?==some j then Slot.live i' else if has #[] j then .dummy else .empty)=_
 have h1:(pl.toArray[below pl.toArray j]?==some j)=false:=by
  rw [beq_eq_false_iff_ne]
  intro e
  exact h (mem_of_getElem? (by simpa using e))
 have h2:has #[] j=false:=by simp [has]
 simp only [h1,h2];rfl
def adv (mask:Nat)(p:Probe):Probe:=(tb mask 0 false []).advance p
def nth (mask:Nat)(h:Int):Nat->Probe
 |0=>(tb mask 0 false []).probeStart h
 |n+1=>adv mask (nth mask h n)
def lp (mask:Nat)(h:Int):Nat->Nat×Nat
 |0=>(bits h%(mask+1),bits h)
 |k+1=>leap mask (lp mask h k).1 (lp mask h k).2
def hdp (mask:Nat)(q:Nat×Nat):Probe:={j:=q.1,more:=runEnd mask q.1 - q.1,i:=q.1,perturb:=q.2,dummy:=none}
def idx (mask:Nat)(h:Int):Nat->Nat
 |0=>0
 |k+1=>idx mask h k+(runEnd mask (lp mask h k).1 -(lp mask h k).1)+1
theorem pR {mask:Nat}{h:Int}{n:Nat}{p:Probe}(hn:nth mask h n=p):∀d,d<=p.more->nth mask h (n+d)={p with j:=p.j+d,more:=p.more - d}
 |0,_=>by rw [add_zero,hn];rfl
 |d+1,hd=>by
  show adv mask (nth mask h (n+d))=_
  rw [pR hn d (by omega)]
  unfold adv SetTable.advance
  dsimp only
  rw [if_pos (by omega)]
  simp only [Probe.mk.injEq,and_true,true_and]
  omega
theorem mU {mask:Nat}{h:Int}:∀k,nth mask h (idx mask h k)=hdp mask (lp mask h k)
 |0=>rfl
 |k+1=>by
  have ih:=mU (mask:=mask) (h:=h) k
  show adv mask (nth mask h (idx mask h k+(runEnd mask (lp mask h k).1 -(lp mask h k).1)))=_
  have e:=pR ih (runEnd mask (lp mask h k).1 -(lp mask h k).1) (zjQ _)
  rw [e]
  unfold adv SetTable.advance hdp
  dsimp only
  rw [if_neg (by omega)]
  rfl
theorem pL (mask:Nat)(h:Int):∀k,(lp mask h k).1<=mask
 |0=>le_of_lt_succ (mod_lt _ (succ_pos _))
 |k+1=>le_of_lt_succ (mod_lt _ (succ_pos _))
theorem yE (mask:Nat)(h:Int):∀k,(lp mask h k).2=bits h/32^k
 |0=>by simp [lp]
 |k+1=>by
  show(lp mask h k).2/32=_
  rw [yE mask h k,Nat.div_div_eq_div_mul,Nat.pow_succ]
theorem A4l (h:Int):bits h<2^64:=by
 unfold bits
 have h1:=Int.emod_lt_of_pos h (show(0:Int)<2^64 by decide)
 have h2:=Int.emod_nonneg h (show((2:Int)^64)≠0 by decide)
 omega
def it (mask:Nat)(i:Nat):Nat->Nat
 |0=>i
 |m+1=>(it mask i m*5+1)%(mask+1)
theorem jQ (mask:Nat)(h:Int):∀m,(lp mask h (13+m)).1=it mask (lp mask h 13).1 m
 |0=>rfl
 |m+1=>by
  show((lp mask h (13+m)).1*5+1+(lp mask h (13+m)).2/32)%(mask+1)=_
  have e:(lp mask h (13+m)).2/32=0:=by
   rw [yE,Nat.div_div_eq_div_mul,←Nat.pow_succ]
   refine Nat.div_eq_of_lt (lt_of_lt_of_le (A4l h) ?_)
   exact le_trans (by decide:2^64<=32^13) (Nat.pow_le_pow_right (by decide) (by omega))
  rw [e,jQ mask h m];rfl
def Mk (mask:Nat):Prop:=mask=7\/mask=31
theorem yP:∀i,i<8->∀p,p<8->∃m,m<8/\it 7 i m=p:=by decide +kernel
theorem zH:∀i,i<32->∀p,p<32->∃m,m<32/\it 31 i m=p:=by decide +kernel
theorem cover {mask:Nat}(hm:Mk mask)(h:Int)(p:Nat)(hp:p<=mask):∃k,k<=13+mask/\(lp mask h k).1=p:=by
 have hl:=pL mask h 13
 rcases hm with rfl|rfl
 ·obtain⟨m,h1,h2⟩:=yP (lp 7 h 13).1 (by omega) p (by omega)
  exact⟨13+m,by omega,by rw [jQ];exact h2⟩
 ·obtain⟨m,h1,h2⟩:=zH (lp 31 h 13).1 (by omega) p (by omega)
  exact⟨13+m,by omega,by rw [jQ];exact h2⟩
theorem A33 (mask i:Nat):runEnd mask i - i<=9:=by unfold runEnd;split<;>omega
theorem yM {mask i:Nat}(h:i<=mask):runEnd mask i<=mask:=by unfold runEnd;split<;>omega
theorem pB (mask i:Nat):i<=runEnd mask i:=by unfold runEnd;split<;>omega
theorem qV (mask:Nat)(h:Int):∀k,idx mask h k<=10*k
 |0=>zjQ _
 |k+1=>by
  have:=qV mask h k
  have:=A33 mask (lp mask h k).1
  unfold idx;omega
theorem oB (mask:Nat)(h:Int):∀n,(nth mask h n).j+(nth mask h n).more=runEnd mask (nth mask h n).i/\(nth mask h n).i<=mask/\(nth mask h n).dummy=none
 |0=>by
  have h1:bits h%(mask+1)<=mask:=le_of_lt_succ (mod_lt _ (succ_pos _))
  refine⟨?_,h1,rfl⟩
  show bits h%(mask+1)+(runEnd mask (bits h%(mask+1)) - bits h%(mask+1))=runEnd mask (bits h%(mask+1))
  have:=pB mask (bits h%(mask+1))
  omega
 |n+1=>by
  obtain⟨h1,h2,h3⟩:=oB mask h n
  show(adv mask (nth mask h n)).j+(adv mask (nth mask h n)).more=runEnd mask (adv mask (nth mask h n)).i/\(adv mask (nth mask h n)).i<=mask/\(adv mask (nth mask h n)).dummy=none
  unfold adv SetTable.advance
  by_cases hc:(nth mask h n).more>0
  ·rw [if_pos hc]
   exact⟨by show(nth mask h n).j+1+((nth mask h n).more - 1)=_;rw [←h1];omega,h2,h3⟩
  ·rw [if_neg hc]
   have h4:(leap mask (nth mask h n).i (nth mask h n).perturb).1<=mask:=le_of_lt_succ (mod_lt _ (succ_pos _))
   refine⟨?_,h4,h3⟩
   have:=pB mask (leap mask (nth mask h n).i (nth mask h n).perturb).1
   show(leap mask (nth mask h n).i (nth mask h n).perturb).1+(runEnd mask (leap mask (nth mask h n).i (nth mask h n).perturb).1 -(leap mask (nth mask h n).i (nth mask h n).perturb).1)=runEnd mask (leap mask (nth mask h n).i (nth mask h n).perturb).1
   omega
theorem lP (mask:Nat)(h:Int)(n:Nat):(nth mask h n).j<=mask:=by
 obtain⟨h1,h2,_⟩:=oB mask h n
 have:=yM h2
 omega
theorem first_free {mask:Nat}(hm:Mk mask)(h:Int)(F:Nat->Prop)(hF:∃p,p<=mask/\¬F p):∃n0 k,n0<=idx mask h k/\k<=13+mask/\n0<10*turns mask/\¬F (nth mask h n0).j/\∀m,m<n0->F (nth mask h m).j:=by
 obtain⟨p,hp,hf⟩:=hF
 obtain⟨k,hk,e⟩:=cover hm h p hp
 have e2:(nth mask h (idx mask h k)).j=p:=by rw [mU];exact e
 obtain⟨n0,h1,h2,h3⟩:=least (P:=fun n=> ¬F (nth mask h n).j) (idx mask h k) (by rw [e2];exact hf)
 have:=qV mask h k
 exact⟨n0,k,h1,hk,by unfold turns;omega,h2,fun m hm=>Classical.byContradiction fun hc=>h3 m hm hc⟩
theorem go_run {mask moves:Nat}{led:Bool}{pl:List Nat}(hu:pl.Pairwise (· < ·))(hs:Nat->Int)(h:Int)(n0:Nat)(hE:(nth mask h n0).j∉pl)(hL:∀m,m<n0->(nth mask h m).j∈pl):∀(d n fuel:Nat),n+d=n0->d<fuel->
  (probe.go (tb mask moves led pl) hs h fuel (nth mask h n)=some (.empty (nth mask h n0).j none)/\∀m,n<=m->m<n0->∀i,pl[i]?=some (nth mask h m).j->hs i≠h)\/
  ∃m i,n<=m/\m<n0/\pl[i]?=some (nth mask h m).j/\hs i=h/\probe.go (tb mask moves led pl) hs h fuel (nth mask h n)=some (.candidate (nth mask h m).j i (nth mask h (m+1)))/\∀m',n<=m'->m'<m->∀i,pl[i]?=some (nth mask h m').j->hs i≠h
 |0,n,0,_,hf=>absurd hf (by omega)
 |0,n,fuel+1,hn,hf=>by
  have hn':n=n0:=by omega
  subst hn'
  refine .inl ⟨?_,fun m h1 h2=>absurd h1 (by omega)⟩
  unfold probe.go
  rw [tR hE]
  dsimp only
  rw [(oB mask h n).2.2]
 |d+1,n,0,_,hf=>absurd hf (by omega)
 |d+1,n,fuel+1,hn,hf=>by
  obtain⟨i,hi⟩:=mem_iff_getElem?.mp (hL n (by omega))
  have hun:∀i',pl[i']?=some (nth mask h n).j->i'=i:=fun i' hi'=>by rw [←fJ hu hi',fJ hu hi]
  by_cases hh:hs i=h
  ·refine .inr ⟨n,i,zjQ _,by omega,hi,hh,?_,fun m' h1 h2=>absurd h1 (by omega)⟩
   unfold probe.go
   rw [slot_live hu hi]
   dsimp only
   rw [if_pos (by simpa using hh)]
   rfl
  ·have e:probe.go (tb mask moves led pl) hs h (fuel+1) (nth mask h n)=probe.go (tb mask moves led pl) hs h fuel (nth mask h (n+1)):=by
    rw [probe.go,slot_live hu hi]
    dsimp only
    rw [if_neg (by simpa using hh)]
    rfl
   rw [e]
   have hne:∀i',pl[i']?=some (nth mask h n).j->hs i'≠h:=fun i' hi'=>by rw [hun i' hi'];exact hh
   rcases go_run hu hs h n0 hE hL d (n+1) fuel (by omega) (by omega)with⟨h1,h2⟩| ⟨m,i',h1,h2,h3,h4,h5,h6⟩
   ·refine .inl ⟨h1,fun m a b=> ?_⟩
    by_cases e:m=n
    ·subst e;exact hne
    ·exact h2 m (by omega) b
   ·refine .inr ⟨m,i',by omega,h2,h3,h4,h5,fun m' a b=> ?_⟩
    by_cases e:m'=n
    ·subst e;exact hne
    ·exact h6 m' (by omega) b
def Rch (mask:Nat)(F:Nat->Prop)(x:Nat×Int):Prop:=∃n,(nth mask x.2 n).j=x.1/\∀m,m<n->F (nth mask x.2 m).j
structure Ok (mask:Nat)(pl:List Nat)(hs:List Int):Prop where
 mk':Mk mask
 len:pl.length=hs.length
 up:pl.Pairwise (· < ·)
 top:∀p∈pl,p<=mask
 few:hs.length*5<mask*3
 reach:∀x∈pl.zip hs,Rch mask (· ∈pl) x
theorem Ok.nil:Ok 7 [] []:=⟨.inl rfl,rfl,List.Pairwise.nil,fun p h=>absurd h (by simp),by decide,fun x h=>absurd h (by simp)⟩
theorem Ok.free {mask:Nat}{pl:List Nat}{hs:List Int}(o:Ok mask pl hs)(h:Int):∃n0,n0<10*turns mask/\(nth mask h n0).j∉pl/\∀m,m<n0->(nth mask h m).j∈pl:=by
 have hl:pl.length<mask+1:=by have:=o.few;have:=o.len;omega
 obtain⟨p,h1,h2⟩:=hole pl (mask+1) hl
 obtain⟨n0,k,a,b,c,d,e⟩:=first_free o.mk' h (· ∈pl) ⟨p,by omega,h2⟩
 exact⟨n0,c,d,e⟩
theorem Ok.met {mask:Nat}{pl:List Nat}{hs:List Int}(o:Ok mask pl hs){i n0:Nat}{h:Int}(hi:hs[i]?=some h)(h0:(nth mask h n0).j∉pl):∃m,m<n0/\pl[i]?=some (nth mask h m).j:=by
 have hlt:i<pl.length:=by rw [o.len];exact(zjW.mp hi).1
 have hp:pl[i]?=some pl[i]:=getElem?_eq_getElem hlt
 have hz:(pl.zip hs)[i]?=some (pl[i],h):=by rw [List.getElem?_zip_eq_some];exact⟨hp,hi⟩
 obtain⟨n,h1,h2⟩:=o.reach _ (mem_of_getElem? hz)
 have h1':(nth mask h n).j=pl[i]:=h1
 refine⟨n,?_,by rw [h1'];exact hp⟩
 refine Nat.lt_of_not_le fun hle=> ?_
 by_cases e:n0=n
 ·subst e;exact h0 (by rw [h1'];exact getElem_mem hlt)
 ·exact h0 (h2 n0 (by omega))
theorem Ok.put {mask:Nat}{pl:List Nat}{hs:List Int}(o:Ok mask pl hs){h:Int}{n0:Nat}(hE:(nth mask h n0).j∉pl)(hL:∀m,m<n0->(nth mask h m).j∈pl)(few:(hs.length+1)*5<mask*3):
  Ok mask (ins pl (rk (nth mask h n0).j pl) (nth mask h n0).j) (ins hs (rk (nth mask h n0).j pl) h):=by
 have hr:rk (nth mask h n0).j pl<=pl.length:=gR _ _
 refine⟨o.mk',?_,lL o.up hE,fun p hp=> ?_,?_,fun x hx=> ?_⟩
 ·rw [fA hr,fA (by rw [←o.len];exact hr),o.len]
 ·rcases mem_ins.mp hp with rfl|h
  ·exact lP _ _ _
  ·exact o.top p h
 ·rw [fA (by rw [←o.len];exact hr)];exact few
 ·rw [qA _ _ _ _ _ o.len]at hx
  rcases mem_ins.mp hx with rfl|hx
  ·exact⟨n0,rfl,fun m hm=>mem_ins.mpr (.inr (hL m hm))⟩
  ·obtain⟨n,h1,h2⟩:=o.reach x hx
   exact⟨n,h1,fun m hm=>mem_ins.mpr (.inr (h2 m hm))⟩
def dE (ow:Array (Option Nat))(j:Nat):Prop:=∃k,ow[j]?=some (some k)
structure Own (mask:Nat)(ow:Array (Option Nat))(done:List Int):Prop where
 mk':Mk mask
 size:ow.size=mask+1
 bnd:∀(j k:Nat),ow[j]?=some (some k)->k<done.length
 has:∀k:Nat,k<done.length->∃j:Nat,ow[j]?=some (some k)
 uniq:∀(j j' k:Nat),ow[j]?=some (some k)->ow[j']?=some (some k)->j=j'
 reach:∀(j k:Nat)(h:Int),ow[j]?=some (some k)->done[k]?=some h->Rch mask (dE ow) (j,h)
theorem Own.hole {mask:Nat}{ow:Array (Option Nat)}{done:List Int}(o:Own mask ow done)(hl:done.length<=mask):∃p,p<=mask/\¬dE ow p:=by
 refine Classical.byContradiction fun hc=> ?_
 have hall:∀p,p<=mask->dE ow p:=fun p hp=>Classical.byContradiction fun hn=>hc ⟨p,hp,hn⟩
 have hf:∀p,p<=mask->ow[p]?=some (some ((ow.getD p none).getD 0)):=fun p hp=>by
  obtain⟨k,hk⟩:=hall p hp
  rw [Array.getD_eq_getD_getElem?,hk];rfl
 have h1:((List.range (mask+1)).map fun p=>(ow.getD p none).getD 0).Nodup:=by
  refine pairwise_map.mpr ((nodup_range (n:=mask+1)).imp_of_mem fun{a b} ha hb hne e=>hne ?_)
  have ha':=hf a (by have:=mem_range.mp ha;omega)
  have hb':=hf b (by have:=mem_range.mp hb;omega)
  rw [e]at ha'
  exact o.uniq a b _ ha' hb'
 have h2:((List.range (mask+1)).map fun p=>(ow.getD p none).getD 0).length<=(List.range done.length).length:=mY _ _ h1 fun x hx=>by
  obtain⟨p,hp,rfl⟩:=mem_map.mp hx
  exact mem_range.mpr (o.bnd p _ (hf p (by have:=mem_range.mp hp;omega)))
 rw [length_map,length_range,length_range]at h2
 omega
theorem getD_none {mask:Nat}{ow:Array (Option Nat)}(hs:ow.size=mask+1){j:Nat}(hj:j<=mask):(ow.getD j (some 0)).isNone=true↔ ¬dE ow j:=by
 have hlt:j<ow.size:=by omega
 have e:ow[j]?=some ow[j]:=Array.getElem?_eq_getElem hlt
 rw [Array.getD_eq_getD_getElem?,e]
 unfold dE
 rw [e]
 cases ow[j]<;>simp
theorem uY {mask:Nat}{ow:Array (Option Nat)}{h:Int}{n0 K:Nat}(hs:ow.size=mask+1)(hE:¬dE ow (nth mask h n0).j)(hL:∀m,m<n0->dE ow (nth mask h m).j)(hK:n0<=idx mask h K):∀(d k fuel:Nat),k+d=K->d<fuel->idx mask h k<=n0->
  layClean.free mask ow fuel (lp mask h k).1 (lp mask h k).2=some (nth mask h n0).j:=by
 intro d
 induction d with
 |zero=>
  intro k fuel hk hf hi
  obtain⟨fuel,rfl⟩:∃f,fuel=f+1:=⟨fuel - 1,by omega⟩
  have hk':k=K:=by omega
  subst hk'
  have e0:n0=idx mask h k:=by omega
  have hj:(nth mask h n0).j=(lp mask h k).1:=by rw [e0,mU];rfl
  unfold layClean.free
  have:(List.range (runEnd mask (lp mask h k).1+1 -(lp mask h k).1)).find? (fun c=>(ow.getD ((lp mask h k).1+c) (some 0)).isNone)=some 0:=by
   rw [List.find?_range_eq_some]
   refine⟨?_,mem_range.mpr (by have:=pB mask (lp mask h k).1;omega),fun j hj=>absurd hj (by omega)⟩
   rw [add_zero,getD_none hs (pL _ _ _),←hj];exact hE
  rw [this]
  dsimp only
  rw [hj,add_zero]
 |succ d ih=>
  intro k fuel hk hf hi
  obtain⟨fuel,rfl⟩:∃f,fuel=f+1:=⟨fuel - 1,by omega⟩
  have hrun:∀e,e<=runEnd mask (lp mask h k).1 -(lp mask h k).1->(nth mask h (idx mask h k+e)).j=(lp mask h k).1+e:=fun e he=>by
   rw [pR (mU k) e he];rfl
  have hend:=yM (pL mask h k)
  have hge:=pB mask (lp mask h k).1
  unfold layClean.free
  by_cases hc:n0<=idx mask h k+(runEnd mask (lp mask h k).1 -(lp mask h k).1)
  ·have:(List.range (runEnd mask (lp mask h k).1+1 -(lp mask h k).1)).find? (fun c=>(ow.getD ((lp mask h k).1+c) (some 0)).isNone)=some (n0 - idx mask h k):=by
    rw [List.find?_range_eq_some]
    refine⟨?_,mem_range.mpr (by omega),fun j hj=> ?_⟩
    ·rw [getD_none hs (by omega),←hrun _ (by omega),show idx mask h k+(n0 - idx mask h k)=n0 by omega];exact hE
    ·have hj':=hL (idx mask h k+j) (by omega)
     rw [hrun j (by omega)]at hj'
     rw [Bool.not_eq_true']
     cases z:(ow.getD ((lp mask h k).1+j) (some 0)).isNone with
     |false=>rfl
     |true=>exact absurd hj' ((getD_none hs (by omega)).mp z)
   rw [this]
   dsimp only
   rw [←hrun _ (by omega),show idx mask h k+(n0 - idx mask h k)=n0 by omega]
  ·have:(List.range (runEnd mask (lp mask h k).1+1 -(lp mask h k).1)).find? (fun c=>(ow.getD ((lp mask h k).1+c) (some 0)).isNone)=none:=by
    rw [List.find?_range_eq_none]
    intro j hj
    have hj':=hL (idx mask h k+j) (by omega)
    rw [hrun j (by omega)]at hj'
    rw [Bool.not_eq_true']
    cases z:(ow.getD ((lp mask h k).1+j) (some 0)).isNone with
    |false=>rfl
    |true=>exact absurd hj' ((getD_none hs (by omega)).mp z)
   rw [this]
   exact ih (k+1) fuel (by omega) (by omega) (by show idx mask h k+_+1<=n0;omega)
theorem Own.put {mask:Nat}{ow:Array (Option Nat)}{done:List Int}(o:Own mask ow done){h:Int}{n0:Nat}(hE:¬dE ow (nth mask h n0).j)(hL:∀m,m<n0->dE ow (nth mask h m).j):
  Own mask (ow.setIfInBounds (nth mask h n0).j (some done.length)) (done++[h]):=by
 have hlt:(nth mask h n0).j<ow.size:=by rw [o.size];have:=lP mask h n0;omega
 have get:∀j:Nat,(ow.setIfInBounds (nth mask h n0).j (some done.length))[j]?=if (nth mask h n0).j=j then some (some done.length)else ow[j]?:=fun j=>by
  rw [Array.getElem?_setIfInBounds]
  by_cases e:(nth mask h n0).j=j
  ·rw [if_pos e,if_pos e,if_pos (by omega)]
  ·rw [if_neg e,if_neg e]
 have keep:∀j,dE ow j->dE (ow.setIfInBounds (nth mask h n0).j (some done.length)) j:=fun j ⟨k,hk⟩=>by
  refine⟨k,?_⟩
  rw [get,if_neg (fun e=>hE ⟨k,by rw [e];exact hk⟩)];exact hk
 refine⟨o.mk',by rw [Array.size_setIfInBounds,o.size],fun j k e=> ?_,fun k hk=> ?_,fun j j' k e e'=> ?_,fun j k h' e e'=> ?_⟩
 ·rw [get]at e
  rw [length_append]
  by_cases z:(nth mask h n0).j=j
  ·rw [if_pos z]at e;cases e;simp
  ·rw [if_neg z]at e;have:=o.bnd j k e;simp;omega
 ·rw [length_append]at hk
  by_cases z:k=done.length
  ·subst z;exact⟨_,by rw [get,if_pos rfl]⟩
  ·obtain⟨j,hj⟩:=o.has k (by simp at hk;omega)
   exact⟨j,by rw [get,if_neg (fun e=>hE ⟨k,by rw [e];exact hj⟩)];exact hj⟩
 ·rw [get]at e e'
  by_cases z:(nth mask h n0).j=j
  ·rw [if_pos z]at e;cases e
   by_cases z':(nth mask h n0).j=j'
   ·omega
   ·rw [if_neg z']at e';have:=o.bnd j' _ e';omega
  ·rw [if_neg z]at e
   by_cases z':(nth mask h n0).j=j'
   ·rw [if_pos z']at e';cases e';have:=o.bnd j _ e;omega
   ·rw [if_neg z']at e';exact o.uniq j j' k e e'
 ·rw [get]at e
  by_cases z:(nth mask h n0).j=j
  ·rw [if_pos z]at e;cases e
   have:h'=h:=by simpa using e'.symm
   subst this
   exact⟨n0,z,fun m hm=>keep _ (hL m hm)⟩
  ·rw [if_neg z]at e
   have hk:=o.bnd j k e
   rw [getElem?_append_left hk]at e'
   obtain⟨n,h1,h2⟩:=o.reach j k h' e e'
   exact⟨n,h1,fun m hm=>keep _ (h2 m hm)⟩
def lJ (mask:Nat)(acc:Option (Array (Option Nat)×Nat))(h:Int):Option (Array (Option Nat)×Nat):=do
 let (owner,k)←acc
 let j←layClean.free mask owner (turns mask) (bits h%(mask+1)) (bits h)
 pure (owner.setIfInBounds j (some k),k+1)
theorem lS {mask:Nat}:∀(hs done:List Int)(ow:Array (Option Nat)),Own mask ow done->done.length+hs.length<=mask+1->∃ow',hs.foldl (lJ mask) (some (ow,done.length))=some (ow',done.length+hs.length)/\Own mask ow' (done++hs)
 | [],done,ow,o,_=> ⟨ow,rfl,by rw [append_nil];exact o⟩
 |h::hs,done,ow,o,hl=>by
  rw [length_cons]at hl
  obtain⟨n0,k,h1,h2,h3,h4,h5⟩:=first_free o.mk' h (dE ow) (o.hole (by omega))
  have e:layClean.free mask ow (turns mask) (bits h%(mask+1)) (bits h)=some (nth mask h n0).j:=uY (K:=k) o.size h4 h5 h1 k 0 (turns mask) (by omega) (by unfold turns;omega) (zero_le _)
  have e2:lJ mask (some (ow,done.length)) h=some (ow.setIfInBounds (nth mask h n0).j (some done.length),done.length+1):=by
   show(layClean.free mask ow (turns mask) (bits h%(mask+1)) (bits h)).bind _=_
   rw [e];rfl
  rw [foldl_cons,e2]
  obtain⟨ow',g1,g2⟩:=lS hs (done++[h]) _ (o.put h4 h5) (by rw [length_append];simp;omega)
  refine⟨ow',?_,by rw [append_assoc]at g2;exact g2⟩
  rw [length_append]at g1
  rw [show done.length+1=done.length+[h].length from rfl,g1]
  simp;omega
theorem Own.nil {mask:Nat}(hm:Mk mask):Own mask (Array.replicate (mask+1) none) []:=by
 have hno:∀(j k:Nat),(Array.replicate (mask+1) (none:Option Nat))[j]?≠some (some k):=fun j k e=>by
  rw [Array.getElem?_replicate]at e
  split at e<;>cases e
 exact⟨hm,by simp,fun j k e=>absurd e (hno j k),fun k hk=>by simp at hk,fun j _ k e=>absurd e (hno j k),fun j k _ e=>absurd e (hno j k)⟩
theorem rC {mask:Nat}(hm:Mk mask)(hs:List Int)(hl:hs.length<=mask+1):∃ow,layClean mask hs.toArray=some ow/\Own mask ow hs:=by
 obtain⟨ow,h1,h2⟩:=lS hs [] _ (Own.nil hm) (by simpa using hl)
 refine⟨ow,?_,by simpa using h2⟩
 unfold layClean
 rw [←Array.foldl_toList]
 show Option.map (·.1) (hs.foldl (lJ mask) (some (Array.replicate (mask+1) none,0)))=_
 rw [show(some (Array.replicate (mask+1) (none:Option Nat),0))=some (Array.replicate (mask+1) none,([]:List Int).length)from rfl,h1]
 rfl
theorem laid_run {mask:Nat}(hm:Mk mask)(moves:Nat)(led:Bool)(hs:List Int)(few:hs.length*5<mask*3):
  ∃(pl:List Nat)(order:List Nat),laid mask 0 moves led true hs.toArray=some (tb mask moves led pl,order.toArray)/\order.Perm (List.range hs.length)/\Ok mask pl (order.map fun k=>hs.getD k 0):=by
 obtain⟨ow,e,o⟩:=rC hm hs (by omega)
 generalize hlive:((List.range (mask+1)).filterMap fun j=>(ow.getD j none).map fun k=>(j,k))=live
 have mem:∀(j k:Nat),(j,k)∈live↔ow[j]?=some (some k):=fun j k=>by
  rw [←hlive,mem_filterMap]
  constructor
  ·rintro⟨a,_,h⟩
   rw [Array.getD_eq_getD_getElem?]at h
   cases z:ow[a]? with
   |none=>rw [z]at h;cases h
   |some x=>
    rw [z]at h
    cases x with
    |none=>cases h
    |some b=>
     have h':some (a,b)=some (j,k):=h
     cases h'
     exact z
  ·intro h
   have hlt:j<ow.size:=(Array.getElem?_eq_some_iff.mp h).1
   refine⟨j,mem_range.mpr (by rw [←o.size];exact hlt),?_⟩
   rw [Array.getD_eq_getD_getElem?,h];rfl
 have up:(live.map (·.1)).Pairwise (· < ·):=by
  rw [pairwise_map,←hlive,List.pairwise_filterMap]
  refine List.pairwise_lt_range.imp fun{a b} hab x hx y hy=> ?_
  have ex:x.1=a:=by
   cases z:ow.getD a none with
   |none=>rw [z]at hx;cases hx
   |some c=>rw [z]at hx;cases hx;rfl
  have ey:y.1=b:=by
   cases z:ow.getD b none with
   |none=>rw [z]at hy;cases hy
   |some c=>rw [z]at hy;cases hy;rfl
  rw [ex,ey];exact hab
 have nd2:(live.map (·.2)).Nodup:=by
  have nd1:live.Pairwise fun a b=>a.1<b.1:=pairwise_map.mp up
  refine pairwise_map.mpr (nd1.imp_of_mem fun{a b} ha hb hlt he=> ?_)
  have h1:=(mem a.1 a.2).mp ha
  have h2:=(mem b.1 b.2).mp hb
  rw [he]at h1
  have:=o.uniq _ _ _ h1 h2
  omega
 have perm:(live.map (·.2)).Perm (List.range hs.length):=by
  rw [List.perm_ext_iff_of_nodup nd2 nodup_range]
  intro k
  rw [mem_map,mem_range]
  constructor
  ·rintro⟨x,hx,rfl⟩
   exact o.bnd _ _ ((mem x.1 x.2).mp hx)
  ·intro hk
   obtain⟨j,hj⟩:=o.has k hk
   exact⟨(j,k),(mem j k).mpr hj,rfl⟩
 have full:∀j,dE ow j->j∈live.map (·.1):=fun j ⟨k,hk⟩=>mem_map.mpr ⟨(j,k),(mem j k).mpr hk,rfl⟩
 have hlen:live.length=hs.length:=by have:=perm.length_eq;simpa using this
 refine⟨live.map (·.1),live.map (·.2),?_,perm,hm,by simp,up,fun p hp=> ?_,by simp only [length_map];omega,fun x hx=> ?_⟩
 ·unfold laid
  rw [e]
  show some (({mask:=mask,place:=(((List.range (mask+1)).filterMap fun j=>(ow.getD j none).map fun k=>(j,k)).map (·.1)).toArray,dummies:=#[],finger:=0,led:=led,moves:=moves,plain:=true}:SetTable),(((List.range (mask+1)).filterMap fun j=>(ow.getD j none).map fun k=>(j,k)).map (·.2)).toArray)=_
  rw [hlive];rfl
 ·obtain⟨x,hx,rfl⟩:=mem_map.mp hp
  have:=(Array.getElem?_eq_some_iff.mp ((mem x.1 x.2).mp hx)).1
  rw [o.size]at this;omega
 ·rw [map_map]at hx
  rw [zip_map']at hx
  obtain⟨y,hy,rfl⟩:=mem_map.mp hx
  have h1:=(mem y.1 y.2).mp hy
  have hk:=o.bnd _ _ h1
  obtain⟨n,a,b⟩:=o.reach y.1 y.2 hs[y.2] h1 (getElem?_eq_getElem hk)
  refine⟨n,?_,fun m hm=>full _ ?_⟩
  ·show(nth mask (hs.getD y.2 0) n).j=y.1
   rw [show hs.getD y.2 0=hs[y.2] by simp [hk]];exact a
  ·have:=b m hm
   show dE ow (nth mask (hs.getD y.2 0) m).j
   rw [show hs.getD y.2 0=hs[y.2] by simp [hk]];exact this
theorem A0n (moves:Nat)(led:Bool)(pl:List Nat)(hs:List Int)(h5:hs.length=5):
  ∃(pl' order:List Nat)(moves':Nat),(tb 7 moves led pl).relaid hs.toArray (SetTable.grown 5)=some (tb 31 moves' led pl',order.toArray)/\order.Perm (List.range hs.length)/\Ok 31 pl' (order.map fun k=>hs.getD k 0):=by
 obtain⟨pl',order,h1,h2,h3⟩:=laid_run (mask:=31) (.inr rfl) ((tb 7 moves led pl).movedTo 31) led hs (by omega)
 exact⟨pl',order,_,h1,h2,h3⟩
end Stb
namespace Stb
open PySem PyProof.Rows
def hT (k:List Int):Int:=reduceHash (Builtin.Tuple.tupleHashOf (k.map hashInt))
section
variable {prog:Program}{w:World}{A:Around}{E:Value->Shared->Prop}{s:Shared}
abbrev KAt (prog:Program)(w:World)(h:Heap)(k:List Int)(a:Addr):Prop:=IsTupleKey (intKind prog w) h k a
theorem KAt.ints {h:Heap}{k:List Int}{vs:List Value}(x:ItemsAre (intKind prog w) k vs):∀v∈vs,∃i t,v= .int i t:=by
 induction x with
 |nil=>intro v hv;cases hv
 | @cons k v' ks vs h1 _ ih=>
  intro v hv
  rcases mem_cons.mp hv with rfl|hv
  ·obtain⟨t,e⟩:=Value.isInt_shape h1
   exact⟨_,t,e⟩
  ·exact ih v hv
end
theorem A4h {mask moves:Nat}{led:Bool}{pl:List Nat}(hu:pl.Pairwise (· < ·))(j:Nat):(tb mask moves led pl).put j=(tb mask moves led (ins pl (rk j pl) j),rk j pl):=by
 have h2:SetTable.has #[] j=false:=by simp [SetTable.has]
 show(({tb mask moves led pl with place:=SetTable.insertAt pl.toArray (SetTable.below pl.toArray j) j,dummies:=if SetTable.has #[] j then SetTable.eraseAt #[] (SetTable.below #[] j)else #[]}:SetTable),SetTable.below pl.toArray j)=_
 rw [jJ hu,kG,h2]
 rfl
theorem A56 {mask moves:Nat}{led:Bool}{pl:List Nat}:(tb mask moves led pl).tooFull=decide (mask*3<=pl.length*5):=by
 unfold SetTable.tooFull SetTable.fill tb
 simp
theorem rQ {α:Type}(l:List α)(d:α)(order:List Nat)(h:∀k∈order,k<l.length):order.filterMap (fun k=>l[k]?)=order.map fun k=>l.getD k d:=by
 induction order with
 |nil=>rfl
 |cons k ks ih=>
  have hk:=h k zjR
  rw [filterMap_cons,getElem?_eq_getElem hk,map_cons,ih fun k' hk'=>h k' (zjS _ hk')]
  simp [hk]
theorem qH {α:Type}(l:List α)(d:α):(List.range l.length).map (fun k=>l.getD k d)=l:=by
 refine ext_getElem (by simp) fun i h1 h2=> ?_
 simp [h2]
section
variable {prog:Program}{w:World}{A:Around}{E:Value->Shared->Prop}{s:Shared}
end
theorem KAt.at {prog:Program}{w:World}{h h':Heap}{k:List Int}{a:Addr}(x:KAt prog w h k a)(e:∀o,h.get? a=some o->h'.get? a=some o):KAt prog w h' k a:=let ⟨o,items,n,ho,r⟩:=x;⟨o,items,n,e _ ho,r⟩
section
variable {prog:Program}{w:World}{A:Around}{R:Result->Shared->Prop}{I:Addr}{fp wr:List Addr}{G:Array GenState->Array GenState->Prop}{n:Nat}{P:Nat->Value->Prop}{St:Nat->Shared->Prop}{led:Bool}
end
section
variable {prog:Program}{w:World}{A:Around}{E:Value->Shared->Prop}{s:Shared}
def byT (w:World):Bool:=w.params.followText "set-order"
end
theorem yS {α:Type}:∀(l:List α)(i:Nat)(h:i<l.length),(l[i]::l.eraseIdx i).Perm l
 | [],i,h=>by simp at h
 |x::l,0,h=>List.Perm.refl _
 |x::l,i+1,h=>by
  have ih:=yS l i (by simpa using h)
  show(l[i]'(by simpa using h)::x::l.eraseIdx i).Perm (x::l)
  exact(List.Perm.swap _ _ _).trans (ih.cons x)
theorem uP {α:Type}(next:Nat->Nat):∀(fuel k:Nat)(left:List α)(out:Array α),left.length=fuel->(pickOrder.go next fuel k left out).toList.Perm (out.toList++left)
 |0,k,left,out,h=>by
  cases left with
  |nil=>unfold pickOrder.go;simp
  |cons _ _=>simp at h
 |fuel+1,k,left,out,h=>by
  have hl:next k%left.length<left.length:=mod_lt _ (by omega)
  unfold pickOrder.go
  rw [getElem?_eq_getElem hl]
  have ih:=uP next fuel (k+1) (left.eraseIdx (next k%left.length)) (out.push left[next k%left.length]) (by rw [length_eraseIdx_of_lt hl];omega)
  refine ih.trans ?_
  rw [Array.toList_push,append_assoc]
  exact List.Perm.append_left _ (yS _ _ hl)
theorem A5n {α:Type}(next:Nat->Nat)(xs:Array α):(pickOrder next xs).toList.Perm xs.toList:=by
 have:=uP next xs.size 0 xs.toList #[] (by simp)
 unfold pickOrder
 simpa using this
def slot (pl:List Nat)(i:Nat):Nat:=if i=0 then 0 else pl.getD (i - 1) 0+1
section
variable {prog:Program}{w:World}{A:Around}{E:Value->Shared->Prop}{s:Shared}
end
section
variable {prog:Program}{w:World}{A:Around}{E:Value->Shared->Prop}{s:Shared}
end
section
variable {prog:Program}{w:World}{A:Around}{E:Value->Shared->Prop}{s:Shared}
end
end Stb
namespace Stb
end Stb
namespace L2
open PySem PySem.Spec PyProof.Rows Srt Stb
theorem vO {P:Program}{w:World}:∀{ks:List Int}{us:List Value},Vals (ks.map V.int) us->ItemsAre (intKind P w) ks us
 | [],_,.nil=> .nil
 |k::ks,_,.cons r t=>by
  obtain⟨t',rfl⟩:=r
  exact .cons (intKind_is _ _ _ _) (vO t)
section
variable {X:Cx}
theorem A9c {pins:List (Addr×Obj)}{σ:St}{H:Hp}{s:Shared}{a:Addr}{ks:List Int}(I:Inv X pins σ H s)(h:H a=some (.tup (ks.map V.int))):KAt X.prog X.w s.heap ks a:=by
 obtain⟨_,its,rv,o,ho,hc,n,hd⟩:=(show ObjOk X.prog X.w H s.heap a (.tup _)from I.hok _ _ h)
 exact⟨o,its.toArray,n,ho,hc,hd,vO rv⟩
end
end L2
namespace Wlk
open PySem PyProof.Rows Srt Cyc Grd L2
theorem lC (a:Pl):¬ltP a a:=fun z=>by unfold ltP at z;rw [nV]at z;cases z
def fV (a b:Pl):Bool:=decide ((Int.natAbs (a.1 - b.1):Int)+Int.natAbs (a.2 - b.2)=1)
end Wlk
namespace M46
open PySem L2 PyProof.Rows Grd Wlk Cyc Srt
abbrev rN:Stmt:=top 21
abbrev qC:Stmt:=top 37
def rP:Sp:=fun vs H Q _=> ∃p c,vs=[.ref p]/\PlA H p c/\∀l qs H',H l=none->Same H H'->H' l=some (.lst ((qs:List Addr).map V.ref))->PlAt H' qs (beside c)->Q (.ref l) H'
def tF:Sp:=fun vs H Q _=> ∃p q c d,vs=[.ref p,.ref q]/\PlA H p c/\PlA H q d/\Q (.bl (fV c d)) H
section
variable {P:Program}{w:World}{K:W.Frag}{mg:Str->Option Value}{base:Heap}
abbrev nBs:List Str:=["place","row","column"]
theorem scBeside:bV nBs ["place"] (aK rN):=by ac_rfl
theorem A40 {f:Addr}{fd:FuncData}(F:Fun K "places_beside" "places_beside" rN f fd):FnOk P w K mg base CX0 1 f fd ["place"] rP:=by
 refine F.ok scBeside (fun vs H Q E h=> ?_) (fun cdv A outer s H vs Q E hr h=> ?_)
 ·obtain⟨p,c,rfl,_⟩:=h;rfl
 ·obtain⟨p,c,rfl,hp,q⟩:=h
  have nd:=scBeside.nd
  refine⟨_,A05 (iQ (pv 0) (eQ rfl (cB (bE (i:=1) nd rfl (Or.inl rfl)) (cB (bE (i:=2) nd rfl (Or.inl rfl)) eP))))<|
   A3g (lstq (lY (tupq (hU (bF jN (pv 1) aH) (nN (pv 2) hJ))) (lY (tupq (nN (pv 1) (hU (bF jN (pv 2) aH) hJ))) (lY (tupq (nN (pv 1) (hU (bF eU (pv 2) aH) hJ))) (lY (tupq (hU (bF eU (pv 1) aH) (nN (pv 2) hJ))) hJ))))),?_⟩
  refine⟨_,rfl,p,_,rfl,SqT.of hp,rfl,_,_,rfl,_,_,rfl,rfl,?_⟩
  dsimp only
  refine A2r ?_
  refine⟨_,rfl,_,_,rfl,rfl,_,rfl,by show 2<=sizeLine;decide,fun p1 h1=> ?_⟩
  have s1:=aV (o:=.tup [.int (c.1 - 1),.int c.2]) h1
  refine⟨_,rfl,_,rfl,_,_,rfl,rfl,by show 2<=sizeLine;decide,fun p2 h2=> ?_⟩
  have s2:=aV (o:=.tup [.int c.1,.int (c.2 - 1)]) h2
  refine⟨_,rfl,_,rfl,_,_,rfl,rfl,by show 2<=sizeLine;decide,fun p3 h3=> ?_⟩
  have s3:=aV (o:=.tup [.int c.1,.int (c.2+1)]) h3
  refine⟨_,rfl,_,_,rfl,rfl,_,rfl,by show 2<=sizeLine;decide,fun p4 h4=> ?_⟩
  have s4:=aV (o:=.tup [.int (c.1+1),.int c.2]) h4
  refine⟨by show 4<=sizeLine;decide,fun l hl=> ?_⟩
  have s5:=aV (o:=.lst [.ref p1,.ref p2,.ref p3,.ref p4]) hl
  have s14:=((s1.trans s2).trans s3).trans s4
  exact q l [p1,p2,p3,p4] _ (s14.free hl) (s14.trans s5) aJ (.cons (s5 _ _ (s4 _ _ (s3 _ _ (s2 _ _ aJ)))) (.cons (s5 _ _ (s4 _ _ (s3 _ _ aJ))) (.cons (s5 _ _ (s4 _ _ aJ)) (.cons (s5 _ _ aJ) .nil))))
theorem xW:bootBuiltins "abs" =some (.builtin "abs"):=by decide +kernel
theorem A2g:bV ["_law_one","_law_other"] ["_law_one","_law_other"] (aK qC):=by ac_rfl
theorem A0i {f:Addr}{fd:FuncData}(F:Fun K "_law_next" "_law_next" qC f fd)(T2:dY mg):FnOk P w K mg base CX0 1 f fd ["_law_one","_law_other"] tF:=by
 refine F.ok A2g (fun vs H Q E h=> ?_) (fun cdv A outer s H vs Q E hr h=> ?_)
 ·obtain⟨p,q,c,d,rfl,_⟩:=h;rfl
 ·obtain⟨p,q,c,d,rfl,hp,hq,k⟩:=h
  refine⟨_,aW (bB (iN eZ (bF eU (bI uA rfl T2.abs xW (fN (bF jN (bM cY (pv 0) aH (fun _ _=>rfl)) (bM cY (pv 1) aH (fun _ _=>rfl))) aA)) (bI uA rfl T2.abs xW (fN (bF jN (bM cY (pv 0) aH (fun _ _=>rfl)) (bM cY (pv 1) aH (fun _ _=>rfl))) aA))) aH (nomark _))),?_⟩
  refine⟨_,rfl,p,_,0,_,rfl,rfl,SqT.of hp,bL (j:=0) rfl,_,rfl,q,_,0,_,rfl,rfl,SqT.of hq,bL (j:=0) rfl,_,_,rfl,rfl,_,rfl,?_⟩
  refine⟨_,rfl,p,_,1,_,rfl,rfl,SqT.of hp,bL (j:=1) rfl,_,rfl,q,_,1,_,rfl,rfl,SqT.of hq,bL (j:=1) rfl,_,_,rfl,rfl,_,rfl,_,_,rfl,rfl,rfl,?_⟩
  have e:decide (V.int ((if c.1 - d.1<0 then -(c.1 - d.1)else c.1 - d.1)+(if c.2 - d.2<0 then -(c.2 - d.2)else c.2 - d.2))=V.int 1)=fV c d:=by
   unfold fV
   rw [decide_eq_decide]
   constructor
   ·intro z;have:=V.int.inj z;split at this<;>split at this<;>omega
   ·intro z;congr 1;split<;>split<;>omega
  rw [e]
  exact k
end
end M46
namespace L2
open PySem PySem.Spec PyProof.Rows
def A1i (n:Nat)(g:Bool->Bool):R2:=fun x y H Q=> ∃p q xs ys,x= .ref p/\y= .ref q/\H p=some (.lst xs)/\H q=some (.lst ys)/\((xs.length≠ys.length/\Q (.bl (g false)) H)\/ ∃ks,E3 (EqD H n) xs ys ks/\Q (.bl (g (ks.all id))) H)
section
variable {X:Cx}
theorem A27 (n:Nat)(hu:X.A.units+n+1<cLine):OpR X (compareOp .Eq) (A1i n id):=by
 intro pins s σ H x y v u Q I rx ry h
 obtain⟨p,q,xs,ys,rfl,rfl,h1,h2,h4⟩:=h
 rcases h4 with⟨hne,hq⟩| ⟨ks,h4,hq⟩
 ·cases rx
  cases ry
  ·obtain⟨us,r1,p1,_⟩:=I.list (SqL.of (K:=X.K) h1)
   obtain⟨ws,r2,p2,_⟩:=I.list (SqL.of (K:=X.K) h2)
   have l1:=r1.length
   have l2:=r2.length
   exact SeqAt.RcAt.lists_lengths (A:=X.A) (s:=s) p1.isList p2.isList (by simp;omega) (by omega) X.prog X.w X.xe _ ⟨.bl _,H,I,rfl,hq⟩
 ·exact A1q n hu pins s σ H _ _ v u Q I rx ry ⟨p,q,xs,ys,ks,rfl,rfl,.inr ⟨h1,h2⟩,h4,hq⟩
end
end L2
namespace M46
open PySem L2 PyProof.Rows Grd Wlk Cyc Srt
abbrev nL:Stmt:=top 23
abbrev pZ:Stmt:=top 24
abbrev sQ:Stmt:=top 25
theorem xU {xs:List V}{lo hi:Int}(h:xs.all (cA lo hi)=true):∃is:List Int,xs=is.map V.int/\∀i∈is,lo<=i/\i<=hi:=by
 induction xs with
 |nil=>exact⟨[],rfl,fun i hi=>by cases hi⟩
 |cons x xs ih=>
  rw [all_cons,Bool.and_eq_true]at h
  obtain⟨is,e,his⟩:=ih h.2
  cases x with
  |int i=>
   have h1:(decide (lo<=i)&&decide (i<=hi))=true:=h.1
   rw [Bool.and_eq_true,decide_eq_true_eq,decide_eq_true_eq]at h1
   refine⟨i::is,by rw [e];rfl,fun j hj=> ?_⟩
   rcases mem_cons.mp hj with rfl|hj
   ·exact h1
   ·exact his j hj
  |_=>cases h.1
theorem uR {H:Hp}:∀{rows:List V},rows.all (rowOk H)=true->∃(bs:List Addr)(g:bG),rows=bs.map V.ref/\RowsG H bs g/\∀xs∈g,1<=xs.length/\xs.length<=6/\∀n∈xs,-2<=n/\n<=99
 | [],_=> ⟨[],[],rfl,.nil,fun xs h=>by cases h⟩
 |r::rows,h=>by
  rw [all_cons,Bool.and_eq_true]at h
  obtain⟨bs,g,e,hG,hg⟩:=uR h.2
  have h1:=h.1
  unfold rowOk at h1
  cases z:tupOf H r with
  |none=>rw [z]at h1;cases h1
  |some ys=>
   rw [z]at h1
   simp only [Bool.and_eq_true,decide_eq_true_eq]at h1
   obtain⟨b,rfl,hb⟩:=eR z
   obtain⟨is,e2,hi⟩:=xU h1.2
   rw [e2,length_map]at h1
   refine⟨b::bs,is::g,by rw [e];rfl,.cons (by rw [←e2];exact hb) hG,fun xs hx=> ?_⟩
   rcases mem_cons.mp hx with rfl|hx
   ·exact⟨h1.1.1,h1.1.2,hi⟩
   ·exact hg xs hx
theorem zC {H:Hp}{v:V}(h:dD H v=true):∃a g w,v= .ref a/\GridAt H a g/\dX g w:=by
 unfold dD at h
 cases z:tupOf H v with
 |none=>rw [z]at h;cases h
 |some rows=>
  rw [z]at h
  simp only [Bool.and_eq_true,decide_eq_true_eq]at h
  obtain⟨⟨⟨⟨h1,h4⟩,hr⟩,hl⟩,hc1,hc10⟩:=h
  obtain⟨a,rfl,ha⟩:=eR z
  obtain⟨bs,g,e,hG,hg⟩:=uR hr
  subst e
  have hbl:bs.length=g.length:=Paired.length hG
  rw [length_map,hbl]at h1 h4
  have c:=pE hG
  rw [c]at hc1 hc10
  have lens:∀xs∈g,xs.length=bD H ((bs.map V.ref).headD .non):=fun xs hx=>by
   obtain⟨i,hi,ei⟩:=getElem_of_mem hx
   have hib:i<bs.length:=by omega
   obtain⟨ys,y1,y2⟩:=hG.row (getElem?_eq_getElem hib)
   rw [getElem?_eq_getElem hi,ei]at y1
   cases y1
   have:=of_decide_eq_true (all_eq_true.mp hl (.ref bs[i]) (mem_map_of_mem (getElem_mem hib)))
   rw [←this]
   unfold bD
   rw [fQ y2]
   show xs.length=(xs.map V.int).length
   rw [length_map]
  obtain⟨x0,g0,eg⟩:=exists_cons_of_ne_nil (show g≠[]from fun z=>by rw [z]at h1;simp at h1)
  have hx0:x0∈g:=by rw [eg];exact zjR
  have hw:=hg x0 hx0
  have hw0:=lens x0 hx0
  exact⟨a,g,_,rfl,⟨bs,ha,hG⟩,h1,h4,by rw [←hw0];exact hw.1,by rw [←hw0];exact hw.2.1,lens,fun xs hx=>(hg xs hx).2.2,hc1,hc10⟩
def cellsN (H:Hp)(m:V):Nat:=(((tupOf H m).getD []).map (bP H)).sum
def numsV (H:Hp)(m n:V):Bool:=match tupOf H n with
 |some ys=>decide (ys.length=cellsN H m)&&ys.all (cA 0 3)
 |none=>false
def dealtV (H:Hp)(v:V):Bool:=match tupOf H v with
 |some [m,n]=>dD H m&&numsV H m n
 |_=>false
structure DlA (H:Hp)(p:Addr)(g:bG)(w:Nat)(ns:List Int):Prop where
 G:dX g w
 ex:∃a n,H p=some (.tup [.ref a,.ref n])/\GridAt H a g/\H n=some (.tup (ns.map V.int))
 len:ns.length=(bC pos g).length
 num:∀x∈ns,0<=x/\x<=3
theorem DlA.same {H H':Hp}{p:Addr}{g:bG}{w:Nat}{ns:List Int}(h:DlA H p g w ns)(s:Same H H'):DlA H' p g w ns:=⟨h.G,let ⟨a,n,h1,h2,h3⟩:=h.ex;⟨a,n,s _ _ h1,h2.same s,s _ _ h3⟩,h.len,h.num⟩
theorem qU {H:Hp}{a:Addr}{g:bG}(h:GridAt H a g):cellsN H (.ref a)=(bC pos g).length:=by
 obtain⟨bs,ha,hG⟩:=h
 unfold cellsN
 rw [fQ ha,gH]
 exact pE hG
theorem A8b {H:Hp}{m n:V}(h:numsV H m n=true):∃q ns,n= .ref q/\H q=some (.tup ((ns:List Int).map V.int))/\ns.length=cellsN H m/\∀x∈ns,0<=x/\x<=3:=by
 unfold numsV at h
 cases z:tupOf H n with
 |none=>rw [z]at h;cases h
 |some ys=>
  rw [z]at h
  rw [Bool.and_eq_true,decide_eq_true_eq]at h
  obtain⟨q,rfl,hq⟩:=eR z
  obtain⟨ns,e,hn⟩:=xU h.2
  subst e
  exact⟨q,ns,rfl,hq,by rw [←h.1,length_map],hn⟩
theorem nF {H:Hp}{v:V}(h:dealtV H v=true):∃p g w ns,v= .ref p/\DlA H p g w ns:=by
 unfold dealtV at h
 split at h
 ·rename_i m n z
  rw [Bool.and_eq_true]at h
  obtain⟨p,rfl,hp⟩:=eR z
  obtain⟨a,g,w,rfl,hA,G⟩:=zC h.1
  obtain⟨q,ns,rfl,hq,hl,hn⟩:=A8b h.2
  exact⟨p,g,w,ns,rfl,G,⟨a,q,hp,hA,hq⟩,by rw [hl];exact qU hA,hn⟩
 ·cases h
theorem gJ {H:Hp}{p:Addr}{g:bG}{w:Nat}{ns:List Int}(D:DlA H p g w ns):dealtV H (.ref p)=true:=by
 obtain⟨a,n,hp,hA,hn⟩:=D.ex
 unfold dealtV
 rw [fQ hp]
 show(dD H (.ref a)&&numsV H (.ref a) (.ref n))=true
 rw [hA.good D.G]
 unfold numsV
 rw [fQ hn]
 show(true&&(decide ((ns.map V.int).length=cellsN H (.ref a))&&(ns.map V.int).all (cA 0 3)))=true
 rw [qU hA,length_map,zjV D.len,Bool.true_and,Bool.true_and,all_map]
 refine all_eq_true.mpr fun x hx=> ?_
 have:=D.num x hx
 show cA 0 3 (.int x)=true
 simp [cA,this]
theorem Same.cellsN {H H':Hp}(s:Same H H'){v:V}(k:Kn H 2 v):M46.cellsN H' v=M46.cellsN H v:=by
 unfold M46.cellsN
 rw [s.tupOf (k.le (by omega))]
 cases e:L2.tupOf H v with
 |none=>rfl
 |some rows=>
  obtain⟨a,rfl,ha⟩:=eR e
  obtain⟨_,hx⟩:=k.items ha
  show(rows.map (bP H')).sum=(rows.map (bP H)).sum
  have:rows.map (bP H')=rows.map (bP H):=map_congr_left fun x hm=>by unfold bP;rw [s.tupOf (hx x hm)]
  rw [this]
theorem Same.numsV {H H':Hp}(s:Same H H'){m n:V}(k:Kn H 2 m)(k2:Kn H 1 n):M46.numsV H' m n=M46.numsV H m n:=by
 unfold M46.numsV
 rw [s.tupOf k2,Same.cellsN s k]
theorem Same.dealtV {H H':Hp}(s:Same H H'){v:V}(k:Kn H 3 v):M46.dealtV H' v=M46.dealtV H v:=by
 unfold M46.dealtV
 rw [s.tupOf (k.le (by omega))]
 cases e:L2.tupOf H v with
 |none=>rfl
 |some ys=>
  obtain⟨a,rfl,ha⟩:=eR e
  obtain⟨_,hx⟩:=k.items ha
  match ys,hx with
  | [m,n],hx=>
   show(dD H' m&&M46.numsV H' m n)=(dD H m&&M46.numsV H m n)
   rw [s.good (hx m (by simp)),Same.numsV s (hx m (by simp)) ((hx n (by simp)).le (by decide))]
  | [],_=>rfl
  | [_],_=>rfl
  |_::_::_::_,_=>rfl
def iL:Sp:=fun vs H Q _=> ∃v,vs=[v]/\Kn H 4 v/\∀H',Same H H'->Q (.bl (dealtV H v)) H'
def nH (C:Addr):Sp:=fun vs H Q E=> ∃v,vs=[v]/\Kn H 4 v/\(dealtV H v=true->∀H',Same H H'->Q .non H')/\(dealtV H v=false->∀H',Same H H'->E (.ref C) none H')
section
variable {P:Program}{w:World}{K:W.Frag}{mg:Str->Option Value}{base:Heap}
abbrev nDl:List Str:=["thing","mead","numbers","many"]
theorem scIsDealt:bV nDl ["thing"] (aK nL):=by ac_rfl
theorem A9v:(["number"]:List Str).Nodup:=by decide +kernel
theorem A3f {f g1 g2 g3 g4:Addr}{fd d1 d2 d3 d4:FuncData}(F:Fun K "is_dealt" "is_dealt" nL f fd)(T:Txt mg)(T2:dY mg)(a1:At P w K mg base CX0 1 "is_tuple_within" g1 d1 ["thing","least","most"] mW)(a2:At P w K mg base CX0 4 "is_mead" g2 d2 ["thing"] nO)(a3:At P w K mg base CX0 6 "cells_of" g3 d3 ["mead"] (gE pos))(a4:At P w K mg base CX0 2 "is_number_within" g4 d4 ["thing","least","most"] pM):FnOk P w K mg base CX0 7 f fd ["thing"] iL:=by
 obtain⟨t1,mH⟩:=T2.holders
 refine F.ok scIsDealt (fun vs H Q E h=> ?_) (fun cdv A outer s H vs Q E hr h=> ?_)
 ·obtain⟨v,rfl,_⟩:=h;rfl
 ·obtain⟨v,rfl,kn,q⟩:=h
  have nd:=scIsDealt.nd
  refine⟨_,aU (bQ (cQ (cS (aX a1.ok (hr.mono (by decide)) rfl a1.nm a1.kp a1.bd .nil bA (aE (pv 0) (bU aH (bU aH aA)))))) (aW (bB cT)) bO)<|
   aU (iQ (pv 0) (eQ rfl (cB (bE (i:=1) nd rfl (Or.inl rfl)) (cB (bE (i:=2) nd rfl (Or.inl rfl)) eP))))<|
   aU (bQ (cQ (cS (aX a2.ok (hr.mono (by decide)) rfl a2.nm a2.kp a2.bd .nil bA (aE (pv 1) aA)))) (aW (bB cT)) bO)<|
   aU (cJ (i:=3) nd rfl (Or.inl rfl) (bI eN rfl T.len PySem.boot_len (cC (aX a3.ok hr rfl a3.nm a3.kp a3.bd .nil bA (aE (pv 1) aA)) aA)))<|
   aU (bQ (cQ (cS (aX a1.ok (hr.mono (by decide)) rfl a1.nm a1.kp a1.bd .nil bA (aE (pv 2) (aE (pv 3) (aE (pv 3) aA)))))) (aW (bB cT)) bO)<|
   aW (bB (bI (nE rfl) rfl T.all boot_all (mJ (gY (aK nL).names nDl ["number"] [] rfl (jP (pv 2)) rfl rfl rfl (by decide +kernel)
    (fun Z=>bE (i:=0) A9v rfl (Or.inl rfl)) (fun Z=>fR) (fun Z=>aX a4.ok (hr.mono (by decide)) rfl a4.nm a4.kp a4.bd .nil bA (aE (pv 0) (bU aH (fN (bF jN (iM (v:=.int 4) rfl mH ⟨_,rfl⟩) aH) aA))))) aA))),?_⟩
  have fail:dealtV H v=false->∀H',Same H H'->Q (.bl false) H':=fun e H' hs=>by have:=q H' hs;rw [e]at this;exact this
  refine⟨_,rfl,_,2,2,rfl,kn.le (by decide),_,rfl,cH (fun e=> ?_) fun e=> ?_⟩
  ·refine fail ?_ H (Same.refl H)
   unfold dealtV
   split
   ·rename_i m n z
    unfold eJ at e
    rw [z]at e
    simp at e
   ·rfl
  have e':eJ H 2 2 v=true:=by simpa using e
  unfold eJ at e'
  cases z:tupOf H v with
  |none=>rw [z]at e';cases e'
  |some ys=>
  rw [z]at e'
  simp only [Bool.and_eq_true,decide_eq_true_eq]at e'
  obtain⟨p,rfl,hp⟩:=eR z
  obtain⟨_,hx⟩:=kn.items hp
  obtain⟨m,n,rfl⟩:∃m n,ys=[m,n]:=by
   match ys,e' with
   | [m,n],_=>exact⟨m,n,rfl⟩
   | [],e'=>simp at e'
   | [_],e'=>simp at e'
   |_::_::_::_,e'=>simp at e';omega
  have km:Kn H 3 m:=hx m (by simp)
  have kN:Kn H 3 n:=hx n (by simp)
  have hV:dealtV H (.ref p)=(dD H m&&numsV H m n):=by unfold dealtV;rw [z]
  refine⟨_,rfl,p,_,rfl,SqT.of hp,rfl,_,_,rfl,_,_,rfl,rfl,?_⟩
  refine⟨_,rfl,_,rfl,km,fun H1 s1=> ⟨_,rfl,cH (fun e2=> ?_) fun e2=> ?_⟩⟩
  ·refine fail ?_ H1 s1
   have e2':dD H m=false:=by simpa using e2
   rw [hV,e2'];rfl
  have e2':dD H m=true:=by simpa using e2
  obtain⟨a,g,w',rfl,hA,G⟩:=zC e2'
  rw [e2',Bool.true_and]at hV
  refine⟨_,rfl,a,g,w',rfl,hA.same s1,G,fun H2 l ps hl s2 hl2 hP=> ?_⟩
  have hlen:ps.length=(bC pos g).length:=Paired.length hP
  refine⟨l,_,rfl,.inl (SqL.of hl2),?_⟩
  have s12:=s1.trans s2
  have ecn:cellsN H (.ref a)=ps.length:=by rw [qU hA,hlen]
  refine⟨_,rfl,_,rfl,_,rfl,_,_,_,rfl,(kN.ext s12.ext).le (by decide),_,rfl,?_⟩
  have et:eJ H2 (((ps.map V.ref).length:Nat):Int) (((ps.map V.ref).length:Nat):Int) n=match tupOf H n with|some ys=>decide (ys.length=cellsN H (.ref a))|none=>false:=by
   unfold eJ
   rw [s12.tupOf (kN.le (by decide)),length_map,ecn]
   cases tupOf H n with
   |none=>rfl
   |some ys=>
    show(decide ((ps.length:Int)<=ys.length)&&decide ((ys.length:Int)<=ps.length))=decide (ys.length=ps.length)
    rw [Bool.eq_iff_iff,Bool.and_eq_true,decide_eq_true_eq,decide_eq_true_eq,decide_eq_true_eq]
    omega
  rw [et]
  cases zn:tupOf H n with
  |none=>
   refine cN (fail ?_ H2 s12)
   rw [hV];unfold numsV;rw [zn]
  |some xs=>
  obtain⟨nn,rfl,hn⟩:=eR zn
  obtain⟨hz,hkx⟩:=kN.items hn
  have hV2:dealtV H (.ref p)=(decide (xs.length=cellsN H (.ref a))&&xs.all (cA 0 3)):=by rw [hV];unfold numsV;rw [zn]
  refine cH (fun e3=> ?_) fun e3=> ?_
  ·refine fail ?_ H2 s12
   have e3':decide (xs.length=cellsN H (.ref a))=false:=by simpa using e3
   rw [hV2,e3'];rfl
  have e3':decide (xs.length=cellsN H (.ref a))=true:=by simpa using e3
  rw [e3',Bool.true_and]at hV2
  have hn2:=s12 _ _ hn
  refine⟨_,rfl,nn,rfl,⟨_,SqT.of hn2⟩,fun Z l3 hl3=> ?_⟩
  refine pJ (fun x=> .bl (cA 0 3 x)) hn2 hl3 hz (fun x H' Q' hm hs hq=> ?_) fun σ H' hs hl'=> ?_
  ·exact⟨_,rfl,_,_,rfl,rfl,_,0,3,rfl,(((hkx x hm).ext s12.ext).ext hs.ext).le (by decide),hq _ (Same.refl _)⟩
  ·refine⟨l3,xs.map (cA 0 3),rfl,SqL.of (by rw [hl',map_map];rfl),?_⟩
   have ea:(xs.map (cA 0 3)).all id=xs.all (cA 0 3):=by rw [all_map];rfl
   rw [ea,←hV2]
   exact q H' (s12.trans hs)
theorem A1c:bV ["dealt"] ["dealt"] (aK pZ):=by ac_rfl
theorem A9i {f g1 C:Addr}{fd d1:FuncData}(F:Fun K "check_dealt" "check_dealt" pZ f fd)(a1:At P w K mg base CX0 7 "is_dealt" g1 d1 ["thing"] iL)(mC:mg "NoDealt" =some (.ref C))(c:ExcC K C):FnOk P w K mg base (CX1 P w) 8 f fd ["dealt"] (nH C):=by
 refine F.okX A1c (fun vs H Q E h=> ?_) (fun cdv A outer s H vs Q E hr h=> ?_)
 ·obtain⟨v,rfl,_⟩:=h;rfl
 ·obtain⟨v,rfl,kn,q1,q2⟩:=h
  refine⟨_,aW (bQ (cQ (cS (aX a1.ok hr rfl a1.nm a1.kp a1.bd .nil bA (aE (pv 0) aA)))) (aW (wK rfl rfl rfl rfl rfl rfl mC c)) bO),?_⟩
  refine⟨_,rfl,v,rfl,kn,fun H' hs=> ⟨_,rfl,cH (fun e=> ?_) fun e=> ?_⟩⟩
  ·exact q2 (by simpa using e) H' hs
  ·exact q1 (by simpa using e) H' hs
end
end M46
namespace HT
open PySem PyProof.Rows
section
open PySem.SeqAt
open PySem.AutoSeq1 (wpAny_loadPart')
open PySem.MeetsSeq PySem.MeetsSeq2 PySem.MeetsSeq3
theorem A8y (A:Around)(s:Shared)(a:Int)(t:Tok)(c:Int)(u:Tok)(prog:Program)(w:World)(E:Value->Shared->Prop)(Q:Value->Shared->Prop)(h:Q (.bool (decide (c<a))) s):
  wpAny (model prog w) A (richCompare .Gt (.int a t) (.int c u)) Q E s:=
 (PyProof.Rows.gt_int h:wpAny (model prog w) A (compareOp .Gt (.int a t) (.int c u)) Q E s)
theorem gt_ints (l b:Addr)(xs ys:Array Value)(n n2:Nat)(dd dd2:Option Addr)(sl sl2:Array (Option Value))(ns ms:List Int)(hi:IntsAre xs.toList ns)(hj:IntsAre ys.toList ms):
  Meets (Builtin.«tuple.__gt__» ⟨[.ref l,.ref b],[]⟩)
   (fun _ R s=>s.heap.get? l=some {cls:=.type "tuple",dict:=dd,data:=.seq xs n,slots:=sl}/\s.heap.get? b=some {cls:=.type "tuple",dict:=dd2,data:=.seq ys n2,slots:=sl2}/\
    R (.ok (.ret (.bool (lexLt ms ns)))) s):=
 .of_wp fun prog w A R s h=>by
  obtain⟨hp,g,d,tk,os⟩:=s;obtain⟨hl,hb,h⟩:=h
  have f2:=AutoSeq1.sub_tuple_tuple
  have z1:xs.size=ns.length:=by rw [←hi.length];simp
  have z2:ys.size=ms.length:=by rw [←hj.length];simp
  wp_walk using wpAny_loadPart' hl,wpAny_loadPart' hb,wpAny_forIn_list _ (fun rest b s'=>b.1=none/\s'=⟨hp,g,d,tk,os⟩/\∃(vs ws:List Value)(ns' ms':List Int),rest=vs.zip ws/\
   IntsAre vs ns'/\IntsAre ws ms'/\ns'.length+ys.size=ms'.length+xs.size/\R (.ok (.ret (.bool (lexLt ms' ns')))) ⟨hp,g,d,tk,os⟩) _
  case turn=>
   rintro⟨y,x⟩ rest b s' ⟨hb',rfl,vs,ws,ns',ms',hz,hvi,hwi,hlen,hR⟩
   cases hvi with
   |nil=>rw [List.zip_nil_left]at hz;cases hz
   |cons a t hvi'=>
    cases hwi with
    |nil=>rw [List.zip_nil_right]at hz;cases hz
    |cons c u hwi'=>
     rw [zip_cons_cons]at hz
     injection hz with hyx hrest
     injection hyx with hy hx
     subst hy hx
     rw [lexLt_cons]at hR
     simp only [length_cons]at hlen
     obtain⟨e,he,hiff⟩:=zR A.in1 ⟨hp,g,d,tk,os⟩ a t c u
     refine zjZ (he prog w _ _ ?_)
     cases e with
     |true=>
      rw [if_pos (hiff.mp rfl).symm]at hR
      wp_walk
      exact⟨rfl,rfl,_,_,_,_,hrest,hvi',hwi',by omega,hR⟩
     |false=>
      rw [if_neg (fun q=>absurd (hiff.mpr q.symm) Bool.false_ne_true)]at hR
      have hri:=A8y A.in1 ⟨hp,g,d,tk,os⟩ a t c u prog w
      wp_walk using hri
      exact⟨_,rfl,by simpa using hR⟩
  case fin=>
   rintro⟨b1,b2⟩ s' ⟨hb',rfl,vs,ws,ns',ms',hz,hvi,hwi,hlen,hR⟩
   simp only at hb'
   subst hb'
   have hv:lexLt ms' ns'=decide (ys.size<xs.size):=by
    cases hvi with
    |nil=>
     cases hwi with
     |nil=>simp only [length_nil]at hlen;exact(zjU (by omega)).symm
     |cons c u hw=>simp only [length_nil,length_cons]at hlen;exact(zjU (by omega)).symm
    |cons a t hv=>
     cases hwi with
     |nil=>simp only [length_nil,length_cons]at hlen;exact(zjV (by omega)).symm
     |cons c u hw=>rw [zip_cons_cons]at hz;cases hz
   rw [hv]at hR
   wp_walk
   exact⟨_,rfl,by simpa [Builtin.Tuple.tupleCompareSizes]using hR⟩
  case h=>
   exact⟨rfl,rfl,xs.toList,ys.toList,ns,ms,rfl,hi,hj,by omega,h⟩
end
end HT
namespace L2
open PySem PySem.Spec PyProof.Rows
def A57 (K:W.Frag):R2:=fun x y H Q=> ∃a b ns ms,x= .ref a/\y= .ref b/\SqT K H a (ns.map V.int)/\SqT K H b (ms.map V.int)/\Q (.bl (HT.lexLt ms ns)) H
theorem A1f {X:Cx}(hu:X.A.units<cLine):OpR X (compareOp .Gt) (A57 X.K):=by
 intro pins s σ H x y v u Q I rx ry h
 obtain⟨a,b,ns,ms,rfl,rfl,ha,hb,q⟩:=h
 cases rx
 cases ry
 obtain⟨its,r1,p1,_⟩:=I.tuple ha
 obtain⟨its2,r2,p2,_⟩:=I.tuple hb
 have i1:IntsAre its.toArray.toList ns:=oX r1
 have i2:IntsAre its2.toArray.toList ms:=oX r2
 obtain⟨⟨cls,dd,data,sl⟩,ho,hc,n,hd⟩:=id p1
 obtain⟨⟨cls2,dd2,data2,sl2⟩,ho2,hc2,n2,hd2⟩:=id p2
 simp only at hc hd hc2 hd2
 subst hc hd hc2 hd2
 exact richCompare_meets_room (op:=.Gt) ⟨_,ho,rfl⟩ ⟨_,ho2,rfl⟩ PySem.F.slot_tuple_gt PySem.F.entry_tuple_gt (PySem.F.args_tuple_gt_2 _ _) (HT.gt_ints a b _ _ n n2 dd dd2 sl sl2 ns ms i1 i2)
  ⟨ho,ho2,(fun x=>nomatch x),⟨.bl (HT.lexLt ms ns),H,I,rfl,q⟩⟩ hu
section
variable {X:Cx}{pins:List (Addr×Obj)}{σ:St}{H2:Hp}{s2:Shared}{scope:Scope}{loc:List Str}{frees:List (Str×Nat)}{ns:List (Str×NameKind)}{N:List Str}{fp:List Addr}{cl:List (Str×Addr)}
theorem A4i (I2:Inv X pins σ H2 s2)(hns:X.env.scope.names=ns)(hN:X.N=N)(hk:scope.kind= .function)(ok:iC ns N scope frees)(f2:∀b∈fp,eS X pins H2 b)(hlive:∀b∈fp,∃o,s2.heap.get? b=some o)
  (hc1:∀x c,cl.lookup x=some c->X.env.cells.lookup x=some c)(hc2:∀x,(x,NameKind.free)∈scope.names->∃c,cl.lookup x=some c)
  {C:Addr}{h4:Heap}{tk:Nat}(hC:C=s2.heap.objs.size+1)(hnsC:∃m,h4.Ns C m)(hacc:h4.get? s2.heap.objs.size=some {cls:=.type "dict",data:=.dict #[]})
  (hkeep:∀b o,s2.heap.get? b=some o->h4.get? b=some o):
  Inv (cG X (loc++frees.map (·.1)) scope ⟨cl,C,s2,H2,fp,X.pn++pins⟩) [] (σC loc.length frees σ) (upd H2 s2.heap.objs.size (.dT [])) {s2 with heap:=h4,toks:=tk}:=by
 have below:∀{b:Addr}{o:Obj},s2.heap.get? b=some o->b≠C:=fun{b o} e z=>by
  have:=zjT e
  rw [z,hC]at this
  exact lt_irrefl _ (lt_of_succ_lt this)
 have hl:H2 s2.heap.objs.size=none:=I2.hok.fresh (zjQ _)
 have hCn:H2 C=none:=I2.hok.fresh (by rw [hC];exact le_succ _)
 have cne:∀x c,X.env.cells.lookup x=some c->∃o v,s2.heap.get? c=some o/\o.data= .cell v:=fun x c e=>by
  obtain⟨v,o,ho,hd⟩:=I2.cell x c e
  exact⟨o,v,ho,hd⟩
 obtain⟨mC,hmC⟩:=hnsC
 have hCl:C≠s2.heap.objs.size:=by rw [hC];exact succ_ne_self _
 refine⟨⟨I2.ok.mod,hk,I2.ok.glob,I2.ok.blt,?_,fun x y c h1 h2=>I2.ok.inj x y c (hc1 x c h1) (hc1 y c h2),fun x hx=> ?_,fun x c h=>(Bool.false_ne_true h).elim,I2.ok.hd,I2.ok.frames,.inl rfl,fun b hb=> ⟨?_,fun x c e z=> ?_⟩,I2.bs,le_trans I2.ok.bsz I2.sz,fun b o e hb=> ?_,fun b hb hfs=> ?_,I2.stack,I2.stkFree⟩,
  rfl,I2.bare,?_,⟨mC,hmC,fun i x v h1 h2 h3=> ?_⟩,fun x c e=> ?_,?_,fun x c e=> ?_,fun p hp=> ?_,?_,?_⟩
 ·show s2.heap.objs.size<=C
  rw [hC];exact le_succ _
 ·
  have hx':(relabel scope X.env).names.lookup x=some .cell\/(relabel scope X.env).names.lookup x=some .free:=hx
  rcases relabel_back hx' with z|z
  ·exact hc2 x z
  ·exact absurd rfl (ok.1 _ z).1
 ·obtain⟨o,ho⟩:=hlive b hb
  exact below ho
 ·exact(f2 b hb).2.2.2.2.1 x c (hc1 x c e) z
 ·rcases(f2 b hb).2.2.2.1 with z|z
  ·exact I2.ok.noex b o e z
  ·exact absurd (lt_of_lt_of_le (zjT (I2.ok.bs b o e).1) z) (lt_irrefl _)
 ·rcases mem_cons.mp (I2.stkSub b hfs)with z|z
  ·exact(f2 b hb).2.1 z
  ·exact(f2 b hb).2.2.1 z
 ·exact Un.laid hkeep (zjQ _) hl
 ·
  have hi:¬i<loc.length:=fun hlt=>by
   unfold σC at h2
   rw [getElem?_append_left (by simpa using hlt),getElem?_replicate]at h2
   simp [hlt]at h2
  have h2':(frees[i - loc.length]?).map (fun p=>(σ[p.2]?).join)=some (some v):=by
   unfold σC at h2
   rw [getElem?_append_right (by simpa using hi),length_replicate,getElem?_map]at h2
   exact h2
  have h1':(frees[i - loc.length]?).map (·.1)=some x:=by
   have h1:(loc++frees.map (·.1))[i]?=some x:=h1
   rw [getElem?_append_right (by omega),getElem?_map]at h1
   exact h1
  cases ep:frees[i - loc.length]? with
  |none=>rw [ep]at h1';simp at h1'
  |some p=>
   rw [ep]at h1' h2'
   simp only [Option.map_some,Option.some.injEq]at h1' h2'
   obtain⟨q1,q2,q3⟩:=ok.2 p (mem_of_getElem? ep)
   have hσ:σ[p.2]?=some (some v):=by
    cases e:σ[p.2]? with
    |none=>rw [e]at h2';simp at h2'
    |some o=>rw [e]at h2';simp at h2';rw [h2']
   have vis:Vis X.env.scope p.1:=by
    show _\/_
    rw [hns];rcases q3 with z|z
    ·exact .inr (.inl z)
    ·exact .inr (.inr z)
   obtain⟨m,hn,hlk⟩:=I2.loc
   obtain⟨u,ru,lk⟩:=hlk p.2 p.1 v (by rw [hN];exact q1) hσ vis
   refine⟨u,ru,.inr ?_⟩
   rw [←h1']
   rcases lk with⟨z,_⟩| ⟨_,c,ec,hcell⟩
   ·have z':X.env.scope.names.lookup p.1=some .local:=z
    rw [hns]at z'
    rcases q3 with y|y<;>rw [z']at y<;>cases y
   ·obtain⟨c',hc'⟩:=hc2 p.1 (PySem.mem_of_lookup q2)
    have:c'=c:=by have:=hc1 _ _ hc';rw [ec]at this;exact(Option.some.inj this).symm
    subst this
    refine⟨sN q2,c',hc',?_⟩
    obtain⟨o,ho,hd⟩:=hcell
    exact⟨o,hkeep _ _ ho,hd⟩
 ·obtain⟨o,v,ho,hd⟩:=cne x c (hc1 x c e)
  exact⟨v,o,hkeep _ _ ho,hd⟩
 ·show upd H2 _ _ C=none
  rw [aQ hCl];exact hCn
 ·obtain⟨o,v,ho,hd⟩:=cne x c (hc1 x c e)
  have:c≠s2.heap.objs.size:=ne_of_lt (zjT ho)
  rw [aQ this]
  exact I2.freeC x c (hc1 x c e)
 ·have hp':p∈X.pn++pins:=by
   rcases mem_append.mp hp with z|z
   ·exact z
   ·exact absurd z (by simp)
  obtain⟨e,n,ne,nf,d⟩:=I2.pin p hp'
  refine⟨hkeep _ _ e,?_,below e,fun z=> ?_,d⟩
  ·rw [aQ (ne_of_lt (zjT e))];exact n
  ·rcases mem_cons.mp (I2.stkSub p.1 z)with y|y
   ·exact ne y
   ·exact nf y
 ·exact I2.hok.laid hkeep (zjQ _) ⟨zero_le _,beq_eq_false_iff_ne.mpr (Ne.symm (ne_of_lt I2.big)),[],.nil,_,#[],0,hacc,⟨rfl,rfl,rfl⟩,rfl,rfl,nodup_nil⟩
 ·show(σC loc.length frees σ).length=(loc++frees.map (·.1)).length
  unfold σC
  simp
end
def rV (l:Addr)(tk tv:TE):TC:=fun σ H Q=>tk σ H fun y H1=>tv σ H1 fun v H2=> ∃b kvs k,y= .ref b/\H2 l=some (.dT kvs)/\H2 b=some (.tup ((k:List Key).map kV))/\kvs.length<sizeLine/\Q σ (upd H2 l (.dT (fI kvs k v)))
def xC (kx vx:Expr)(acc:Value)(env:Env)(k:Unit->Sem Fin):Sem Fin:=(eval kx env>>=fun kv=>holding [kv] (eval vx env)>>=fun vv=>match acc with
    | .ref d=>do
     standAt {kx.pos with endLine:=vx.pos.endLine,endCol:=vx.pos.endCol}
     holding [kv,vv] (dictSet d kv vv)
    |_=>unsupported "internal:dictcomp")>>=k
theorem A4z (kx vx tg iter:Expr)(ifs:List Expr)(scope:Scope)(pos:Pos)(it acc:Value)(env:Env):
  compTurn (.DictComp kx vx [⟨tg,iter,ifs,0⟩] scope pos) 0 it acc env=jB (.DictComp kx vx [⟨tg,iter,ifs,0⟩] scope pos) 0 it acc env tg iter ifs (xC kx vx acc env):=by rfl
theorem A4m {Y:Cx}{kx vx:Expr}{tk tv:TE}{l:Addr}(hx:Y.xe=fun _ _=>False)(hu:Y.A.units<cLine)(he:PE Y kx tk)(hv:PE Y vx tv):PB Y (xC kx vx (.ref l) Y.env) (rV l tk tv):=by
 intro pins s σ H Q Q' k I h hk
 refine zjZ (zjZ (thn (fZ (he pins s σ H _ I h) hx) fun kv s1 ⟨x,H1,I1,r1,q1⟩=> ?_))
 refine zjZ (wpAny_holding (thn (fZ (hv pins s1 σ H1 _ I1 q1) hx) fun vv s2 ⟨y,H2,I2,r2,q2⟩=> ?_))
 obtain⟨b,kvs,ks,rfl,e,eb,hl,q⟩:=q2
 cases (show kv=Value.ref b from r1)
 obtain⟨z,hd,xs,rel,dd⟩:=A2t I2.hok e
 have hz:xs.length<=sizeLine:=by rw [←Paired.length rel];exact z
 have hl':(fI kvs ks y).length<=sizeLine:=by have:=zE kvs ks y;omega
 refine zjZ (wpAny_standAt (wpAny_holding ?_))
 refine wpAny_dictSet_heap (hsz:=hz) (knd:=tupleKind (eB Y.prog Y.w)) hu (oR I2.hok eb) dd fun h' dd' hs=>hk _ _ _ ?_ q
 obtain⟨q',es,ep,hq,h2,h3,h4,_,h5⟩:=dd'
 refine xF I2 (by rw [e];exact True.intro) hs ⟨q',hq⟩ ⟨hl',hd,_,(rel.put ks eb r2).keeps fun c ys ec=> ?_,q',es,ep,hq,h2,h3,h4,h5⟩
 rw [aQ (pU ec e (fun z=>nomatch z))]
 exact ec
section
variable {Y:Cx}
theorem A71 {kx vx tg iter:Expr}{gens:List Comprehension}{scope:Scope}{pos:Pos}{d:Nat}{ifs:List Expr}{it l:Addr}{tail:(Unit->Sem Fin)->Sem Fin}{fp:List Addr}{tn:Nat->Heap->Prop}{J:It}{g:TG}{tt:TT}{tb:TC}{pins:List (Addr×Obj)}{σ:St}{H:Hp}{s:Shared}{Q:St->Hp->Prop}
  (hx:Y.xe=fun _ _=>False)(hc:Y.calm=true)(heq:compTurn (.DictComp kx vx gens scope pos) d (.ref it) (.ref l) Y.env=jB (.DictComp kx vx gens scope pos) d (.ref it) (.ref l) Y.env tg iter ifs tail)(hg:PG Y tg g)(ht:PTs Y ifs tt)(hb:PB Y tail tb)
  (I:Inv Y pins σ H s)(T:gB Y.prog Y.w Y.K tg J fp it tn)(st:tn 0 s.heap)(f2:∀b∈fp,eS Y pins H b)(h:dZ J g (dR tt tb) (eC Q) σ H):
  codeAny (model Y.prog Y.w) Y.A (.compLoop (.DictComp kx vx gens scope pos) d (.ref it) (.ref l) Y.env) (fun r s'=>r= .ok .next/\∃σ' H',Inv Y pins σ' H' s'/\Q σ' H') s:=by
 obtain⟨W,⟨m0,w0⟩,turn⟩:=h
 have stat:∀{H':Hp},(∀b∈fp,H' b=none)->∀b∈fp,eS Y pins H' b:=fun hn b hb=> ⟨hn b hb,(f2 b hb).2⟩
 refine codeAny_loop rfl (fun n s'=> ∃i σ' H',Inv Y pins σ' H' s'/\tn i s'.heap/\(∀b∈fp,H' b=none)/\W i n σ' H') (fun n s3 hI=> ?_) m0 ⟨0,σ,H,I,st,fun b hb=>(f2 b hb).1,w0⟩
 obtain⟨i,σ3,H3,I3,st3,fr3,w3⟩:=hI
 show wpAny _ Y.A ((compTurn (.DictComp kx vx gens scope pos) d (.ref it) (.ref l) Y.env).onRaise (fun x=>do noteFrame x Y.env;theTreesLotGoes x)) _ _ s3
 refine wpAny_noted ?_
 rw [heq]
 unfold jB
 refine zjZ (wpAny_standAt (zjZ ?_))
 rcases turn i n σ3 H3 w3 with⟨stop,qn⟩| ⟨go,N,hN,step⟩
 ·refine thn (T.done Y rfl rfl rfl hc i pins s3 σ3 H3 _ I3 (stat fr3) st3 stop) fun r s4 ⟨hr,I4⟩=> ?_
  subst hr
  exact zjY ⟨rfl,σ3,H3,I4,qn⟩
 ·refine thn (T.item Y rfl rfl rfl hc i pins s3 σ3 H3 _ I3 (stat fr3) st3 go) fun r s4 ⟨u,hr,h4⟩=> ?_
  subst hr
  refine zjZ (thn h4 fun _ s5 ⟨x,H5,I5,r5,y5,st5,fr5⟩=> ?_)
  have I5':=I5.pinned (stat fr5) (T.obj _ _ st5)
  refine zjZ (thn (fZ (hg _ s5 σ3 H5 x u _ I5' r5 (step x H5 y5)) hx) fun _ s6 ⟨σ6,H6,I6,q6⟩=> ?_)
  refine zjZ (thn (fZ (ht _ s6 σ6 H6 _ I6 q6) hx) fun ok s7 ⟨H7,I7,q7⟩=> ?_)
  have again:∀{σ7:St}{H7:Hp}{s7:Shared},Inv Y (pins++kH fp s5.heap) σ7 H7 s7->N σ7 H7->∃m,m<n/\∃i σ' H',Inv Y pins σ' H' s7/\tn i s7.heap/\(∀b∈fp,H' b=none)/\W i m σ' H':=fun{σ7 H7 s7} I7 n7=>by
   obtain⟨m',hm,w7⟩:=hN σ7 H7 n7
   refine⟨m',hm,i+1,σ7,H7,I7.unpinned,T.keep _ _ _ st5 fun b hb o e=>(I7.pin (b,o) (mem_append_right _ (mem_append_right _ (lA hb e)))).1,fun b hb=> ?_,w7⟩
   obtain⟨o,e,d⟩:=T.obj _ _ st5 b hb
   exact(I7.pin (b,o) (mem_append_right _ (mem_append_right _ (lA hb e)))).2.1
  cases ok with
  |false=>
   rw [if_neg Bool.false_ne_true]at q7⊢
   exact zjY ⟨rfl,again I7 q7⟩
  |true=>
   rw [if_pos rfl]at q7⊢
   exact fZ (hb _ s7 σ6 H7 _ _ _ I7 q7 fun σ8 H8 s8 I8 q8=>zjY ⟨rfl,again I8 q8⟩) rfl
end
def A03 (wi:TI)(g:bX->TG)(tt:bX->TT)(tk tv:bX->TE)(n:Nat)(frees:List (Str×Nat)):TE:=fun σ H Q=>wi σ H fun J H1=> ∀(Z:bX)(l:Addr),H1 l=none->dZ J (g Z) (dR (tt Z) (rV l (tk Z) (tv Z))) (eC fun _ H'=>Q (.ref l) H') (σC n frees σ) (upd H1 l (.dT []))
section
variable {X:Cx}{scope:Scope}{loc:List Str}{frees:List (Str×Nat)}{ns:List (Str×NameKind)}{N:List Str}{pos:Pos}
theorem A14 {e:Expr}{gs:List Comprehension}{g0:Comprehension}{wi:TI}{tg iter:Expr}{R:bX->Addr->It->St->Hp->(Hp->Prop)->Prop}{use:Option (Value->Sem Unit)}{Q:Value->Shared->Prop}{newPos:Pos}
  (hcl:clausesOf e=g0::gs)(hg0:g0.iter=iter)(hi:PI X tg iter wi)(hns:X.env.scope.names=ns)(hN:X.N=N)(hk:scope.kind= .function)(ok:iC ns N scope frees)
  (hs:∀x,foldedSetIterable iter X.env x=pure x){pins:List (Addr×Obj)}{s:Shared}{σ:St}{H:Hp}{QH:Addr->Hp->Prop}(I:Inv X pins σ H s)
  (h:wi σ H fun J H1=> ∀(Z:bX)(l:Addr),H1 l=none->R Z l J (σC loc.length frees σ) (upd H1 l (.dT [])) (QH l))
  (block:∀(Z:bX)(l it:Addr)(fp:List Addr)(tn:Nat->Heap->Prop)(J:It)(H4:Hp)(s4:Shared)(σ4:St),Z.fp=fp->Inv (cG X (loc++frees.map (·.1)) scope Z) [] σ4 H4 s4->gB X.prog X.w X.K tg J fp it tn->tn 0 s4.heap->
   (∀b∈fp,eS (cG X (loc++frees.map (·.1)) scope Z) [] H4 b)->R Z l J σ4 H4 (QH l)->
   codeAny (model X.prog X.w) X.A (.compStart e 0 (.ref it) (.ref l) (compEnvC scope Z.cl Z.C X.env)) (fun r s'=>r= .ok .next/\∃σ' H',Inv (cG X (loc++frees.map (·.1)) scope Z) [] σ' H' s'/\QH l H') s4)
  (fin:∀(l C:Addr)(H':Hp)(s':Shared),(∃m,s'.heap.Ns C m)->Inv X pins σ H' s'->H' C=none->X.s₀.heap.objs.size<=C->C≠X.env.locals->(∀x c,X.env.cells.lookup x=some c->c≠C)->(∀h',Heap.SameBut C s'.heap h'->Inv X pins σ H' {s' with heap:=h'})->(∀p∈X.pn++pins,p.1≠C)->QH l H'->
   compPost (model X.prog X.w) X.A X.xe use Q (.ref l) C (.ok .next) s'):
  wpAny (model X.prog X.w) X.A (comprehension e scope X.env newPos newDict false (eval iter X.env) use) Q X.xe s:=by
 obtain⟨cl,hclos,hc1,hc2⟩:=rE (env:=X.env) (scope:=scope) fun x hx hf=>by
  refine I.ok.has x.1 ?_
  have:=(ok.1 x hx).2.2 hf
  rw [←hns]at this
  exact this
 have hs':∀x,foldedSetIterable g0.iter X.env x=pure x:=by rw [hg0];exact hs
 refine wpAny_comprehension_free hcl hs' hclos hk (fun x hx hl=>(ok.1 x hx).2.1 hl) (thn (hi pins s σ H _ I h) fun v s1 h1=>thn h1 fun itv s2 h2=> ?_)
 obtain⟨it,fp,tn,J,H2,e2,I2,T,st2,f2,q2⟩:=h2
 subst e2
 refine wpAny_newObj_type (wpAny_newFunctionEnv (fun x hx=>(ok.1 x hx).1) (by intro y hy;simp at hy) (fun h₁ hns₁ hsb₁=> ?_) hk)
 dsimp only at hns₁ hsb₁⊢
 have hsz:(s2.heap.push {cls:=.type "dict",data:=.dict #[]}).objs.size=s2.heap.objs.size+1:=size_push ..
 generalize hCeq:(s2.heap.push {cls:=.type "dict",data:=.dict #[]}).objs.size=C at hns₁ hsb₁ hsz⊢
 have keep:∀b o,s2.heap.get? b=some o->h₁.get? b=some o:=fun b o e=>hsb₁.extBut b o (by rw [hsz];exact ne_of_lt (lt_succ_of_lt (zjT e))) (zjX _ (zjX _ e))
 have hacc:h₁.get? s2.heap.objs.size=some {cls:=.type "dict",data:=.dict #[]}:=
  hsb₁.extBut _ _ (by rw [hsz];exact ne_of_lt (Nat.lt_succ_self _)) (zjX _ (get?_push_size _ rfl))
 have live:∀b∈fp,∃o,s2.heap.get? b=some o:=fun b hb=>let ⟨o,ho,_⟩:=T.obj _ _ st2 b hb;⟨o,ho⟩
 have J0:=A4i (scope:=scope) (loc:=loc) (frees:=frees) (tk:=s2.toks+([]:List (Str×Value)).length) I2 hns hN hk ok f2 live hc1 hc2 hsz ⟨_,hns₁⟩ hacc keep
 have hln:H2 s2.heap.objs.size=none:=I2.hok.fresh (zjQ _)
 have B:=block ⟨cl,C,s2,H2,fp,X.pn++pins⟩ s2.heap.objs.size it fp tn J _ _ _ rfl J0 T (T.keep _ _ _ st2 fun b _ o e=>keep b o e) (fun b hb=>by
  obtain⟨o,ho⟩:=live b hb
  obtain⟨z0,z1,z2,z3,z4,z5⟩:=f2 b hb
  refine⟨?_,?_,fun z=> ?_,.inl hb,fun x c e=>z4 x c (hc1 x c e),fun p hp=>z5 p ?_⟩
  ·rw [aQ (ne_of_lt (zjT ho))];exact z0
  ·show b≠C
   rw [hsz];exact ne_of_lt (lt_succ_of_lt (zjT ho))
  ·rcases mem_cons.mp (I2.stkSub b z)with y|y
   ·exact z1 y
   ·exact z2 y
  ·rcases mem_append.mp hp with y|y
   ·exact y
   ·exact absurd y (by simp)) (q2 _ _ hln)
 refine codeAny_mono B fun r s' hr=> ?_
 obtain⟨rfl,σ',H',J',q'⟩:=hr
 obtain⟨m',hm',_⟩:=J'.loc
 have hCl:C≠X.env.locals:=fun z=>by
  have:=I2.lt
  rw [←z,hsz]at this;exact lt_irrefl _ (lt_of_succ_lt this)
 have hCc:∀x c,X.env.cells.lookup x=some c->c≠C:=fun x c e z=>by
  obtain⟨v,q⟩:=I2.cell x c e
  have:=q.lt
  rw [z,hsz]at this;exact lt_irrefl _ (lt_of_succ_lt this)
 have hCp:∀p∈X.pn++pins,p.1≠C:=fun p hp z=>by
  have:=zjT (I2.pin p hp).1
  rw [z,hsz]at this;exact lt_irrefl _ (lt_of_succ_lt this)
 exact fin s2.heap.objs.size C H' s' ⟨m',hm'⟩ (by have:=nM I2 f2 hsz J' (Heap.SameBut.refl C s'.heap);exact this) J'.free (by rw [hsz];exact le_trans I2.sz (le_succ _)) hCl hCc (fun h' hs=>nM I2 f2 hsz J' hs) hCp q'
theorem A6m {kx vx tg iter:Expr}{ifs:List Expr}{wi:TI}{g:bX->TG}{tt:bX->TT}{tk tv:bX->TE}(ns:List (Str×NameKind))(N:List Str)(loc:List Str)(frees:List (Str×Nat))(hc:X.calm=true)(hi:PI X tg iter wi)
  (hns:X.env.scope.names=ns)(hN:X.N=N)(hk:scope.kind= .function)(ok:iC ns N scope frees)
  (hg:∀Z,PG (cG X (loc++frees.map (·.1)) scope Z) tg (g Z))(ht:∀Z,PTs (cG X (loc++frees.map (·.1)) scope Z) ifs (tt Z))(hu:X.A.units<cLine)(he:∀Z,PE (cG X (loc++frees.map (·.1)) scope Z) kx (tk Z))(hv:∀Z,PE (cG X (loc++frees.map (·.1)) scope Z) vx (tv Z))
  (hs:∀x,foldedSetIterable iter X.env x=pure x:=by intro _;rfl):PE X (.DictComp kx vx [⟨tg,iter,ifs,0⟩] scope pos) (A03 wi g tt tk tv loc.length frees):=by
 intro pins s σ H Q I h
 rw [arm_eval_DictComp]
 refine A14 (e:=.DictComp kx vx [⟨tg,iter,ifs,0⟩] scope pos) (g0:=⟨tg,iter,ifs,0⟩) (gs:=[]) (tg:=tg) (iter:=iter) (loc:=loc) (R:=fun Z l J σ H QH=>dZ J (g Z) (dR (tt Z) (rV l (tk Z) (tv Z))) (eC fun _ H'=>QH H') σ H) (use:=none) (QH:=fun l H'=>Q (.ref l) H') rfl rfl hi hns hN hk ok hs I h ?_ ?_
 ·intro Z l it fp tn J H4 s4 σ4 hfp I4 T st4 f4 q4
  have L:=A71 (Y:=cG X (loc++frees.map (·.1)) scope Z) rfl hc (A4z kx vx tg iter ifs scope pos (.ref it) (.ref l) _) (hg Z) (ht Z) (A4m rfl hu (he Z) (hv Z)) I4 T st4 f4 q4
  refine codeAny_mono (codeAny_compStart_dict L (T.self _ _ _ _ _ st4 L)) fun r s' hr=> ?_
  exact hr
 ·intro l C H' s' hm J' hn h1 h2 h3 h4 _ q'
  obtain⟨m,hm⟩:=hm
  exact⟨m,hm,fun h' hs'=> ⟨.ref l,H',h4 h' hs',rfl,q'⟩⟩
end
end L2
namespace PySem
open PyProof.Rows
abbrev zM1 (h:Heap)(l1:Addr):Heap:=h.push {cls:=.type "list_iterator",data:=.fields #[.ref l1,.int 0 0]}
abbrev zM2 (h:Heap)(l1 l2:Addr):Heap:=(zM1 h l1).push {cls:=.type "tuple_iterator",data:=.fields #[.ref l2,.int 0 0]}
abbrev zM3 (h:Heap)(l1 l2:Addr):Heap:=(zM2 h l1 l2).push {cls:=.type "tuple",data:=.seq #[.ref h.objs.size,.ref (zM1 h l1).objs.size]}
abbrev zM4 (h:Heap)(l1 l2:Addr):Heap:=(zM3 h l1 l2).push {cls:=.type "tuple",data:=.seq #[.none,.none]}
abbrev zM5 (h:Heap)(l1 l2:Addr):Heap:=(zM4 h l1 l2).push {cls:=.type "zip",data:=.fields #[.none,.bool false,.bool false,.ref (zM2 h l1 l2).objs.size,.ref (zM3 h l1 l2).objs.size]}
theorem A4f (l1 l2:Addr)(xs ys:Array Value):
  Meets (Builtin.«zip.__new__» ⟨[.type "zip",.ref l1,.ref l2],[]⟩) (fun _ R s=>s.heap.IsList l1 xs/\s.heap.IsTuple l2 ys/\R (.ok (.ret (.ref (zM4 s.heap l1 l2).objs.size))) {s with heap:=zM5 s.heap l1 l2}):=
 .of_wp fun prog w A R s h=>by
  obtain⟨hp,g,d,tk,os⟩:=s;obtain⟨p1,p2,h⟩:=h
  have isz:=sub_zip
  have q1:Heap.IsList (Shared.heap ⟨hp,g,d,tk,os⟩) l1 xs:=p1
  have q2:Heap.IsTuple (Shared.heap ⟨hp.push {cls:=.type "list_iterator",data:=.fields #[.ref l1,.int 0 0]},g,d,tk,os⟩) l2 ys:=let ⟨o,ho,r⟩:=p2;⟨o,zjX _ ho,r⟩
  wp_walk using wpAny_pyIter_list q1,wpAny_pyIter_tuple q2
  exact⟨_,rfl,h⟩
section
variable {prog:Program}{w:World}{A:Around}{E:Value->Shared->Prop}{s:Shared}
theorem A3q {l1 l2:Addr}{xs ys:Array Value}{Q:Value->Shared->Prop}(p1:s.heap.IsList l1 xs)(p2:s.heap.IsTuple l2 ys)
  (h:∀h',IsZip h' (s.heap.objs.size+4) (s.heap.objs.size+2) (s.heap.objs.size+3) .none->IsPair h' (s.heap.objs.size+2) (.ref s.heap.objs.size) (.ref (s.heap.objs.size+1))->
   IsPair h' (s.heap.objs.size+3) .none .none->h'.IsListIter s.heap.objs.size l1 0->h'.IsTupleIter (s.heap.objs.size+1) l2 0->h'.objs.size=s.heap.objs.size+5->
   (∀c o,s.heap.get? c=some o->h'.get? c=some o)->Q (.ref (s.heap.objs.size+4)) {s with heap:=h'}):
  wpAny (model prog w) A (call (.type "zip") [.ref l1,.ref l2]) Q E s:=by
 refine callType_new F.called_zip (by decide) (F.typeCall_zip_2 _ _) (F.newCall_zip_2 _ _) (fun obj=>F.args_object_init_3 obj _ _) F.entry_zip_new (A4f l1 l2 xs ys) ⟨p1,p2,?_⟩
 have y1:(zM1 s.heap l1).objs.size=s.heap.objs.size+1:=size_push ..
 have y2:(zM2 s.heap l1 l2).objs.size=s.heap.objs.size+2:=by rw [size_push,y1]
 have y3:(zM3 s.heap l1 l2).objs.size=s.heap.objs.size+3:=by rw [size_push,y2]
 have y4:(zM4 s.heap l1 l2).objs.size=s.heap.objs.size+4:=by rw [size_push,y3]
 have y5:(zM5 s.heap l1 l2).objs.size=s.heap.objs.size+5:=by rw [size_push,y4]
 have r5:(zM5 s.heap l1 l2).get? (zM4 s.heap l1 l2).objs.size=some _:=get?_push_size _ rfl
 have r4:(zM5 s.heap l1 l2).get? (zM3 s.heap l1 l2).objs.size=some _:=zjX _ (get?_push_size _ rfl)
 have r3:(zM5 s.heap l1 l2).get? (zM2 s.heap l1 l2).objs.size=some _:=zjX _ (zjX _ (get?_push_size _ rfl))
 have r2:(zM5 s.heap l1 l2).get? (zM1 s.heap l1).objs.size=some _:=zjX _ (zjX _ (zjX _ (get?_push_size _ rfl)))
 have r1:(zM5 s.heap l1 l2).get? s.heap.objs.size=some _:=zjX _ (zjX _ (zjX _ (zjX _ (get?_push_size _ rfl))))
 show _/\_
 rw [y2,y3,y4]at r5;rw [y1,y2]at r3;rw [y3]at r4;rw [y1]at r2;rw [y4]
 exact⟨⟨_,r5,rfl⟩,h _ r5 r3 r4 ⟨_,r1,rfl,rfl⟩ ⟨_,r2,rfl,rfl⟩ y5 fun c o x=>zjX _ (zjX _ (zjX _ (zjX _ (zjX _ x))))⟩
end
end PySem
namespace L2
open PySem PySem.Spec PyProof.Rows
theorem A41 {P:Program}{w:World}{K:W.Frag}{es:List Expr}{x1}{pos:Pos}{k k2:SeqK}(ok:k.Ok)(ok2:k2.Ok)(z TI TO i1 i2 a b:Addr)(D:jM z TI TO i1 i2 [i1,a] [i2,b])(ha:a≠i1)(hb:b≠i2):
  gB P w K (.Tuple es x1 pos) (Itz (fun H xs=>k.Sq K H a xs) fun H ys=>k2.Sq K H b ys) [z,TI,TO,i1,i2] z (fun i h=>IsZip h z TI TO .none/\IsPair h TI (.ref i1) (.ref i2)/\(∃u v,IsPair h TO u v)/\k.iit h i1 a i/\k2.iit h i2 b i)where
 mem:=by simp
 obj:=fun i h st c hc=>by
  obtain⟨hz,hTI,⟨u,v,hTO⟩,h1,h2⟩:=st
  simp only [mem_cons,not_mem_nil,or_false]at hc
  rcases hc with rfl|rfl|rfl|rfl|rfl
  ·exact⟨_,hz,fun v z=>by cases z⟩
  ·exact⟨_,hTI,fun v z=>by cases z⟩
  ·exact⟨_,hTO,fun v z=>by cases z⟩
  ·exact ok.obj h1
  ·exact ok2.obj h2
 keep:=fun i h h' st kp=>by
  obtain⟨hz,hTI,⟨u,v,hTO⟩,h1,h2⟩:=st
  exact⟨kp z (by simp) _ hz,kp TI (by simp) _ hTI,⟨u,v,kp TO (by simp) _ hTO⟩,ok.at h1 fun o q=>kp i1 (by simp) o q,ok2.at h2 fun o q=>kp i2 (by simp) o q⟩
 item:=by
  intro X hP hw hK hc i pins s σ H E I hf st hg
  subst hP hw hK
  obtain⟨hz,hTI,⟨u,v,hTO⟩,h1,h2⟩:=st
  obtain⟨xs,ys,x,y,q1,q2,e1,e2⟩:=hg
  obtain⟨its,rv,p1⟩:=ok.get I q1
  obtain⟨jts,rw',p2⟩:=ok2.get I q2
  obtain⟨ux,hux,rx⟩:=rv.get e1
  obtain⟨uy,huy,ry⟩:=rw'.get e2
  have l1:i<its.toArray.size:=by rw [size_toArray];exact(zjW.mp hux).1
  have l2:i<jts.toArray.size:=by rw [size_toArray];exact(zjW.mp huy).1
  have hh:X.A.in1.handled=none:=by simp [I.ok.hd hc]
  refine vJ (ok.dr hh i1 a ha its.toArray) (ok2.dr hh i2 b hb jts.toArray) D hz hTI hTO ⟨h1,p1⟩ ⟨h2,p2⟩ l1 l2 fun vx vy h' tk hvx hvy g1 g2 g3 g4 g5 g6=> ?_
  have ex:vx=ux:=by
   have e:its[i]?=some vx:=by simpa using hvx
   rw [hux]at e;exact(Option.some.inj e).symm
  have ey:vy=uy:=by
   have e:jts[i]?=some vy:=by simpa using hvy
   rw [huy]at e;exact(Option.some.inj e).symm
  subst ex ey
  refine⟨_,rfl,wpAny_letOwnedTupleGo_zip (s:={s with heap:=h',toks:=tk}) g1 fun h2' hz2 hs2=> ?_⟩
  have hn:H s.heap.objs.size=none:=I.hok.fresh (zjQ _)
  have lz:∀{c o},s.heap.get? c=some o->s.heap.objs.size≠c:=fun e=>ne_of_gt (zjT e)
  have li1:s.heap.objs.size≠i1:=let ⟨o,e,_⟩:=ok.obj h1;lz e
  have li2:s.heap.objs.size≠i2:=let ⟨o,e,_⟩:=ok2.obj h2;lz e
  have kp:∀c o,c∉[z,TI,TO,i1,i2]->s.heap.get? c=some o->h2'.get? c=some o:=fun c o hc' q=>by
   have c1:c≠z:=fun e=>hc' (by simp [e])
   exact(hs2.2 c c1).trans (g6 c o c1 (fun e=>hc' (by simp [e])) (fun e=>hc' (by simp [e])) (fun e=>hc' (by simp [e])) q)
  have hT2:IsPair h2' s.heap.objs.size vx vy:=(hs2.2 _ (lz hz)).trans g5
  have I2:Inv X pins σ (upd H s.heap.objs.size (.tup [x,y])) {s with heap:=h2',toks:=tk}:=I.turnLaid (fp:=[z,TI,TO,i1,i2]) kp hf (zjQ _) ⟨by show 2<=sizeLine;rw [sizeLine_eq];decide,[vx,vy],.cons rx (.cons ry .nil),⟨_,hT2,rfl,_,rfl⟩⟩
  have hTI2:IsPair h2' TI (.ref i1) (.ref i2):=(hs2.2 _ D.Iz).trans (g6 _ _ D.Iz D.IO D.I1 D.I2 hTI)
  refine⟨.ref s.heap.objs.size,_,I2,rfl,⟨s.heap.objs.size,x,y,rfl,hn,rfl,fun zs hz'=>by rw [ok.inj I hz' q1];exact e1,fun zs hz'=>by rw [ok2.inj I hz' q2];exact e2⟩,⟨hz2,hTI2,⟨_,_,(hs2.2 _ D.Oz).trans g2⟩,ok.at g3.1 fun o q=>(hs2.2 _ D.iz).trans q,ok2.at g4.1 fun o q=>(hs2.2 _ D.jz).trans q⟩,fun c hc'=> ?_⟩
  have hcz:c≠s.heap.objs.size:=by
   simp only [mem_cons,not_mem_nil,or_false]at hc'
   rcases hc' with rfl|rfl|rfl|rfl|rfl
   ·exact(lz hz).symm
   ·exact(lz hTI).symm
   ·exact(lz hTO).symm
   ·exact li1.symm
   ·exact li2.symm
  rw [aQ hcz];exact(hf c hc').1
 done:=by
  intro X hP hw hK hc i pins s σ H E I hf st hg
  subst hP hw hK
  obtain⟨hz,hTI,⟨u,v,hTO⟩,h1,h2⟩:=st
  obtain⟨xs,q1,hx⟩:=hg
  obtain⟨its,rv,p1⟩:=ok.get I q1
  have hl:=rv.length
  have hi:its.toArray.size=i:=by rw [size_toArray,←hl,hx]
  have hh:X.A.in1.handled=none:=by simp [I.ok.hd hc]
  refine xO (ok.dr hh i1 a ha its.toArray) D hz hTI (by rw [hi];exact⟨h1,p1⟩) fun h' hk=> ⟨rfl,?_⟩
  exact I.turnedL (fp:=[z,TI,TO,i1,i2]) (t':=s.toks) (fun c o hc' q=>hk c o (fun e=>hc' (by simp [e])) (fun e=>hc' (by simp [e])) q) hf
 self:=fun _ _ _ _ _ st h=>wpAny_pyIter_zip st.1 h
def A97 (K:W.Frag)(ta:TA):TI:=fun σ H R=>ta σ H fun vs H1=> ∃a b xs ys,vs=[.ref a,.ref b]/\SqL K H1 a xs/\SqT K H1 b ys/\R (Itz (fun H xs=>SqL K H a xs) fun H ys=>SqT K H b ys) H1
section
variable {X:Cx}
theorem A19 {a b:Expr}{ta:TA}{p pos:Pos}{es:List Expr}{x1}{tpos:Pos}(hg:Gl X "zip")(hm:X.mg "zip" =none)(ha:PA X [a,b] ta)(hs:starEach [a,b] X.env=[(false,eval a X.env),(false,eval b X.env)]:=by rfl)(hs2:starEach [b] X.env=[(false,eval b X.env)]:=by rfl):
  PI X (.Tuple es x1 tpos) (.Call (.Name "zip" p) [a,b] [] pos) (A97 X.K ta):=by
 intro pins s σ H R I h
 refine Call_ (iZ I hg hm boot_zip (PyProof.Rows.callWith_type1 (thn (ha pos pins s σ H _ I h) fun us s1 ⟨vs,H1,I1,r1,q1⟩=> ?_) (by rw [hs,hs2]) (by rw [hs2];rfl)))
 obtain⟨a',b',xs,ys,e,q1,q2,q⟩:=q1
 subst e
 obtain⟨u,v,rfl,rx,ry⟩:=kK r1
 cases rx
 cases ry
 obtain⟨its,rv,p1⟩:=kL_ok.get I1 q1
 obtain⟨jts,rw',p2⟩:=kT_ok.get I1 q2
 have l1:=kL_ok.lt p1
 have l2:=kT_ok.lt p2
 refine A3q p1 p2 fun h' a1 a2 a3 a4 a5 _ a7=> ?_
 refine wpAny_pyIter_zip (s:={s1 with heap:=h'}) a1 ?_
 have I2:Inv X pins σ H1 {s1 with heap:=h'}:=I1.kept (t':=s1.toks) a7
 have far:=wC s1.heap.objs.size a' b' l1 l2
 refine⟨s1.heap.objs.size+4,[s1.heap.objs.size+4,s1.heap.objs.size+2,s1.heap.objs.size+3,s1.heap.objs.size,s1.heap.objs.size+1],_,_,H1,rfl,I2,A41 kL_ok kT_ok _ _ _ _ _ a' b' far (ne_of_lt l1) (ne_of_lt (lt_succ_of_lt l2)),⟨a1,a2,⟨_,_,a3⟩,a4,a5⟩,fun c hc'=> ?_,q⟩
 have hge:s1.heap.objs.size<=c:=by
  simp only [mem_cons,not_mem_nil,or_false]at hc'
  rcases hc' with rfl|rfl|rfl|rfl|rfl
  ·exact le_add_right _ 4
  ·exact le_add_right _ 2
  ·exact le_add_right _ 3
  ·exact zjQ _
  ·exact le_succ _
 exact I1.fpOk hge (I1.hok.fresh hge)
end
end L2
namespace Wlk
open PySem PyProof.Rows Srt Cyc Grd L2
def fF (A:List Pl)(c:Pl):List Pl:=(beside c).filter fun p=>HT.lexLt [c.1,c.2] [p.1,p.2]&&decide (p∈A)
def dH (A:List Pl):List aY:=(A.map fun c=>(fF A c).map fun p=>(c,p)).flatten
def cI (A:List Pl)(ns:List Int)(c:Pl):Int:=(((A.zip ns).find? fun z=>decide (z.1=c)).map (·.2)).getD 0
def gQ (c:Pl):List Key:=[.inl c.1,.inl c.2]
theorem A61 {c d:Pl}(h:gQ c=gQ d):c=d:=by
 obtain⟨a,b⟩:=c
 obtain⟨a',b'⟩:=d
 unfold gQ at h
 simp only [List.cons.injEq,Sum.inl.injEq,and_true]at h
 rw [h.1,h.2]
def kvP (l:List (Pl×Int)):List (List Key×V):=l.map fun z=>(gQ z.1,V.int z.2)
theorem rZ (c:Pl):∀l:List (Pl×Int),eE (kvP l) (gQ c)=(l.find? fun z=>decide (z.1=c)).map fun z=>V.int z.2
 | []=>rfl
 |z::l=>by
  have ih:=rZ c l
  by_cases e:z.1=c
  ·rw [List.find?_cons_of_pos (by simpa using e)]
   exact oS (show gQ z.1=gQ c by rw [e])
  ·rw [List.find?_cons_of_neg (by simpa using e),←ih]
   exact oY (fun y=>e (A61 y))
theorem A4n {l:List (Pl×Int)}{c:Pl}(h:∀z∈l,z.1≠c):eE (kvP l) (gQ c)=none:=by
 rw [rZ,List.find?_eq_none.mpr fun z hz=>by simpa using h z hz];rfl
theorem uQ {A:List Pl}{ns:List Int}(hl:ns.length=A.length){c:Pl}(hc:c∈A):eE (kvP (A.zip ns)) (gQ c)=some (V.int (cI A ns c)):=by
 rw [rZ]
 obtain⟨i,hi,e⟩:=List.mem_iff_getElem.mp hc
 have hz:(c,ns[i]'(by omega))∈A.zip ns:=List.mem_iff_getElem.mpr ⟨i,by rw [length_zip];omega,by rw [getElem_zip,e]⟩
 have hs:((A.zip ns).find? fun z=>decide (z.1=c)).isSome=true:=List.find?_isSome.mpr ⟨_,hz,by simp⟩
 obtain⟨z,ez⟩:=Option.isSome_iff_exists.mp hs
 unfold cI
 rw [ez];rfl
theorem A3p {A:List Pl}{s:aY}(h:s∈dH A):s.1∈A/\s.2∈A:=by
 unfold dH at h
 obtain⟨l,hl,hs⟩:=mem_flatten.mp h
 obtain⟨c,hc,rfl⟩:=mem_map.mp hl
 obtain⟨p,hp,rfl⟩:=mem_map.mp hs
 refine⟨hc,?_⟩
 have:=(mem_filter.mp hp).2
 rw [Bool.and_eq_true]at this
 exact of_decide_eq_true this.2
def bY (A:List Pl)(ns:List Int):List aY:=(dH A).filter fun s=> !decide (cI A ns s.1=cI A ns s.2)
end Wlk
namespace M46
open PySem L2 PyProof.Rows Grd Wlk Cyc Srt
abbrev oN:Stmt:=top 26
abbrev mK:Stmt:=top 27
theorem A67 (l:List (Int×Int))(x:Int×Int):(l.map fun c=>decide (c=x)).any id=decide (x∈l):=by
 rw [Bool.eq_iff_iff,any_map]
 simp
theorem nQ {c:Prop} [Decidable c]{A B:Prop}(h1:¬c->A)(h2:c->B):if (!decide c)=true then A else B:=by
 by_cases h:c
 ·rw [if_neg (by rw [zjV h];decide)];exact h2 h
 ·rw [if_pos (by rw [zjU h];rfl)];exact h1 h
def sW:Sp:=fun vs H Q _=> ∃a g w,vs=[.ref a]/\GridAt H a g/\dX g w/\∀l qs H',H l=none->Same H H'->H' l=some (.lst ((qs:List Addr).map V.ref))->StAt H' qs (dH (bC pos g))->Q (.ref l) H'
theorem A3x (A:List Pl)(c:Pl):(fF A c).length<=4:=length_filter_le _ _
theorem lZ (A:List Pl):∀cs:List Pl,((cs.map fun c=>(fF A c).map fun p=>(c,p)).flatten).length<=4*cs.length
 | []=>by simp
 |c::cs=>by
  have:=lZ A cs
  have:=A3x A c
  rw [map_cons,flatten_cons,length_append,length_cons,length_map]
  omega
def jY (C:Addr):Sp:=fun vs H Q E=> ∃v,vs=[v]/\Kn H 4 v/\(dealtV H v=false->∀H',Same H H'->E (.ref C) none H')/\(dealtV H v=true->∀p g w ns,v= .ref p->DlA H p g w ns->∀l qs H',H l=none->Same H H'->H' l=some (.lst ((qs:List Addr).map V.ref))->StAt H' qs (bY (bC pos g) ns)->Q (.ref l) H')
section
variable {P:Program}{w:World}{K:W.Frag}{mg:Str->Option Value}{base:Heap}
abbrev nSe:List Str:=["mead","cells"]
theorem scSeams:bV nSe ["mead"] (aK oN):=by ac_rfl
theorem vS:(["cell","place","cells"]:List Str).Nodup:=by decide +kernel
theorem A3u {f g1 g2:Addr}{fd d1 d2:FuncData}(F:Fun K "seams_of" "seams_of" oN f fd)(a1:At P w K mg base CX0 6 "cells_of" g1 d1 ["mead"] (gE pos))(a2:At P w K mg base CX0 1 "places_beside" g2 d2 ["place"] rP):FnOk P w K mg base CX0 7 f fd ["mead"] sW:=by
 refine F.ok scSeams (fun vs H Q E h=> ?_) (fun cdv A outer s H vs Q E hr h=> ?_)
 ·obtain⟨a,g,w',rfl,_⟩:=h;rfl
 ·obtain⟨a,g,w',rfl,hA,G,q⟩:=h
  have nd:=scSeams.nd
  refine⟨_,aU (cJ (i:=1) nd rfl (Or.inr rfl) (aX a1.ok hr rfl a1.nm a1.kp a1.bd .nil bA (aE (pv 0) aA)))<|
   aW (bB (tN (aK oN).names nSe ["cell","place"] [("cells",1)] rfl (jK (pv 1)) rfl rfl rfl (by decide +kernel)
    (fun Z=>bE (i:=0) vS rfl (Or.inl rfl)) (fun Z=>fR)
    (fun Z=>jK (aX a2.ok (hr.mono (by decide)) rfl a2.nm a2.kp a2.bd .nil bA (aE (pv 0) aA))) (fun Z=>bE (i:=1) vS rfl (Or.inl rfl))
    (fun Z=>jL (PW.pt (jC (bN (A1f (lt_of_succ_lt (lI hr))) (pv 1) (pv 0) (nomark _)) (iS (bN (A50 1 (yK hr)) (pv 1) (pv 2) rfl))))) (fun Z=>cZ (aE (pv 0) (aE (pv 1) aA))))),?_⟩
  refine⟨_,rfl,a,g,w',rfl,hA,G,fun H1 lc ps hlc s1 hlc1 hP=> ?_⟩
  generalize hAA:bC pos g=AA at*
  have hlen:ps.length=AA.length:=Paired.length hP
  have h10:AA.length<=10:=by rw [←hAA,gH];exact G.c10
  refine⟨_,rfl,lc,rfl,⟨_,SqL.of hlc1⟩,fun Z l hl=> ?_⟩
  refine jX (K:=K) (a:=lc) (xs:=ps.map V.ref) (fun i σ H'=>(∃o0 o1,σ=[o0,o1,some (.ref lc)])/\Same H1 H'/\∃qs,H' l=some (.lst ((qs:List Addr).map V.ref))/\StAt H' qs (((AA.take i).map fun c=>(fF AA c).map fun p=>(c,p)).flatten)) ⟨⟨_,_,rfl⟩,aV hl,[],by rw [aJ];rfl,.nil⟩ (fun i σ H' _ h=>SqL.of (h.2.1 _ _ hlc1)) ?_ ?_
  ·rintro i x σ H' hx ⟨⟨o0,o1,rfl⟩,hs,qs,hl',hS⟩
   obtain⟨p,hp,rfl⟩:=lU hx
   obtain⟨c,hc,he⟩:=hP.at hp
   have hi:i<ps.length:=(zjW.mp hp).1
   have hql:qs.length<=4*10:=by
    have h1:qs.length=_:=Paired.length hS
    have h2:=lZ AA (AA.take i)
    rw [length_take]at h2
    omega
   refine nK ?_
   refine⟨_,rfl,p,c,rfl,hs _ _ he,fun l2 qs2 H2 hf2 s2 hl2 hB=> ?_⟩
   refine⟨l2,rfl,⟨_,SqL.of hl2⟩,?_⟩
   have hne:l2≠l:=fun z=>by rw [z,hl']at hf2;cases hf2
   have hl2':=s2 _ _ hl'
   have hS2:=hS.same s2
   refine jX (K:=K) (a:=l2) (xs:=qs2.map V.ref) (fun j σ H3=>(∃o1,σ=[some (.ref p),o1,some (.ref lc)])/\Same H1 H3/\H3 l2=some (.lst (qs2.map V.ref))/\PlAt H3 qs2 (beside c)/\∃qs3,H3 l=some (.lst ((qs3:List Addr).map V.ref))/\StAt H3 qs3 (((AA.take i).map fun c=>(fF AA c).map fun p=>(c,p)).flatten++(((beside c).take j).filter fun p=>HT.lexLt [c.1,c.2] [p.1,p.2]&&decide (p∈AA)).map fun p=>(c,p))/\qs3.length<=40+j)
    ⟨⟨_,rfl⟩,hs.trans s2,hl2,hB,qs,hl2',by rw [List.take_zero,List.filter_nil,map_nil,append_nil];exact hS2,by omega⟩ (fun j σ H3 _ h=>SqL.of h.2.2.1) ?_ ?_
   ·rintro j x σ H3 hx ⟨⟨o1,rfl⟩,hs3,hl3,hB3,qs3,hq3,hS3,hn3⟩
    obtain⟨q2,hq2,rfl⟩:=lU hx
    obtain⟨b,hb,hbe⟩:=hB3.at hq2
    have hj:j<4:=(zjW.mp hb).1
    have et:((beside c).take (j+1)).filter (fun p=>HT.lexLt [c.1,c.2] [p.1,p.2]&&decide (p∈AA))=((beside c).take j).filter (fun p=>HT.lexLt [c.1,c.2] [p.1,p.2]&&decide (p∈AA))++(if (HT.lexLt [c.1,c.2] [b.1,b.2]&&decide (b∈AA))=true then [b]else []):=by
     rw [take_succ,hb,filter_append]
     congr 1
     cases e:(HT.lexLt [c.1,c.2] [b.1,b.2]&&decide (b∈AA))
     ·simp [e]
     ·simp [e]
    rw [et]
    have hc3:=hs3 _ _ he
    have skip:(HT.lexLt [c.1,c.2] [b.1,b.2]&&decide (b∈AA))=false->((∃o1,[some (V.ref p),some (V.ref q2),some (V.ref lc)]=[some (.ref p),o1,some (.ref lc)])/\Same H1 H3/\H3 l2=some (.lst (qs2.map V.ref))/\PlAt H3 qs2 (beside c)/\∃qs3,H3 l=some (.lst ((qs3:List Addr).map V.ref))/\StAt H3 qs3 (((AA.take i).map fun c=>(fF AA c).map fun p=>(c,p)).flatten++(((beside c).take j).filter (fun p=>HT.lexLt [c.1,c.2] [p.1,p.2]&&decide (p∈AA))++(if (HT.lexLt [c.1,c.2] [b.1,b.2]&&decide (b∈AA))=true then [b]else [])).map fun p=>(c,p))/\qs3.length<=40+(j+1)):=fun z=>by
     refine⟨⟨_,rfl⟩,hs3,hl3,hB3,qs3,hq3,?_,by omega⟩
     rw [if_neg (by rw [z];decide),append_nil];exact hS3
    show dR _ _ _ [some (.ref p),some (.ref q2),some (.ref lc)] H3
    refine⟨_,rfl,_,rfl,q2,p,[b.1,b.2],[c.1,c.2],rfl,rfl,SqT.of hbe,SqT.of hc3,_,rfl,cH (fun z1=> ?_) fun z1=> ?_⟩
    ·refine⟨_,rfl,_,rfl,lc,_,_,rfl,.inr (hs3 _ _ hlc1),uZ hbe (hP.same hs3),_,rfl,?_⟩
     rw [A67]
     refine cH (fun z2'=> ?_) fun z2'=> ?_
     ·have z2:b∈AA:=by simpa using z2'
      have zz:(HT.lexLt [c.1,c.2] [b.1,b.2]&&decide (b∈AA))=true:=by rw [z1,zjV z2];rfl
      refine⟨_,rfl,_,rfl,by show 2<=sizeLine;decide,fun t ht=> ?_⟩
      have s4:=aV (o:=.tup [.ref p,.ref q2]) ht
      have hq4:=s4 _ _ hq3
      have hst:StA (upd H3 t (.tup [.ref p,.ref q2])) t (c,b):=⟨p,q2,aJ,s4 _ _ hc3,s4 _ _ hbe⟩
      refine⟨_,hq4,eI (by rw [length_map];omega),⟨_,rfl⟩,fun b' u e'=> ?_,?_,?_,qs3++[t],?_,?_,?_⟩
      ·rw [aQ (bW e' hl)];exact s4 _ _ (hs3 _ _ e')
      ·rw [aQ hne];exact s4 _ _ hl3
      ·exact Paired.mapP hB3 fun _ _ z=>PlA.put hq4 (s4 _ _ z)
      ·rw [aJ,map_append];rfl
      ·rw [if_pos zz,map_append,←append_assoc]
       exact((hS3.same s4).put hq4).snoc (hst.put hq4)
      ·rw [length_append];show _+1<=_;omega
     ·have z2:b∉AA:=by simpa using z2'
      exact skip (by rw [zjU z2,Bool.and_false])
    ·exact skip (by rw [z1];rfl)
   ·rintro σ H3 ⟨⟨o1',rfl⟩,hs3,_,_,qs3,hq3,hS3,_⟩
    have hq4:qs2.length=4:=Paired.length hB
    rw [length_map,hq4]at hS3
    refine⟨⟨_,_,rfl⟩,hs3,qs3,hq3,?_⟩
    rw [take_succ,hc,map_append,flatten_append]
    have eo:((Option.toList (some c)).map fun c=>(fF AA c).map fun p=>(c,p)).flatten=(fF AA c).map fun p=>(c,p):=by simp
    rw [eo]
    exact hS3
  ·rintro σ H' ⟨_,hs,qs,hl',hS⟩
   rw [length_map,hlen,take_of_length_le (zjQ _)]at hS
   exact q l qs H' (s1.free hl) (s1.trans hs) hl' hS
abbrev nFe:List Str:=["dealt","mead","numbers","number_at"]
theorem scFences:bV nFe ["dealt"] (aK mK):=by ac_rfl
theorem uM:(["cell","number"]:List Str).Nodup:=by decide +kernel
theorem wS:(["one","other","number_at"]:List Str).Nodup:=by decide +kernel
theorem A36 {f g1 g2 g3 C:Addr}{fd d1 d2 d3:FuncData}(F:Fun K "fences_of" "fences_of" mK f fd)(T2:dY mg)(a1:At P w K mg base (CX1 P w) 8 "check_dealt" g1 d1 ["dealt"] (nH C))(a2:At P w K mg base CX0 6 "cells_of" g2 d2 ["mead"] (gE pos))(a3:At P w K mg base CX0 7 "seams_of" g3 d3 ["mead"] sW):FnOk P w K mg base (CX1 P w) 9 f fd ["dealt"] (jY C):=by
 refine F.okX scFences (fun vs H Q E h=> ?_) (fun cdv A outer s H vs Q E hr h=> ?_)
 ·obtain⟨v,rfl,_⟩:=h;rfl
 ·obtain⟨v,rfl,kv,qE,qQ⟩:=h
  have nd:=scFences.nd
  refine⟨_,aU (gO (aX a1.ok hr rfl a1.nm a1.kp a1.bd .nil kX (aE (pv 0) aA)))<|
   aU (iQ (pv 0) (eQ rfl (cB (bE (i:=1) nd rfl (Or.inl rfl)) (cB (bE (i:=2) nd rfl (Or.inl rfl)) eP))))<|
   aU (cJ (i:=3) nd rfl (Or.inr rfl) (A6m (aK mK).names nFe ["cell","number"] [] rfl (A19 rfl T2.zip (cC (aX a2.ok (hr.mono (by decide)) rfl a2.nm a2.kp a2.bd .nil bA (aE (pv 1) aA)) (aE (pv 2) aA))) rfl rfl rfl (by decide +kernel)
    (fun Z=>eQ rfl (cB (bE (i:=0) uM rfl (Or.inl rfl)) (cB (bE (i:=1) uM rfl (Or.inl rfl)) eP))) (fun Z=>fR) (lt_of_succ_lt (lI hr)) (fun Z=>pv 0) (fun Z=>pv 1)))<|
   aW (bB (gY (aK mK).names nFe ["one","other"] [("number_at",3)] rfl (jK (aX a3.ok (hr.mono (by decide)) rfl a3.nm a3.kp a3.bd .nil bA (aE (pv 1) aA))) rfl rfl rfl (by decide +kernel)
    (fun Z=>eQ rfl (cB (bE (i:=0) wS rfl (Or.inl rfl)) (cB (bE (i:=1) wS rfl (Or.inl rfl)) eP)))
    (fun Z=>jL (bN gA (vU (lI hr) (pv 2) (pv 0) (fun _ _=>rfl)) (vU (lI hr) (pv 2) (pv 1) (fun _ _=>rfl)) (nomark _))) (fun Z=>cZ (aE (pv 0) (aE (pv 1) aA))))),?_⟩
  refine⟨_,rfl,v,rfl,kv,fun hv H1 s1=> ?_,fun hv H1 s1=>qE hv H1 s1⟩
  obtain⟨p,g,w',ns,rfl,D⟩:=nF hv
  have q:=qQ hv p g w' ns rfl D
  obtain⟨a,n,hp,hA,hn⟩:=D.ex
  have G:=D.G
  have hlA:=D.len
  refine⟨_,rfl,p,_,rfl,SqT.of (s1 _ _ hp),rfl,_,_,rfl,_,_,rfl,rfl,?_⟩
  refine⟨_,rfl,a,g,w',rfl,hA.same s1,G,fun H2 lc ps hlc s2 hlc2 hP=> ?_⟩
  have hnd:=tX (rY pos g)
  have h10:(bC pos g).length<=10:=by rw [gH];exact G.c10
  generalize hAA:bC pos g=AA at*
  have hpl:ps.length=AA.length:=Paired.length hP
  have s12:=s1.trans s2
  have hn2:=s12 _ _ hn
  refine⟨_,rfl,lc,n,_,_,rfl,SqL.of hlc2,SqT.of hn2,fun Z ld hld=> ?_⟩
  refine vR (xs:=ps.map V.ref) (ys:=ns.map V.int) (by rw [length_map,length_map];omega)
   (fun j σ H'=>σ.length=2/\Same H2 H'/\H' ld=some (.dT (kvP ((AA.zip ns).take j))))
   ⟨rfl,aV hld,by rw [aJ];rfl⟩ (fun j σ H' h=> ⟨SqL.of (h.2.1 _ _ hlc2),SqT.of (h.2.1 _ _ hn2)⟩) ?_ ?_
  ·rintro j x y pz σ H' hx hy ⟨hσ,hs,hld'⟩ hpz
   match σ,hσ with
   | [o0,o1],_=>
   obtain⟨b,hb,rfl⟩:=lU hx
   obtain⟨c,hc,he⟩:=hP.at hb
   obtain⟨m,hm,rfl⟩:∃m,ns[j]?=some m/\V.int m=y:=by
    rw [getElem?_map]at hy
    cases e:ns[j]? with
    |none=>rw [e]at hy;cases hy
    |some m=>rw [e]at hy;exact⟨m,rfl,Option.some.inj hy⟩
   have s4:=aV (o:=.tup [.ref b,.int m]) hpz
   have ez:(AA.zip ns)[j]?=some (c,m):=List.getElem?_zip_eq_some.mpr ⟨hc,hm⟩
   have hjl:j<AA.length:=(zjW.mp hc).1
   refine⟨pz,_,rfl,SqT.of aJ,rfl,_,_,rfl,_,_,rfl,rfl,?_⟩
   refine kJ ?_
   refine⟨_,rfl,_,rfl,b,_,gQ c,rfl,s4 _ _ hld',s4 _ _ (hs _ _ he),eI (by unfold kvP;rw [length_map,length_take,length_zip];omega),?_⟩
   have hno:eE (kvP ((AA.zip ns).take j)) (gQ c)=none:=A4n fun z hz e=>by
    obtain⟨i,hi,ei⟩:=List.mem_iff_getElem.mp hz
    rw [length_take,length_zip]at hi
    have hij:i<j:=by omega
    have e1:AA[i]'(by omega)=c:=by
     rw [List.getElem_take,getElem_zip]at ei
     rw [←e,←ei]
    have e2:AA[j]=c:=(zjW.mp hc).2
    exact pairwise_iff_getElem.mp (List.nodup_iff_pairwise_ne.mp hnd) i j (by omega) hjl hij (e1.trans e2.symm)
   refine⟨rfl,fun b' u e'=> ?_,?_⟩
   ·rw [aQ (bW e' hld)];exact s4 _ _ (hs _ _ e')
   ·rw [aJ,A7v _ hno,take_succ,ez]
    unfold kvP
    rw [map_append];rfl
  ·rintro σ H' ⟨_,hs,hld'⟩
   have el:(ps.map V.ref).length=(AA.zip ns).length:=by rw [length_map,length_zip];omega
   rw [el,take_of_length_le (zjQ _)]at hld'
   refine⟨_,rfl,a,g,w',rfl,hA.same (s12.trans hs),G,fun ls qs H3 hls s3 hls3 hS=> ?_⟩
   rw [hAA]at hS
   have hld3:=s3 _ _ hld'
   have hql:qs.length<=40:=by
    have h1:qs.length=_:=Paired.length hS
    have h2:=lZ AA AA
    unfold dH at h1
    omega
   refine⟨ls,rfl,⟨_,SqL.of hls3⟩,fun Z lf hlf=> ?_⟩
   refine jX (K:=K) (a:=ls) (xs:=qs.map V.ref) (fun j σ H'=>(∃o0 o1,σ=[o0,o1,some (.ref ld)])/\Same H3 H'/\∃fs,H' lf=some (.lst ((fs:List Addr).map V.ref))/\StAt H' fs (((dH AA).take j).filter fun s=> !decide (cI AA ns s.1=cI AA ns s.2))) ⟨⟨_,_,rfl⟩,aV hlf,[],by rw [aJ];rfl,.nil⟩ (fun j σ H' _ h=>SqL.of (h.2.1 _ _ hls3)) ?_ ?_
   ·rintro j x σ H4 hx ⟨⟨o0,o1,rfl⟩,hs4,fs,hf,hfl⟩
    obtain⟨qa,hqa,rfl⟩:=lU hx
    obtain⟨st,hst,b1,b2,e1,e2,e3⟩:=hS.at hqa
    have hjq:j<qs.length:=(zjW.mp hqa).1
    obtain⟨m1,m2⟩:=A3p (mem_of_getElem? hst)
    have et:((dH AA).take (j+1)).filter (fun s=> !decide (cI AA ns s.1=cI AA ns s.2))=((dH AA).take j).filter (fun s=> !decide (cI AA ns s.1=cI AA ns s.2))++(if (!decide (cI AA ns st.1=cI AA ns st.2))=true then [st]else []):=by
     rw [take_succ,hst,filter_append]
     congr 1
     cases e:(!decide (cI AA ns st.1=cI AA ns st.2))
     ·simp [e]
     ·simp [e]
    rw [et]
    have hfl':fs.length<=j:=by
     rw [show fs.length=_ from Paired.length hfl]
     refine le_trans (length_filter_le _ _) ?_
     rw [length_take];omega
    refine⟨qa,_,rfl,SqT.of (hs4 _ _ e1),rfl,_,_,rfl,_,_,rfl,rfl,?_⟩
    have d1:DGet H4 ld (.ref b1) (some (V.int (cI AA ns st.1))):=by rw [←uQ hlA m1];exact DGet.t (hs4 _ _ hld3) (hs4 _ _ e2)
    have d2:DGet H4 ld (.ref b2) (some (V.int (cI AA ns st.2))):=by rw [←uQ hlA m2];exact DGet.t (hs4 _ _ hld3) (hs4 _ _ e3)
    refine⟨_,rfl,_,rfl,ld,_,rfl,d1,_,rfl,_,rfl,ld,_,rfl,d2,rfl,_,rfl,nQ (fun z=> ?_) fun z=> ?_⟩
    ·have z':(!decide (cI AA ns st.1=cI AA ns st.2))=true:=by rw [zjU fun y=>z (by rw [y])];rfl
     refine⟨_,rfl,_,rfl,by show 2<=sizeLine;decide,fun t ht=> ?_⟩
     have s5:=aV (o:=.tup [.ref b1,.ref b2]) ht
     refine⟨_,s5 _ _ hf,eI (by rw [length_map];omega),⟨_,_,rfl⟩,fun b' u e'=> ?_,fs++[t],?_,?_⟩
     ·rw [aQ (bW e' hlf)];exact s5 _ _ (hs4 _ _ e')
     ·rw [aJ,map_append];rfl
     ·rw [if_pos z']
      have up:∀b xs,(upd H4 t (.tup [.ref b1,.ref b2])) b=some (.tup xs)->(upd (upd H4 t (.tup [.ref b1,.ref b2])) lf (.lst (fs.map V.ref++[.ref t]))) b=some (.tup xs):=fun b xs e=>by rw [aQ (fun z=>by rw [z,s5 _ _ hf]at e;cases e)];exact e
      exact Paired.snoc (Paired.mapP hfl fun _ _ ⟨c1,c2,x1,x2,x3⟩=> ⟨c1,c2,up _ _ (s5 _ _ x1),up _ _ (s5 _ _ x2),up _ _ (s5 _ _ x3)⟩) ⟨b1,b2,up _ _ aJ,up _ _ (s5 _ _ (hs4 _ _ e2)),up _ _ (s5 _ _ (hs4 _ _ e3))⟩
    ·have z':¬(!decide (cI AA ns st.1=cI AA ns st.2))=true:=by rw [zjV (V.int.inj z)];decide
     rw [if_neg z',append_nil]
     exact⟨⟨_,_,rfl⟩,hs4,fs,hf,hfl⟩
   ·rintro σ H4 ⟨_,hs4,fs,hf,hfl⟩
    have hq1:qs.length=_:=Paired.length hS
    rw [length_map,hq1,take_of_length_le (zjQ _)]at hfl
    have sA:=((s12.trans hs).trans s3)
    exact q lf fs H4 (sA.free hlf) (sA.trans hs4) hf hfl
end
end M46
namespace Wlk
open PySem PyProof.Rows Srt Cyc Grd L2
theorem zZ (c d:Pl):HT.lexLt [c.1,c.2] [d.1,d.2]=decide (c.1<d.1\/(c.1=d.1/\c.2<d.2)):=by
 rw [HT.lexLt_cons]
 by_cases h:c.1=d.1
 ·rw [if_pos h,HT.lexLt_cons]
  by_cases h2:c.2=d.2
  ·rw [if_pos h2,HT.lexLt_nil_nil]
   exact(zjU (by omega)).symm
  ·rw [if_neg h2]
   exact decide_eq_decide.mpr (by omega)
 ·rw [if_neg h]
  exact decide_eq_decide.mpr (by omega)
theorem ltP_iff {c d:Pl}:ltP c d↔(c.1<d.1\/(c.1=d.1/\c.2<d.2)):=by
 unfold ltP;rw [zZ,decide_eq_true_eq]
theorem qO (A:List Pl)(c:Pl):fF A c=(if (c.1,c.2+1)∈A then [(c.1,c.2+1)]else [])++(if (c.1+1,c.2)∈A then [(c.1+1,c.2)]else []):=by
 obtain⟨a,b⟩:=c
 have l1:HT.lexLt [a,b] [a - 1,b]=false:=by
  rw [HT.lexLt_cons,if_neg (by omega)];exact zjU (by omega)
 have l2:HT.lexLt [a,b] [a,b - 1]=false:=by
  rw [HT.lexLt_cons,if_pos rfl,HT.lexLt_cons,if_neg (by omega)];exact zjU (by omega)
 have l3:HT.lexLt [a,b] [a,b+1]=true:=by
  rw [HT.lexLt_cons,if_pos rfl,HT.lexLt_cons,if_neg (by omega)];exact zjV (by omega)
 have l4:HT.lexLt [a,b] [a+1,b]=true:=by
  rw [HT.lexLt_cons,if_neg (by omega)];exact zjV (by omega)
 unfold fF beside
 dsimp only
 by_cases u1:(a,b+1)∈A<;>by_cases u2:(a+1,b)∈A<;>simp [filter_cons,l1,l2,l3,l4,u1,u2]
theorem mem_seamOf {A:List Pl}{c p:Pl}:p∈fF A c↔p∈A/\(p=(c.1,c.2+1)\/p=(c.1+1,c.2)):=by
 rw [qO]
 constructor
 ·intro h
  rcases mem_append.mp h with h|h
  ·by_cases u:(c.1,c.2+1)∈A
   ·rw [if_pos u]at h;rw [mem_singleton.mp h];exact⟨u,.inl rfl⟩
   ·rw [if_neg u]at h;cases h
  ·by_cases u:(c.1+1,c.2)∈A
   ·rw [if_pos u]at h;rw [mem_singleton.mp h];exact⟨u,.inr rfl⟩
   ·rw [if_neg u]at h;cases h
 ·rintro⟨h,rfl|rfl⟩
  ·exact mem_append_left _ (by rw [if_pos h];exact mem_singleton.mpr rfl)
  ·exact mem_append_right _ (by rw [if_pos h];exact mem_singleton.mpr rfl)
theorem A9g {A:List Pl}{s:aY}:s∈dH A↔s.1∈A/\s.2∈A/\(s.2=(s.1.1,s.1.2+1)\/s.2=(s.1.1+1,s.1.2)):=by
 obtain⟨c,p⟩:=s
 unfold dH
 constructor
 ·intro h
  obtain⟨l,hl,hs⟩:=mem_flatten.mp h
  obtain⟨c',hc,rfl⟩:=mem_map.mp hl
  obtain⟨p',hp,e⟩:=mem_map.mp hs
  cases e
  exact⟨hc,mem_seamOf.mp hp⟩
 ·rintro⟨h1,h2⟩
  exact mem_flatten.mpr ⟨_,mem_map.mpr ⟨c,h1,rfl⟩,mem_map.mpr ⟨p,mem_seamOf.mpr h2,rfl⟩⟩
def ltW (s t:aY):Prop:=ltP s.1 t.1\/(s.1=t.1/\ltP s.2 t.2)
theorem A13 {A:List Pl}(h:A.Pairwise ltP):(dH A).Pairwise ltW:=by
 unfold dH
 rw [List.pairwise_flatten]
 refine⟨fun l hl=> ?_,?_⟩
 ·obtain⟨c,_,rfl⟩:=mem_map.mp hl
  rw [pairwise_map]
  rw [qO]
  have key:(([(c.1,c.2+1),(c.1+1,c.2)]:List Pl)).Pairwise fun a b=>ltW (c,a) (c,b):=by
   simp only [pairwise_cons,mem_singleton,forall_eq,not_mem_nil,false_imp_iff,implies_true,List.Pairwise.nil,and_true]
   exact .inr ⟨rfl,ltP_iff.mpr (.inl (by show c.1<c.1+1;omega))⟩
  refine key.sublist ?_
  by_cases u1:(c.1,c.2+1)∈A
  ·by_cases u2:(c.1+1,c.2)∈A
   ·rw [if_pos u1,if_pos u2];exact List.Sublist.refl _
   ·rw [if_pos u1,if_neg u2];exact .cons₂ _ (List.nil_sublist _)
  ·by_cases u2:(c.1+1,c.2)∈A
   ·rw [if_neg u1,if_pos u2];exact .cons _ (List.Sublist.refl _)
   ·rw [if_neg u1,if_neg u2];exact List.nil_sublist _
 ·rw [pairwise_map]
  refine h.imp fun{c d} hcd x hx y hy=> ?_
  obtain⟨p,_,rfl⟩:=mem_map.mp hx
  obtain⟨q,_,rfl⟩:=mem_map.mp hy
  exact .inl hcd
theorem yZ {A:List Pl}{ns:List Int}(h:A.Pairwise ltP):(bY A ns).Pairwise ltW:=(A13 h).filter _
theorem A9b {s:aY}:¬ltW s s:=by
 rintro(h| ⟨_,h⟩)
 ·exact lC _ h
 ·exact lC _ h
theorem rW {A:List Pl}{ns:List Int}(h:A.Pairwise ltP):(bY A ns).Nodup:=by
 rw [List.nodup_iff_pairwise_ne]
 exact(yZ h).imp fun{a b} hab e=>by rw [e]at hab;exact A9b hab
def fS (A:List Pl)(ns:List Int)(j i:Nat):List aY:=(List.range i).filterMap fun k=>if (fV (A.getD j (0,0)) (A.getD k (0,0))&& !decide (ns.getD j 0=ns.getD k 0))=true then some (A.getD k (0,0),A.getD j (0,0))else none
def lawF (A:List Pl)(ns:List Int)(n:Nat):List aY:=((List.range n).map fun j=>fS A ns j j).flatten
theorem yL (A:List Pl)(ns:List Int)(j i:Nat):fS A ns j (i+1)=fS A ns j i++(if (fV (A.getD j (0,0)) (A.getD i (0,0))&& !decide (ns.getD j 0=ns.getD i 0))=true then [(A.getD i (0,0),A.getD j (0,0))]else []):=by
 unfold fS
 rw [List.range_succ,List.filterMap_append]
 congr 1
 by_cases h:(fV (A.getD j (0,0)) (A.getD i (0,0))&& !decide (ns.getD j 0=ns.getD i 0))=true
 ·rw [if_pos h];simp only [filterMap_cons,List.filterMap_nil,if_pos h]
 ·rw [if_neg h];simp only [filterMap_cons,List.filterMap_nil,if_neg h]
theorem sE (A:List Pl)(ns:List Int)(n:Nat):lawF A ns (n+1)=lawF A ns n++fS A ns n n:=by
 unfold lawF
 rw [List.range_succ,map_append,flatten_append]
 simp
theorem mem_lawF {A:List Pl}{ns:List Int}{n:Nat}{s:aY}:s∈lawF A ns n↔ ∃j i,i<j/\j<n/\(fV (A.getD j (0,0)) (A.getD i (0,0))&& !decide (ns.getD j 0=ns.getD i 0))=true/\s=(A.getD i (0,0),A.getD j (0,0)):=by
 unfold lawF fS
 constructor
 ·intro h
  obtain⟨l,hl,hs⟩:=mem_flatten.mp h
  obtain⟨j,hj,rfl⟩:=mem_map.mp hl
  obtain⟨i,hi,e⟩:=mem_filterMap.mp hs
  by_cases c:(fV (A.getD j (0,0)) (A.getD i (0,0))&& !decide (ns.getD j 0=ns.getD i 0))=true
  ·rw [if_pos c]at e
   exact⟨j,i,mem_range.mp hi,mem_range.mp hj,c,(Option.some.inj e).symm⟩
  ·rw [if_neg c]at e;cases e
 ·rintro⟨j,i,h1,h2,c,rfl⟩
  exact mem_flatten.mpr ⟨_,mem_map.mpr ⟨j,mem_range.mpr h2,rfl⟩,mem_filterMap.mpr ⟨i,mem_range.mpr h1,by rw [if_pos c]⟩⟩
theorem gdA {α:Type}{l:List α}{i:Nat}{d:α}(h:i<l.length):l.getD i d=l[i]:=by simp [h]
theorem mB {A:List Pl}(h:A.Pairwise ltP){i j:Nat}(hi:i<A.length)(hj:j<A.length):ltP A[i] A[j]↔i<j:=by
 constructor
 ·intro l
  rcases Nat.lt_trichotomy i j with z|z|z
  ·exact z
  ·subst z;exact absurd l (lC _)
  ·have:=pairwise_iff_getElem.mp h j i hj hi z
   have a:=ltP_iff.mp l
   have b:=ltP_iff.mp this
   omega
 ·intro z;exact pairwise_iff_getElem.mp h i j hi hj z
theorem nW {A:List Pl}{ns:List Int}(h:A.Pairwise ltP)(hl:ns.length=A.length){i:Nat}(hi:i<A.length):cI A ns A[i]=ns.getD i 0:=by
 unfold cI
 have hz:i<(A.zip ns).length:=by rw [length_zip];omega
 have hf:(A.zip ns).find? (fun z=>decide (z.1=A[i]))=some (A[i],ns[i]'(by omega)):=by
  rw [List.find?_eq_some_iff_getElem]
  refine⟨by simp,i,hz,by rw [getElem_zip],fun j hj=> ?_⟩
  rw [getElem_zip]
  have hj':j<A.length:=by omega
  have l:=(mB h hj' hi).mpr hj
  have:A[j]≠A[i]:=fun e=>by rw [e]at l;exact lC _ l
  simpa using this
 rw [hf,gdA (by omega)]
 rfl
theorem A18 {A:List Pl}{ns:List Int}(h:A.Pairwise ltP)(hl:ns.length=A.length)(s:aY):s∈lawF A ns A.length↔s∈bY A ns:=by
 unfold bY
 rw [mem_lawF,mem_filter,A9g]
 constructor
 ·rintro⟨j,i,hij,hj,c,rfl⟩
  have hi:i<A.length:=by omega
  rw [gdA hi,gdA hj]at c⊢
  rw [Bool.and_eq_true]at c
  have l:=ltP_iff.mp ((mB h hi hj).mpr hij)
  have nx:=of_decide_eq_true c.1
  refine⟨⟨getElem_mem hi,getElem_mem hj,?_⟩,?_⟩
  ·show A[j]=(A[i].1,A[i].2+1)\/A[j]=(A[i].1+1,A[i].2)
   rcases l with l| ⟨l1,l2⟩
   ·right
    exact Prod.ext (by show A[j].1=A[i].1+1;omega) (by show A[j].2=A[i].2;omega)
   ·left
    exact Prod.ext (by show A[j].1=A[i].1;omega) (by show A[j].2=A[i].2+1;omega)
  ·show(!decide (cI A ns A[i]=cI A ns A[j]))=true
   rw [nW h hl hi,nW h hl hj]
   have:=c.2
   simp only [Bool.not_eq_true',decide_eq_false_iff_not]at this⊢
   exact fun e=>this e.symm
 ·obtain⟨c,p⟩:=s
  rintro⟨⟨h1,h2,h3⟩,h4⟩
  obtain⟨i,hi,rfl⟩:=getElem_of_mem h1
  obtain⟨j,hj,rfl⟩:=getElem_of_mem h2
  have h3':A[j]=(A[i].1,A[i].2+1)\/A[j]=(A[i].1+1,A[i].2):=h3
  have e1:A[j].1=A[i].1/\A[j].2=A[i].2+1\/A[j].1=A[i].1+1/\A[j].2=A[i].2:=by
   rcases h3' with e|e
   ·left;rw [e];exact⟨rfl,rfl⟩
   ·right;rw [e];exact⟨rfl,rfl⟩
  have hij:i<j:=(mB h hi hj).mp (ltP_iff.mpr (by omega))
  refine⟨j,i,hij,hj,?_,by rw [gdA hi,gdA hj]⟩
  rw [gdA hi,gdA hj,Bool.and_eq_true]
  refine⟨zjV (by omega),?_⟩
  have h4':(!decide (cI A ns A[i]=cI A ns A[j]))=true:=h4
  rw [nW h hl hi,nW h hl hj]at h4'
  simp only [Bool.not_eq_true',decide_eq_false_iff_not]at h4'⊢
  exact fun e=>h4' e.symm
theorem wP {A:List Pl}(h:A.Pairwise ltP){i j:Nat}(hi:i<A.length)(hj:j<A.length)(e:A[i]=A[j]):i=j:=by
 rcases Nat.lt_trichotomy i j with z|z|z
 ·have:=(mB h hi hj).mpr z
  rw [e]at this;exact absurd this (lC _)
 ·exact z
 ·have:=(mB h hj hi).mpr z
  rw [e]at this;exact absurd this (lC _)
theorem wR {A:List Pl}{ns:List Int}(h:A.Pairwise ltP){j:Nat}(hj:j<A.length):∀i,i<=j->(fS A ns j i).Nodup
 |0,_=>nodup_nil
 |i+1,hi=>by
  rw [yL]
  have ih:=wR (ns:=ns) h hj i (by omega)
  by_cases c:(fV (A.getD j (0,0)) (A.getD i (0,0))&& !decide (ns.getD j 0=ns.getD i 0))=true
  ·rw [if_pos c,nodup_append]
   refine⟨ih,by simp,fun x hx y hy e=> ?_⟩
   rw [mem_singleton.mp hy]at e
   subst e
   unfold fS at hx
   obtain⟨k,hk,e⟩:=mem_filterMap.mp hx
   have hk:=mem_range.mp hk
   by_cases c2:(fV (A.getD j (0,0)) (A.getD k (0,0))&& !decide (ns.getD j 0=ns.getD k 0))=true
   ·rw [if_pos c2]at e
    have e1:=(Prod.ext_iff.mp (Option.some.inj e)).1
    have e2:A.getD k (0,0)=A.getD i (0,0):=e1
    rw [gdA (by omega),gdA (by omega)]at e2
    have:=wP h (by omega) (by omega) e2
    omega
   ·rw [if_neg c2]at e;cases e
  ·rw [if_neg c,append_nil];exact ih
theorem xD {A:List Pl}{ns:List Int}(h:A.Pairwise ltP):∀n,n<=A.length->(lawF A ns n).Nodup
 |0,_=>nodup_nil
 |n+1,hn=>by
  rw [sE,nodup_append]
  refine⟨xD h n (by omega),wR h (by omega) n (zjQ _),fun x hx y hy e=> ?_⟩
  subst e
  obtain⟨j,i,h1,h2,_,rfl⟩:=mem_lawF.mp hx
  unfold fS at hy
  obtain⟨k,hk,e⟩:=mem_filterMap.mp hy
  have hk:=mem_range.mp hk
  by_cases c2:(fV (A.getD n (0,0)) (A.getD k (0,0))&& !decide (ns.getD n 0=ns.getD k 0))=true
  ·rw [if_pos c2]at e
   have e2:A.getD n (0,0)=A.getD j (0,0):=(Prod.ext_iff.mp (Option.some.inj e)).2
   rw [gdA (by omega),gdA (by omega)]at e2
   have:=wP h (by omega) (by omega) e2
   omega
  ·rw [if_neg c2]at e;cases e
theorem wH {A:List Pl}{ns:List Int}(h:A.Pairwise ltP)(hl:ns.length=A.length):(lawF A ns A.length).Perm (bY A ns):=
 (List.perm_ext_iff_of_nodup (xD h _ (zjQ _)) (rW h)).mpr fun s=>A18 h hl s
theorem A0g (s t:aY):HT.lexLt (fl [s.1,s.2]) (fl [t.1,t.2])=true↔ltW s t:=by
 obtain⟨⟨a,b⟩,c,d⟩:=s
 obtain⟨⟨a',b'⟩,c',d'⟩:=t
 have e1:fl [(a,b),(c,d)]=[a,b,c,d]:=rfl
 have e2:fl [(a',b'),(c',d')]=[a',b',c',d']:=rfl
 show HT.lexLt (fl [(a,b),(c,d)]) (fl [(a',b'),(c',d')])=true↔_
 rw [e1,e2]
 unfold ltW
 rw [ltP_iff,ltP_iff]
 simp only [HT.lexLt_cons,HT.lexLt_nil_nil,Prod.mk.injEq]
 by_cases h1:a=a'<;>by_cases h2:b=b'<;>by_cases h3:c=c'<;>by_cases h4:d=d'<;>simp [h1,h2,h3,h4]<;>omega
theorem A8w {L':List aY}{A:List Pl}{ns:List Int}(h:A.Pairwise ltP)(hl:ns.length=A.length)(hp:L'.Perm (lawF A ns A.length))(hs:L'.Pairwise fun a b=>HT.lexLt (fl [b.1,b.2]) (fl [a.1,a.2])=false):L'=bY A ns:=by
 refine(hp.trans (wH h hl)).eq_of_pairwise (le:=fun a b=> ¬ltW b a) (fun a b _ _ h1 h2=> ?_) (hs.imp fun{a b} z w=> ?_) ((yZ h).imp fun{a b} z w=> ?_)
 ·unfold ltW at h1 h2
  rw [ltP_iff,ltP_iff]at h1 h2
  obtain⟨⟨a1,a2⟩,a3,a4⟩:=a
  obtain⟨⟨b1,b2⟩,b3,b4⟩:=b
  simp only [Prod.mk.injEq]at h1 h2⊢
  omega
 ·rw [←A0g]at w;rw [z]at w;cases w
 ·unfold ltW at z w
  rw [ltP_iff,ltP_iff]at z w
  obtain⟨⟨a1,a2⟩,a3,a4⟩:=a
  obtain⟨⟨b1,b2⟩,b3,b4⟩:=b
  simp only [Prod.mk.injEq]at z w
  omega
end Wlk
namespace Wlk
open PySem L2 PyProof.Rows Grd Cyc Srt
theorem A6o {H:Hp}{l:Addr}{qs:List Addr}{ss:List aY}{Q:VK}(hl:H l=some (.lst (qs.map V.ref)))(hS:StAt H qs ss)(h40:ss.length<=40)(q:∀l9 qs' ss' H',H l9=none->Same H H'->H' l9=some (.lst ((qs':List Addr).map V.ref))->StAt H' qs' ss'->A5x ss' ss->Q (.ref l9) H'):
  ∃(p:Addr)(zs:List (Addr×List (Int×Int))),[V.ref l]=[.ref p]/\H p=some (.lst (zs.map fun z=>V.ref z.1))/\(∀z∈zs,SqA H z.1 z.2/\z.2≠[])/\zs.length<64/\∀l zs',H l=none->vQ zs zs'->Q (.ref l) (upd H l (.lst (zs'.map fun z=>V.ref z.1))):=by
 have hzz:∀{qs:List Addr}{ss:List aY},StAt H qs ss->∃zs:List (Addr×List (Int×Int)),(zs.map fun z=>z.1)=qs/\(zs.map fun z=>z.2)=ss.map (fun s=> [s.1,s.2])/\∀z∈zs,SqA H z.1 z.2/\z.2≠[]:=fun{qs ss} h=>by
  induction h with
  |nil=>exact⟨[],rfl,rfl,fun z hz=>by cases hz⟩
  |cons r t ih=>
   rename_i q s _ _
   obtain⟨zs,i1,i2,i3⟩:=ih
   refine⟨(q,[s.1,s.2])::zs,by rw [map_cons,i1],by rw [map_cons,i2];rfl,fun z hz=> ?_⟩
   rcases mem_cons.mp hz with e|e
   ·rw [e];exact⟨r.sq,by simp⟩
   ·exact i3 z e
 obtain⟨zs,i1,i2,i3⟩:=hzz hS
 have un:∀z∈zs,∃s,z.2=[s.1,s.2]/\unS z.2=s:=fun z hz=>by
  have e2:z.2∈zs.map fun z=>z.2:=mem_map.mpr ⟨z,hz,rfl⟩
  rw [i2]at e2
  obtain⟨s,_,es⟩:=mem_map.mp e2
  exact⟨s,es.symm,by rw [←es];rfl⟩
 have hzl:zs.length<=40:=by
  have h1:=congrArg List.length i2
  rw [length_map,length_map]at h1
  omega
 refine⟨l,zs,rfl,by rw [hl,←i1,map_map];rfl,i3,by omega,fun l9 zs' hl9 so=> ?_⟩
 have s9:=aV (o:=.lst (zs'.map fun z=>V.ref z.1)) hl9
 refine q l9 (zs'.map fun z=>z.1) (zs'.map fun z=>unS z.2) _ hl9 s9 (by rw [aJ,map_map];rfl) ?_ ⟨?_,?_⟩
 ·have key:∀ys:List (Addr×List (Int×Int)),(∀z∈ys,z∈zs)->StAt (upd H l9 (.lst (zs'.map fun z=>V.ref z.1))) (ys.map fun z=>z.1) (ys.map fun z=>unS z.2):=fun ys=>by
   induction ys with
   |nil=>intro _;exact .nil
   |cons z ys ih=>
    intro hm
    refine .cons ?_ (ih fun y hy=>hm y (zjS _ hy))
    have hz:=hm z zjR
    obtain⟨s,e1,e2⟩:=un z hz
    show StA _ z.1 (unS z.2)
    rw [e2]
    have:=(i3 z hz).1
    rw [e1]at this
    exact(StA.of this).same s9
  exact key zs' fun z hz=>so.1.mem_iff.mp hz
 ·have h1:=(so.1.map fun z=>z.2).map unS
  rw [i2,map_map,map_map]at h1
  refine h1.trans (List.Perm.of_eq ?_)
  have:(unS∘fun s:aY=> [s.1,s.2])=id:=rfl
  rw [this,List.map_id]
 ·rw [pairwise_map]
  refine so.2.imp_of_mem fun{a b} ha hb hab=> ?_
  obtain⟨s,e1,e2⟩:=un a (so.1.mem_iff.mp ha)
  obtain⟨s',e1',e2'⟩:=un b (so.1.mem_iff.mp hb)
  rw [e1,e1']at hab
  rw [e2,e2']
  exact hab
end Wlk
namespace M46
open PySem L2 PyProof.Rows Grd Wlk Cyc Srt
abbrev qS:Stmt:=top 39
def lO:Sp:=fun vs H Q _=> ∃a n g w ns,vs=[.ref a,.ref n]/\GridAt H a g/\dX g w/\H n=some (.tup ((ns:List Int).map V.int))/\ns.length=(bC pos g).length/\∀l qs H',H l=none->Same H H'->H' l=some (.lst ((qs:List Addr).map V.ref))->StAt H' qs (bY (bC pos g) ns)->Q (.ref l) H'
section
variable {P:Program}{w:World}{K:W.Frag}{mg:Str->Option Value}{base:Heap}
abbrev nLF:List Str:=["_law_mead_here","_law_numbers","_law_cells_here","_law_found","_law_at","_law_one","_law_to"]
theorem scLF:bV nLF ["_law_mead_here","_law_numbers"] (aK qS):=by ac_rfl
theorem yQ (A:List Pl)(ns:List Int)(j i:Nat):(fS A ns j i).length<=i:=by
 unfold fS
 have:=List.length_filterMap_le (fun k=>if (fV (A.getD j (0,0)) (A.getD k (0,0))&& !decide (ns.getD j 0=ns.getD k 0))=true then some (A.getD k (0,0),A.getD j (0,0))else none) (List.range i)
 rwa [length_range]at this
theorem xA (A:List Pl)(ns:List Int):∀n,(lawF A ns n).length<=n*n
 |0=>by simp [lawF]
 |n+1=>by
  rw [sE,length_append]
  have h1:=xA A ns n
  have h2:=yQ A ns n n
  have:(n+1)*(n+1)=n*n+2*n+1:=by rw [Nat.add_mul,Nat.mul_add];omega
  omega
theorem A52 {f g1 g2:Addr}{fd d1 d2:FuncData}(F:Fun K "_law_fences" "_law_fences" qS f fd)(T:Txt mg)(T2:dY mg)(a1:At P w K mg base CX0 1 "_law_cells" g1 d1 ["_law_mead_here"] (gE pos))(a2:At P w K mg base CX0 1 "_law_next" g2 d2 ["_law_one","_law_other"] tF):FnOk P w K mg base CX0 2 f fd ["_law_mead_here","_law_numbers"] lO:=by
 refine F.ok scLF (fun vs H Q E h=> ?_) (fun cdv A outer s H vs Q E hr h=> ?_)
 ·obtain⟨a,n,g,w',ns,rfl,_⟩:=h;rfl
 ·obtain⟨a,n,g,w',ns,rfl,hA,G,hn,hl,q⟩:=h
  have nd:=scLF.nd
  refine⟨_,aU (nC (i:=2) (j:=3) rfl nd rfl rfl (by decide) rfl rfl (cC (aX a1.ok hr rfl a1.nm a1.kp a1.bd .nil bA (aE (pv 0) aA)) (pX (dU aA) aA)) rfl)<|
   aU (iB PassesOwn.never rfl (xG rfl rfl T.enumerate (aE (pv 2) aA)) (eQ rfl (cB (bE (i:=4) nd rfl (Or.inl rfl)) (cB (bE (i:=5) nd rfl (Or.inl rfl)) eP)))
    (aW (iB PassesOwn.never rfl (kZ rfl T2.range (aE (pv 4) aA)) (bE (i:=6) nd rfl (Or.inl rfl))
     (aW (bQ (PW.pt (jC (cS (aX a2.ok hr rfl a2.nm a2.kp a2.bd .nil bA (aE (pv 5) (fM (bM eO (pv 2) (pv 6) (fun _ _=>rfl)) aA)))) (iS (bN gA (bM cY (pv 1) (pv 4) (fun _ _=>rfl)) (bM cY (pv 1) (pv 6) (fun _ _=>rfl)) (nomark _)))))
      (aW (gO (jZ PySem.F.plainAttrs_list PySem.F.slot_list_append PySem.F.type_list_append jT (pv 3) (lG (cZ (fM (bM eO (pv 2) (pv 6) (fun _ _=>rfl)) (aE (pv 5) aA))) aA)))) bO)))))<|
   aW (bB (bI (A1b (A8p hr)) rfl T2.sorted boot_sorted (aE (pv 3) aA))),?_⟩
  refine⟨_,rfl,a,g,w',rfl,hA,G,fun H1 lc ps hlc s1 hlc1 hP=> ?_⟩
  have hup:=rY pos g
  have h10:(bC pos g).length<=10:=by rw [gH];exact G.c10
  generalize hAA:bC pos g=AA at*
  have hpl:ps.length=AA.length:=Paired.length hP
  refine⟨by show 0<=sizeLine;decide,fun lf hlf=> ?_⟩
  have s2:=aV (o:=.lst []) hlf
  have s12:=s1.trans s2
  refine⟨_,_,rfl,?_⟩
  have hlcf:lc≠lf:=bW hlc1 hlf
  refine⟨_,rfl,lc,_,rfl,SqL.of (s2 _ _ hlc1),?_⟩
  refine jI (S:=fun H xs=>SqL K H lc xs) (xs:=ps.map V.ref) (fun j σ H'=>(∃o4 o5 o6,σ=[some (.ref a),some (.ref n),some (.ref lc),some (.ref lf),o4,o5,o6])/\Same H1 H'/\∃qs,H' lf=some (.lst ((qs:List Addr).map V.ref))/\StAt H' qs (lawF AA ns j)) ⟨⟨_,_,_,rfl⟩,s2,[],by rw [aJ];rfl,.nil⟩ (fun j σ H' _ h=>SqL.of (h.2.1 _ _ hlc1)) ?_ ?_
  ·rintro j x pp σ H' hx ⟨⟨o4,o5,o6,rfl⟩,hs,qs,hf,hS⟩ hpp
   obtain⟨b,hb,rfl⟩:=lU hx
   obtain⟨c,hc,he⟩:=hP.at hb
   have hj:j<AA.length:=(zjW.mp hc).1
   have ec:AA.getD j (0,0)=c:=by rw [gdA hj];exact(zjW.mp hc).2
   have sp:=aV (o:=.tup [.int j,.ref b]) hpp
   refine⟨pp,_,rfl,SqT.of aJ,rfl,_,_,rfl,_,_,rfl,rfl,?_⟩
   refine⟨_,rfl,(j:Int),rfl,by omega,by omega,?_⟩
   have e0:((j:Int)).toNat=j:=by omega
   refine lB (lo:=0) (n:=((j:Int)).toNat) (fun i σ H2=>(∃o6,σ=[some (.ref a),some (.ref n),some (.ref lc),some (.ref lf),some (.int j),some (.ref b),o6])/\Same H1 H2/\∃qs,H2 lf=some (.lst ((qs:List Addr).map V.ref))/\StAt H2 qs (lawF AA ns j++fS AA ns j i)) ⟨⟨_,rfl⟩,hs.trans sp,qs,sp _ _ hf,by rw [show fS AA ns j 0=[]from rfl,append_nil];exact hS.same sp⟩ ?_ ?_
   ·rintro i σ H2 hi ⟨⟨o6',rfl⟩,hs2,qs2,hf2,hS2⟩
    have hi':i<AA.length:=by omega
    have hib:i<ps.length:=by omega
    obtain⟨d,hd,hde⟩:=hP.at (getElem?_eq_getElem hib)
    have edd:AA.getD i (0,0)=d:=by rw [gdA hi'];exact(zjW.mp hd).2
    have z0:(0+(i:Int))=(i:Int):=by omega
    have n1:atI (ns.map V.int) (j:Int)=some (.int (ns.getD j 0)):=bL (by rw [getElem?_map,getElem?_eq_getElem (by omega),gdA (by omega)];rfl)
    have n2:atI (ns.map V.int) (i:Int)=some (.int (ns.getD i 0)):=bL (by rw [getElem?_map,getElem?_eq_getElem (by omega),gdA (by omega)];rfl)
    have hn2:=hs2 _ _ (s1 _ _ hn)
    have p2:atI (ps.map V.ref) (i:Int)=some (.ref ps[i]):=bL (by rw [getElem?_map,getElem?_eq_getElem hib];rfl)
    have hq2:qs2.length<=1000:=by
     have h1:qs2.length=_:=Paired.length hS2
     rw [length_append]at h1
     have h2:=xA AA ns j
     have h3:=yQ AA ns j i
     have h4:j*j<=10*10:=Nat.mul_le_mul (by omega) (by omega)
     omega
    show rA _ _ _ _ [some (.ref a),some (.ref n),some (.ref lc),some (.ref lf),some (.int j),some (.ref b),some (.int (0+(i:Int)))] H2
    rw [z0]
    rw [yL,ec,edd]
    refine⟨_,rfl,_,rfl,_,rfl,lc,_,_,_,rfl,rfl,SqL.of (hs2 _ _ hlc1),p2,b,ps[i],c,d,rfl,hs2 _ _ he,hs2 _ _ hde,_,rfl,?_⟩
    cases hnx:fV c d with
    |false=>
     refine cO (cO ⟨⟨_,rfl⟩,hs2,qs2,hf2,?_⟩)
     rw [Bool.false_and,if_neg (by decide),append_nil];exact hS2
    |true=>
     refine cN ?_
     refine⟨_,rfl,_,rfl,n,_,_,_,rfl,rfl,SqT.of hn2,n1,_,rfl,_,rfl,n,_,_,_,rfl,rfl,SqT.of hn2,n2,rfl,_,rfl,?_⟩
     rw [Bool.true_and]
     by_cases hne:ns.getD j 0=ns.getD i 0
     ·rw [zjV (show V.int (ns.getD j 0)=V.int (ns.getD i 0) by rw [hne])]
      refine cO ⟨⟨_,rfl⟩,hs2,qs2,hf2,?_⟩
      rw [zjV hne,if_neg (by decide),append_nil];exact hS2
     ·rw [zjU (show¬V.int (ns.getD j 0)=V.int (ns.getD i 0)from fun e=>hne (V.int.inj e))]
      refine cN ?_
      refine⟨_,rfl,.inl ⟨rfl,_,SqL.of hf2⟩,_,rfl,_,rfl,lc,_,_,_,rfl,rfl,SqL.of (hs2 _ _ hlc1),p2,_,rfl,by show 2<=sizeLine;decide,fun t ht=> ?_⟩
      have s5:=aV (o:=.tup [.ref ps[i],.ref b]) ht
      have hf5:=s5 _ _ hf2
      refine⟨lf,_,_,rfl,rfl,hf5,eI (by rw [length_map];omega),⟨_,rfl⟩,fun b' u e=> ?_,qs2++[t],?_,?_⟩
      ·rw [aQ (bW e hlf)];exact s5 _ _ (hs2 _ _ e)
      ·rw [aJ,map_append];rfl
      ·rw [zjU hne,if_pos (by decide),←append_assoc]
       have hst:StA (upd H2 t (.tup [.ref ps[i],.ref b])) t (d,c):=⟨ps[i],b,aJ,s5 _ _ (hs2 _ _ hde),s5 _ _ (hs2 _ _ he)⟩
       exact((hS2.same s5).put hf5).snoc (hst.put hf5)
   ·rintro σ H2 ⟨⟨o6',rfl⟩,hs2,qs2,hf2,hS2⟩
    rw [e0]at hS2
    exact⟨⟨_,_,_,rfl⟩,hs2,qs2,hf2,by rw [sE];exact hS2⟩
  ·rintro σ H' ⟨⟨o4,o5,o6,rfl⟩,hs,qs,hf,hS⟩
   rw [length_map,hpl]at hS
   refine⟨_,rfl,?_⟩
   have h40:(lawF AA ns AA.length).length<=40:=by
    rw [(wH hup hl).length_eq]
    unfold bY
    have h1:=length_filter_le (fun s:aY=> !decide (cI AA ns s.1=cI AA ns s.2)) (dH AA)
    have h2:=lZ AA AA
    unfold dH at h1⊢
    omega
   refine A6o hf hS h40 fun l9 qs' ss' H9 h9 s9 hl9 hS9 so=> ?_
   have e9:ss'=bY AA ns:=A8w hup hl so.1 so.2
   rw [e9]at hS9
   exact q l9 qs' H9 ((s1.trans hs).free h9) ((s1.trans hs).trans s9) hl9 hS9
end
end M46
namespace L2
open PySem PyProof.Rows Wlk
theorem zD {J:It}{S:Hp->Prop}{l:Addr}{bs:List Addr}{cl:List aY}{tt:TT}{H0:Hp}{rest:St}{Q:St->Hp->Prop}(p:aY->Bool)(W:Wk J (bs.map V.ref) S)(hS:∀H',Same H0 H'->S H')(hC:StAt H0 bs cl)(hl:H0 l=none)(hz:bs.length<=1000)
  (tst:∀b c H' Q',StA H' b c->Same H0 H'->(∀H2,Same H' H2->Q' (p c) H2)->tt (some (.ref b)::rest) H' Q')
  (hQ:∀σ H' bs',Same H0 H'->H' l=some (.lst ((bs':List Addr).map V.ref))->StAt H' bs' (cl.filter p)->Q σ H'):
  dZ J (dW 0) (dR tt (eY l (eL 0))) (eC Q) (none::rest) (upd H0 l (.lst [])):=by
 have hlen:bs.length=cl.length:=Paired.length hC
 refine W (fun i σ H'=>(∃x,σ=x::rest)/\Same H0 H'/\∃bs':List Addr,H' l=some (.lst (bs'.map V.ref))/\StAt H' bs' ((cl.take i).filter p)) ⟨⟨_,rfl⟩,aV hl,[],by rw [aJ];rfl,.nil⟩ (fun i σ H' _ h=>hS _ h.2.1) ?_ ?_
 ·rintro i x σ H' hx ⟨⟨x0,rfl⟩,hs,bs',hl',hP⟩
  rw [getElem?_map]at hx
  cases hb:bs[i]? with
  |none=>rw [hb]at hx;cases hx
  |some b=>
   rw [hb]at hx;cases hx
   obtain⟨c,hc,he⟩:=hC.at hb
   have hi:i<bs.length:=(zjW.mp hb).1
   have et:(cl.take (i+1)).filter p=(cl.take i).filter p++(if p c=true then [c]else []):=by
    rw [take_succ,hc,filter_append]
    congr 1
    by_cases z:p c=true
    ·simp [z]
    ·simp [z]
   have hfl:=length_filter_le p (cl.take i)
   rw [length_take]at hfl
   have hbl:bs'.length=_:=Paired.length hP
   refine tst b c H' _ (he.same hs) hs fun H2 h2=> ?_
   have hl2:=h2 _ _ hl'
   refine cH (fun hz'=> ?_) fun hz'=> ?_
   ·refine⟨_,rfl,_,hl2,eI (by rw [length_map];omega),⟨_,rfl⟩,fun b2 u e=> ?_,bs'++[b],?_,?_⟩
    ·rw [aQ (bW e hl)];exact h2 _ _ (hs _ _ e)
    ·rw [aJ,map_append];rfl
    ·rw [et,if_pos hz']
     exact((hP.same h2).put hl2).snoc (((he.same hs).same h2).put hl2)
   ·refine⟨⟨_,rfl⟩,hs.trans h2,bs',hl2,?_⟩
    rw [et,if_neg (by rw [hz'];decide),append_nil]
    exact hP.same h2
 ·rintro σ H' ⟨_,hs,bs',hl',hP⟩
  rw [length_map,hlen,take_of_length_le (zjQ _)]at hP
  exact hQ σ H' bs' hs hl' hP
end L2
namespace Wlk
open PySem PyProof.Rows Srt Cyc Grd L2
def gU (F1 F2:List aY):Nat:=(F1.filter fun s=> !decide (s∈F2)).length+(F2.filter fun s=> !decide (s∈F1)).length
theorem xV (l:List aY)(x:aY):(l.map fun c=>decide (c=x)).any id=decide (x∈l):=by
 rw [Bool.eq_iff_iff,any_map]
 simp
end Wlk
namespace M46
open PySem L2 PyProof.Rows Grd Wlk Cyc Srt
abbrev lX:Stmt:=top 40
abbrev oG:Stmt:=top 38
def pG:Sp:=fun vs H Q _=> ∃a n m g w ns ms,vs=[.ref a,.ref n,.ref m]/\GridAt H a g/\dX g w/\H n=some (.tup ((ns:List Int).map V.int))/\ns.length=(bC pos g).length/\H m=some (.tup ((ms:List Int).map V.int))/\ms.length=(bC pos g).length/\
 ∀H',Same H H'->Q (.int (gU (bY (bC pos g) ns) (bY (bC pos g) ms):Nat)) H'
section
variable {P:Program}{w:World}{K:W.Frag}{mg:Str->Option Value}{base:Heap}
abbrev nMv:List Str:=["_law_mead_here","_law_one","_law_other","_law_mine","_law_theirs","_law_gone"]
theorem scMv:bV nMv ["_law_mead_here","_law_one","_law_other"] (aK lX):=by ac_rfl
theorem A89:(["_law_fence","_law_theirs"]:List Str).Nodup:=by decide +kernel
theorem zY:(["_law_fence","_law_mine"]:List Str).Nodup:=by decide +kernel
theorem A9y {A:Around}{k:Nat}(hr:Room k A):A.units+2+1<cLine:=lt_of_le_of_lt (add_le_add_left (by decide:3<=64) _) hr.units
theorem kM (A:List Pl)(ns:List Int)(h:A.length<=10):(bY A ns).length<=40:=by
 unfold bY
 have h1:=length_filter_le (fun s:aY=> !decide (cI A ns s.1=cI A ns s.2)) (dH A)
 have h2:=lZ A A
 unfold dH at h1⊢
 omega
theorem A1u {f g1:Addr}{fd d1:FuncData}(F:Fun K "_law_moved" "_law_moved" lX f fd)(T:Txt mg)(a1:At P w K mg base CX0 2 "_law_fences" g1 d1 ["_law_mead_here","_law_numbers"] lO):FnOk P w K mg base CX0 3 f fd ["_law_mead_here","_law_one","_law_other"] pG:=by
 refine F.ok scMv (fun vs H Q E h=> ?_) (fun cdv A outer s H vs Q E hr h=> ?_)
 ·obtain⟨a,n,m,g,w',ns,ms,rfl,_⟩:=h;rfl
 ·obtain⟨a,n,m,g,w',ns,ms,rfl,hA,G,hn,hnl,hm,hml,q⟩:=h
  have nd:=scMv.nd
  have hu:=A9y hr
  have h10:(bC pos g).length<=10:=by rw [gH];exact G.c10
  have k1:=kM (bC pos g) ns h10
  have k2:=kM (bC pos g) ms h10
  refine⟨_,aU (iQ (cZ (cC (aX a1.ok hr rfl a1.nm a1.kp a1.bd .nil bA (aE (pv 0) (aE (pv 1) aA))) (cC (aX a1.ok hr rfl a1.nm a1.kp a1.bd .nil bA (aE (pv 0) (aE (pv 2) aA))) aA))) (eQ rfl (cB (bE (i:=3) nd rfl (Or.inr rfl)) (cB (bE (i:=4) nd rfl (Or.inr rfl)) eP))))<|
   aU (sG (i:=5) (aK lX).names nMv ["_law_fence"] [("_law_theirs",4)] rfl nd rfl rfl (jK (pv 3)) rfl rfl rfl (by decide +kernel)
    (fun Z=>bE (i:=0) A89 rfl (Or.inl rfl)) (fun Z=>jL (bN (vI 2 hu) (pv 0) (pv 1) rfl)) (fun Z=>pv 0))<|
   aW (bB (bF eU (bI eN rfl T.len PySem.boot_len (aE (pv 5) aA)) (bI eN rfl T.len PySem.boot_len (mJ (gY (aK lX).names nMv ["_law_fence"] [("_law_mine",3)] rfl (jK (pv 4)) rfl rfl rfl (by decide +kernel)
    (fun Z=>bE (i:=0) zY rfl (Or.inl rfl)) (fun Z=>jL (bN (vI 2 hu) (pv 0) (pv 1) rfl)) (fun Z=>pv 0)) aA)))),?_⟩
  refine⟨_,rfl,_,rfl,a,n,g,w',ns,rfl,hA,G,hn,hnl,fun l1 q1 H1 f1 s1 e1 S1=> ?_⟩
  refine⟨_,rfl,_,rfl,a,m,g,w',ms,rfl,hA.same s1,G,s1 _ _ hm,hml,fun l2 q2 H2 f2 s2 e2 S2=> ?_⟩
  refine⟨by show 2<=sizeLine;decide,fun t ht=> ?_⟩
  have s3:=aV (o:=.tup [.ref l1,.ref l2]) ht
  refine⟨t,_,rfl,SqT.of aJ,rfl,_,_,rfl,_,_,rfl,rfl,?_⟩
  have e1':=s3 _ _ (s2 _ _ e1)
  have e2':=s3 _ _ e2
  have S1':=(S1.same s2).same s3
  have S2':=S2.same s3
  have sA:=(s1.trans s2).trans s3
  generalize upd H2 t (.tup [.ref l1,.ref l2])=H3 at e1' e2' S1' S2' sA
  have z1:q1.length=_:=Paired.length S1'
  have z2:q2.length=_:=Paired.length S2'
  refine⟨_,rfl,l1,rfl,⟨_,SqL.of e1'⟩,fun Z lg hlg=> ?_⟩
  refine zD (rest:=[some (.ref l2)]) (fun s=> !decide (s∈bY (bC pos g) ms)) uW (fun H' hs=>SqL.of (hs _ _ e1')) S1' hlg (by omega) (fun b c H' Q' he hs hq=> ?_) fun σ H4 qs4 s4 e4 S4=> ?_
  ·refine⟨_,rfl,_,rfl,l2,_,_,rfl,.inr (hs _ _ e2'),pQ he (S2'.same hs),_,rfl,?_⟩
   rw [xV]
   exact hq _ (Same.refl _)
  have e2'':=s4 _ _ e2'
  have S2'':=S2'.same s4
  have e1'':=s4 _ _ e1'
  have S1'':=S1'.same s4
  refine⟨_,rfl,lg,_,rfl,.inl (SqL.of e4),?_⟩
  refine⟨_,rfl,l2,rfl,⟨_,SqL.of e2''⟩,fun Z2 lh hlh=> ?_⟩
  refine zD (rest:=[some (.ref l1)]) (fun s=> !decide (s∈bY (bC pos g) ns)) uW (fun H' hs=>SqL.of (hs _ _ e2'')) S2'' hlh (by omega) (fun b c H' Q' he hs hq=> ?_) fun σ H5 qs5 s5 e5 S5=> ?_
  ·refine⟨_,rfl,_,rfl,l1,_,_,rfl,.inr (hs _ _ e1''),pQ he (S1''.same hs),_,rfl,?_⟩
   rw [xV]
   exact hq _ (Same.refl _)
  refine⟨lh,_,rfl,.inl (SqL.of e5),_,_,rfl,rfl,?_⟩
  have y1:qs4.length=_:=Paired.length S4
  have y2:qs5.length=_:=Paired.length S5
  have:=q H5 ((sA.trans s4).trans s5)
  unfold gU at this
  rw [length_map,length_map,y1,y2]
  rw [Int.natCast_add]at this
  exact this
end
end M46
namespace L2
open PySem PyProof.Rows
theorem Stp.updO {p d:Addr}{H H1:Hp}{o:HO}(s:Stp p H H1)(hd:H d=none)(hp:PenAt H p):Stp p H (upd H1 d o):=by
 obtain⟨x,f,e⟩:=hp
 have hne:p≠d:=bW e hd
 obtain⟨x',f',e'⟩:=s.pen
 exact⟨⟨x',f',by rw [aQ hne];exact e'⟩,fun b o hb h=>by rw [aQ (bW h hd)];exact s.keep b o hb h⟩
theorem PenAt.fresh {p l:Addr}{H:Hp}(h:PenAt H p)(hl:H l=none):l≠p:=fun z=>by
 obtain⟨x,f,e⟩:=h
 rw [z,e]at hl;cases hl
end L2
namespace M46
open PySem L2 PyProof.Rows Grd Wlk Cyc Srt
def sC:Sp:=fun vs H Q _=> ∃p a g w,vs=[.ref p,.ref a]/\PenAt H p/\GridAt H a g/\dX g w/\∀d n ns H',Stp p H H'->H' d=some (.tup [.ref a,.ref n])->H' n=some (.tup ((ns:List Int).map V.int))->ns.length=(bC pos g).length->(∀x∈ns,0<=x/\x<=3)->Q (.ref d) H'
section
variable {P:Program}{w:World}{K:W.Frag}{mg:Str->Option Value}{base:Heap}
abbrev wQ:List Str:=["_law_pen_here","_law_mead_here","_law_many"]
theorem scDeL:bV wQ ["_law_pen_here","_law_mead_here"] (aK oG):=by ac_rfl
theorem A0o:(["_law_cell_here","_law_pen_here","_law_many"]:List Str).Nodup:=by decide +kernel
theorem A29 {f g1 g2:Addr}{fd d1 d2:FuncData}(F:Fun K "_law_dealt" "_law_dealt" oG f fd)(T:Txt mg)(a1:At P w K mg base CX0 1 "_law_draw" g1 d1 ["_law_pen_here","_law_many"] iA)(a2:At P w K mg base CX0 1 "_law_cells" g2 d2 ["_law_mead_here"] (gE pos)):FnOk P w K mg base CX0 2 f fd ["_law_pen_here","_law_mead_here"] sC:=by
 refine F.ok scDeL (fun vs H Q E h=> ?_) (fun cdv A outer s H vs Q E hr h=> ?_)
 ·obtain⟨p,a,g,w',rfl,_⟩:=h;rfl
 ·obtain⟨p,a,g,w',rfl,hp,hA,G,q⟩:=h
  have nd:=scDeL.nd
  have h10:(bC pos g).length<=10:=by rw [gH];exact G.c10
  refine⟨_,aU (cJ (i:=2) nd rfl (Or.inr rfl) (bF eU aH (aX a1.ok hr rfl a1.nm a1.kp a1.bd .nil bA (aE (pv 0) (bU aH aA)))))<|
   aW (bB (cZ (aE (pv 1) (cC (fW nZ rfl T.tuple boot_tuple (mJ (gY (aK oG).names wQ ["_law_cell_here"] [("_law_pen_here",0),("_law_many",2)] rfl (jK (aX a2.ok hr rfl a2.nm a2.kp a2.bd .nil bA (aE (pv 1) aA))) rfl rfl rfl (by decide +kernel)
    (fun Z=>bE (i:=0) A0o rfl (Or.inl rfl)) (fun Z=>fR) (fun Z=>aX a1.ok hr rfl a1.nm a1.kp a1.bd .nil bA (aE (pv 1) (aE (pv 2) aA)))) aA)) aA)))),?_⟩
  refine⟨_,rfl,p,4,rfl,hp,by decide,by decide,fun m H1 m0 m4 st1=> ?_⟩
  refine⟨_,_,rfl,rfl,?_⟩
  have hA1:=hA.ext (st1.ext hp)
  refine⟨_,rfl,_,rfl,a,g,w',rfl,hA1,G,fun H2 lc ps hlc s2 hlc2 hP=> ?_⟩
  have st2:=st1.same s2
  have hpl:ps.length=(bC pos g).length:=Paired.length hP
  have hlp:lc≠p:=st1.pen.fresh hlc
  refine⟨lc,rfl,⟨_,SqL.of hlc2⟩,fun Z r hr'=> ?_⟩
  have hrp:=st2.pen.fresh hr'
  refine jX (K:=K) (a:=lc) (xs:=ps.map V.ref) (fun i σ H'=>(∃o,σ=[o,some (.ref p),some (.int (1+m))])/\Stp p H2 H'/\∃ns:List Int,H' r=some (.lst (ns.map V.int))/\ns.length=i/\∀x∈ns,0<=x/\x<=3)
   ⟨⟨none,rfl⟩,(Stp.refl st2.pen).updO hr' st2.pen,[],aJ,rfl,fun x h=>by cases h⟩ (fun i σ H' _ h=>SqL.of (h.2.1.keep lc _ hlp hlc2)) ?_ ?_
  ·rintro i x σ H' hx ⟨⟨o,rfl⟩,st,ns,hl',hn,hv⟩
   have hi:i<ps.length:=by
    have:=(zjW.mp hx).1
    rwa [length_map]at this
   refine nK ?_
   refine⟨_,rfl,_,rfl,p,1+m,rfl,st.pen,by omega,by omega,fun d H3 d0 d1 st3=> ?_⟩
   have hl3:=st3.keep r _ hrp hl'
   refine⟨_,hl3,eI (by rw [length_map];omega),⟨_,rfl⟩,(st.trans st3).updO hr' st2.pen,ns++[d],?_,by rw [length_append,hn];rfl,fun y hy=> ?_⟩
   ·rw [aJ,map_append];rfl
   ·rcases mem_append.mp hy with h|h
    ·exact hv y h
    ·rw [mem_singleton.mp h];omega
  ·rintro σ H' ⟨⟨o,rfl⟩,st,ns,hl',hn,hv⟩
   rw [length_map]at hn
   refine⟨r,_,rfl,.inl ⟨SqL.of hl',fun n hn'=> ?_⟩⟩
   have s5:=aV (o:=.tup (ns.map V.int)) hn'
   refine⟨by show 2<=sizeLine;decide,fun d hd=> ?_⟩
   have s6:=aV (o:=.tup [.ref a,.ref n]) hd
   exact q d n ns _ (((st2.trans st).same s5).same s6) aJ (s6 _ _ aJ) (by omega) hv
end
theorem vA {H:Hp}{n:Nat}:∀xs ys:List Int,xs.length=ys.length->∃ks,E3 (EqD H n) (xs.map V.int) (ys.map V.int) ks/\ks.all id=decide (xs=ys)
 | [],[],_=> ⟨[],trivial,rfl⟩
 |x::xs,y::ys,h=>by
  obtain⟨ks,h1,h2⟩:=vA (H:=H) (n:=n) xs ys (by simpa using h)
  refine⟨decide (x=y)::ks,⟨EqD.int _ _ _,h1⟩,?_⟩
  rw [all_cons,h2]
  by_cases e:x=y
  ·simp [e]
  ·simp [e]
 | [],y::ys,h=>by simp at h
 |x::xs,[],h=>by simp at h
theorem yI {H:Hp}:∀{bs cs:List Addr}{g k:bG},RowsG H bs g->RowsG H cs k->g.map List.length=k.map List.length->∃ks,E3 (EqD H 1) (bs.map V.ref) (cs.map V.ref) ks/\ks.all id=decide (g=k)
 | [],[],[],[],.nil,.nil,_=> ⟨[],trivial,rfl⟩
 |b::bs,c::cs,x::g,y::k,.cons r1 t1,.cons r2 t2,h=>by
  rw [map_cons,map_cons]at h
  injection h with hh ht
  obtain⟨ks,h1,h2⟩:=yI t1 t2 ht
  obtain⟨js,j1,j2⟩:=vA (H:=H) (n:=0) x y hh
  refine⟨js.all id::ks,⟨.inr ⟨b,c,_,_,js,rfl,rfl,.inl ⟨r1,r2⟩,j1,rfl⟩,h1⟩,?_⟩
  rw [all_cons,h2]
  show(js.all id&&_)=_
  rw [j2]
  by_cases e:x=y
  ·simp [e]
  ·simp [e]
 | [],_::_,[],_::_,.nil,.cons _ _,h=>by simp at h
 |_::_,[],_::_,[],.cons _ _,.nil,h=>by simp at h
def tQ (C:Addr):Sp:=fun vs H Q E=> ∃a g w u,vs=[.ref a,u]/\GridAt H a g/\dX g w/\Kn H 4 u/\(dealtV H u=false->∀H',Same H H'->E (.ref C) none H')/\
 (dealtV H u=true->∀p k w ns,u= .ref p->DlA H p k w ns->k.map List.length=g.map List.length/\(k=g->∀H',Same H H'->Q .non H')/\(k≠g->∀H',Same H H'->E (.ref C) none H'))
section
variable {P:Program}{w:World}{K:W.Frag}{mg:Str->Option Value}{base:Heap}
theorem A8n:bV ["mead","dealt"] ["mead","dealt"] (aK sQ):=by ac_rfl
theorem A6l {f g1 C:Addr}{fd d1:FuncData}(F:Fun K "check_dealt_of" "check_dealt_of" sQ f fd)(a1:At P w K mg base (CX1 P w) 8 "check_dealt" g1 d1 ["dealt"] (nH C))(mC:mg "NoDealt" =some (.ref C))(c:ExcC K C):FnOk P w K mg base (CX1 P w) 9 f fd ["mead","dealt"] (tQ C):=by
 refine F.okX A8n (fun vs H Q E h=> ?_) (fun cdv A outer s H vs Q E hr h=> ?_)
 ·obtain⟨a,g,w',u,rfl,_⟩:=h;rfl
 ·obtain⟨a,g,w',u,rfl,hA,G,ku,qE,qQ⟩:=h
  refine⟨_,aU (gO (aX a1.ok hr rfl a1.nm a1.kp a1.bd .nil kX (aE (pv 1) aA)))<|
   aW (bQ (bN (A72 1 (yK hr)) (bM cY (pv 1) aH (fun _ _=>rfl)) (pv 0) (nomark _)) (aW (wK (E:=E) rfl rfl rfl rfl rfl rfl mC c)) bO),?_⟩
  refine⟨_,rfl,u,rfl,ku,fun hv H1 s1=> ?_,fun hv H1 s1=>qE hv H1 s1⟩
  obtain⟨p,k,wk,ns,rfl,D⟩:=nF hv
  obtain⟨hsh,q1,q2⟩:=qQ hv p k wk ns rfl D
  obtain⟨a',n,hp,⟨cs,ha',hk⟩,hn⟩:=D.ex
  obtain⟨bs,ha,hG⟩:=hA
  obtain⟨ks,hE,hk2⟩:=yI (H:=H1) (Paired.mapP hk fun _ _ e=>s1 _ _ e) (Paired.mapP hG fun _ _ e=>s1 _ _ e) hsh
  refine⟨_,rfl,p,_,0,.ref a',rfl,rfl,SqT.of (s1 _ _ hp),bL (j:=0) rfl,_,rfl,a',a,_,_,ks,rfl,rfl,.inl ⟨s1 _ _ ha',s1 _ _ ha⟩,hE,_,rfl,?_⟩
  rw [hk2]
  by_cases e:k=g
  ·rw [zjV e]
   exact cO (q1 e H1 s1)
  ·rw [zjU e]
   exact cN (q2 e H1 s1)
end
end M46
namespace L2
open PySem PySem.Spec PyProof.Rows
structure M2 (X:Cx)(o:Expr)(m:Str)(apos:Pos)(e f:Expr)(cpos:Pos):Prop where
 base:attributeBase o m X.env (eval o X.env)=eval o X.env
 few:((backTo cpos (starEach [e,f] X.env)).all (fun x=> !x.1)&&(backToKw cpos (keywordEach [] X.env)).all (fun x=>x.1.isSome)
  &&decide (([e,f]:List Expr).length+([]:List Keyword).length+(if ([]:List Keyword).isEmpty then 0 else 1)<30))=true
 line:(apos.endLine==cpos.line)=true
 trees:backTo cpos (starEach [e,f] X.env)=[(false,eval e X.env),(false,eval f X.env)]
def IsD (H:Hp)(a:Addr):Prop:=(∃kvs,Rd H a (.dK kvs))\/ ∃kvs,Rd H a (.dT kvs)
theorem A43 {X:Cx}{pins:List (Addr×Obj)}{σ:St}{H:Hp}{s:Shared}{a:Addr}(I:Inv X pins σ H s)(d:IsD H a):
  s.TypeIs (.ref a) "dict"/\(∀b,Value.ref a= .ref b->∃ob,s.heap.get? b=some ob/\ob.dict=none)/\(a==sysModules)=false:=by
 rcases d with⟨kvs,e⟩| ⟨kvs,e⟩
 ·obtain⟨_,hd,vs,_,dd⟩:=lT I.hok e
  refine⟨dd.typeIs,fun b q=> ?_,hd⟩
  cases q
  obtain⟨ob,_,_,h1,h2,_⟩:=dd
  exact⟨ob,h1,h2.2.1⟩
 ·obtain⟨_,hd,xs,_,dd⟩:=mO I.hok e
  refine⟨dd.typeIs,fun b q=> ?_,hd⟩
  cases q
  obtain⟨ob,_,_,h1,h2,_⟩:=dd
  exact⟨ob,h1,h2.2.1⟩
section
variable {X:Cx}{pins:List (Addr×Obj)}{σ:St}{H:Hp}{s:Shared}{a:Addr}{y d:V}{u r:Value}{o:Option V}{A:Around}{E:Value->Shared->Prop}
theorem A68 {Q:Value->Shared->Prop}(hu:A.units+1<cLine)(I:Inv X pins σ H s)(g:DGet H a y o)(ry:RelV y u)(rd:RelV d r)(h:∀w' s',Inv X pins σ H s'->RelV (o.getD d) w'->Q w' s'):
  wpAny (model X.prog X.w) A (call (.builtin "dict.get") [.ref a,u,r]) Q E s:=by
 rcases g with⟨kvs,k,e,ey,l⟩| ⟨kvs,k,b,e,ey,eb,l⟩
 ·subst ey
  obtain⟨z,hd,vs,rel,dd⟩:=lT I.hok e
  refine call_meetsIn PySem.F.slot_dict_get dd.typeIs PySem.F.entry_dict_get (PySem.F.args_dict_get_3 _ _ _) (meets_dict_get_default (eB X.prog X.w) a (pA ry) hd r) ⟨_,dd.mapOf,h _ _ (I.tok _) ?_⟩
  rw [l]
  exact(rel.val k).getD rd
 ·subst ey
  cases (show u=Value.ref b from ry)
  obtain⟨z,hd,xs,rel,dd⟩:=mO I.hok e
  refine call_meetsIn PySem.F.slot_dict_get dd.typeIs PySem.F.entry_dict_get (PySem.F.args_dict_get_3 _ _ _) (meetsH_dict_get_default (tupleKind (eB X.prog X.w)) a b hd r) ⟨tupleKind_room_in1 hu,k,xs,oR I.hok eb,dd,h _ _ (I.tok _) ?_⟩
  rw [l]
  exact(rel.val k).getD rd
end
def A1x (td ty tx:TE):TE:=fun σ H Q=>td σ H fun x H1=> ∃a,x= .ref a/\IsD H1 a/\ty σ H1 fun y H2=>tx σ H2 fun z H3=> ∃o,DGet H3 a y o/\Q (o.getD z) H3
section
variable {X:Cx}{o e f:Expr}{apos cpos:Pos}{td ty tx:TE}
theorem A4k (hu:X.A.units+1<cLine)(ho:PE X o td)(he:PE X e ty)(hf:PE X f tx)(m:M2 X o "get" apos e f cpos):PE X (.Call (.Attribute o "get" apos) [e,f] [] cpos) (A1x td ty tx):=by
 intro pins s σ H Q I h
 refine wpAny_Call_method m.base m.few m.line PySem.F.plainAttrs_dict PySem.F.slot_dict_get PySem.F.type_dict_get (thn (ho pins s σ H _ I h) fun u s1 ⟨x,H1,I1,rx,a,ex,d,q1⟩=> ?_)
 subst ex
 obtain rfl:u=Value.ref a:=rx
 obtain⟨t1,t2,_⟩:=A43 I1 d
 refine⟨t1,t2,?_⟩
 rw [m.trees]
 refine Calls.callWith_builtin rfl (Calls.evalArgs_plain (Calls.spliced_cons (thn (he pins s1 σ H1 _ I1 q1) fun iv s2 ⟨y,H2,I2,ry,q2⟩=>
  Calls.spliced_cons (thn (hf pins s2 σ H2 _ I2 q2) fun fv s3 ⟨z,H3,I3,rz,ov,g,q3⟩=>Calls.spliced_nil ?_))))
 exact A68 hu I3 g ry rz fun w' s4 I4 rw'=> ⟨_,H3,I4,rw',q3⟩
end
end L2
namespace M46
open PySem L2 PyProof.Rows Grd Wlk Cyc Srt
abbrev oM:Stmt:=top 45
def fO (x:Int):Int:=if x= -1 then -2 else if x= -2 then -1 else if x<99 then x+1 else 98
def jD:bG->bG| (x::r)::g=>(fO x::r)::g|g=>g
def qN:Sp:=fun vs H Q _=> ∃a g w,vs=[.ref a]/\GridAt H a g/\dX g w/\∀b H',Same H H'->GridAt H' b (jD g)->Q (.ref b) H'
section
variable {P:Program}{w:World}{K:W.Frag}{mg:Str->Option Value}{base:Heap}
abbrev nOt:List Str:=["_law_mead_here","_law_row","_law_number"]
theorem scOt:bV nOt ["_law_mead_here"] (aK oM):=by ac_rfl
theorem A0k {f:Addr}{fd:FuncData}(F:Fun K "_law_other_mead" "_law_other_mead" oM f fd):FnOk P w K mg base CX0 1 f fd ["_law_mead_here"] qN:=by
 refine F.ok scOt (fun vs H Q E h=> ?_) (fun cdv A outer s H vs Q E hr h=> ?_)
 ·obtain⟨a,g,w',rfl,_⟩:=h;rfl
 ·obtain⟨a,g,w',rfl,⟨bs,ha,hG⟩,G,q⟩:=h
  have nd:=scOt.nd
  have hu:(A.deeper (envOfC "_law_other_mead" (aK oM) s.heap.objs.size f cdv)).units+1<cLine:=lI hr
  refine⟨_,aU (cJ (i:=1) nd rfl (Or.inl rfl) (bM cY (pv 0) aH (fun _ _=>rfl)))<|
   aU (cJ (i:=2) nd rfl (Or.inl rfl) (A4k hu (A6u (zI (iG hZ aH) (iG hZ aH) (zI (iG hZ aH) (iG hZ aH) A08)) rfl rfl (by simp) (by simp)) (bM cY (pv 1) aH (fun _ _=>rfl))
    (oU (bN lE (bM cY (pv 1) aH (fun _ _=>rfl)) aH (nomark _)) (bF eU (bM cY (pv 1) aH (fun _ _=>rfl)) aH) aH) ⟨rfl,rfl,rfl,rfl⟩))<|
   aW (bB (bF iK (cZ (fN (bF iK (cZ (aE (pv 2) aA)) (iJ iV (pv 1) (iD aH) jH)) aA)) (iJ iV (pv 0) (iD aH) jH))),?_⟩
  have h1:=G.h1
  obtain⟨r0,g',rfl⟩:=exists_cons_of_ne_nil (show g≠[]from fun z=>by rw [z]at h1;simp at h1)
  have hw0:=G.len r0 zjR
  have hw1:=G.w1
  obtain⟨x,r,rfl⟩:=exists_cons_of_ne_nil (show r0≠[]from fun z=>by rw [z]at hw0;simp at hw0;omega)
  cases hG with
  | @cons b _ bs' _ hb hG'=>
  have h4:=G.h4
  have h6:=G.w5
  have hlb:bs'.length=g'.length:=Paired.length hG'
  rw [length_cons]at h4 hw0
  refine⟨_,rfl,a,_,0,.ref b,rfl,rfl,SqT.of ha,bL (j:=0) rfl,?_⟩
  intro pd hpd
  have sd:=aV (o:=.dK []) hpd
  refine⟨_,rfl,_,rfl,_,rfl,_,rfl,aJ,[(Sum.inl (-1),.int (-2)),(Sum.inl (-2),.int (-1))],rfl,by decide,?_⟩
  have em:kI [] [((Sum.inl (-1):Key),V.int (-2)),(Sum.inl (-2),.int (-1))]=([(Sum.inl (-1),V.int (-2)),(Sum.inl (-2),.int (-1))]:List (Key×V)):=rfl
  rw [em]
  have s2:Same H (upd (upd H pd (.dK [])) pd (.dK [(Sum.inl (-1),V.int (-2)),(Sum.inl (-2),.int (-1))])):=fun c u e=>by
   have:c≠pd:=bW e hpd
   rw [aQ this,aQ this];exact e
  have hD:(upd (upd H pd (.dK [])) pd (.dK [(Sum.inl (-1),V.int (-2)),(Sum.inl (-2),.int (-1))])) pd=some (.dK [(Sum.inl (-1),V.int (-2)),(Sum.inl (-2),.int (-1))]):=aJ
  generalize upd (upd H pd (.dK [])) pd (.dK [(Sum.inl (-1),V.int (-2)),(Sum.inl (-2),.int (-1))])=H2 at s2 hD⊢
  have hb2:=s2 _ _ hb
  refine⟨pd,rfl,.inl ⟨_,.inl hD⟩,?_⟩
  have rest:nG (tOp sY (jS (bZ (tOp sY (jS (bZ (eL 2) gZ)) (tSl sS (eL 1) (sD (tC (.int 1))) rM)) gZ)) (tSl sS (eL 0) (sD (tC (.int 1))) rM)) {nx:=fun _ H'=>Q .non H',rt:=Q} [some (.ref a),some (.ref b),some (.int (fO x))] H2:=by
   have ha2:=s2 _ _ ha
   refine⟨_,rfl,by show 1<=sizeLine;decide,fun t1 ht1=> ?_⟩
   have s3:=aV (o:=.tup [.int (fO x)]) ht1
   refine⟨_,rfl,_,rfl,b,_,rfl,s3 _ _ hb2,fun t2 H4 s4 e4=> ?_⟩
   have c1:eG (((x::r):List Int).map V.int) (some 1) none=r.map V.int:=by
    have e1:HT.sIx (((x::r):List Int).map V.int).length 0 (some 1)=min 1 (((x::r):List Int).map V.int).length:=HT.sIx_nat _ _ 1
    have e2:HT.sIx (((x::r):List Int).map V.int).length (((x::r):List Int).map V.int).length none=(((x::r):List Int).map V.int).length:=rfl
    unfold eG
    rw [e1,e2,length_map,length_cons,show min 1 (r.length+1)=1 by omega,take_of_length_le (by rw [length_drop,length_map,length_cons];omega)]
    rfl
   rw [c1]at e4
   refine⟨t1,t2,_,_,rfl,rfl,s4 _ _ aJ,e4,by rw [sizeLine_eq,length_map];show 1+r.length<=_;omega,fun t5 H5 s5 e5=> ?_⟩
   refine⟨by show 1<=sizeLine;decide,fun t6 ht6=> ?_⟩
   have s6:=aV (o:=.tup [.ref t5]) ht6
   have s26:=(((s3.trans s4).trans s5).trans s6)
   refine⟨_,rfl,_,rfl,a,_,rfl,s26 _ _ ha2,fun t7 H7 s7 e7=> ?_⟩
   have c2:eG ((b::bs').map V.ref) (some 1) none=bs'.map V.ref:=by
    have e1:HT.sIx ((b::bs').map V.ref).length 0 (some 1)=min 1 ((b::bs').map V.ref).length:=HT.sIx_nat _ _ 1
    have e2:HT.sIx ((b::bs').map V.ref).length ((b::bs').map V.ref).length none=((b::bs').map V.ref).length:=rfl
    unfold eG
    rw [e1,e2,length_map,length_cons,show min 1 (bs'.length+1)=1 by omega,take_of_length_le (by rw [length_drop,length_map,length_cons];omega)]
    rfl
   rw [c2]at e7
   refine⟨t6,t7,_,_,rfl,rfl,s7 _ _ aJ,e7,by rw [sizeLine_eq,length_map];show 1+bs'.length<=_;omega,fun t8 H8 s8 e8=> ?_⟩
   have sA:=((s2.trans s26).trans s7).trans s8
   refine q t8 H8 sA ⟨t5::bs',e8,.cons (s8 _ _ (s7 _ _ (s6 _ _ e5))) (Paired.mapP hG' fun _ _ e=>sA _ _ e)⟩
  refine⟨_,rfl,b,_,0,.int x,rfl,rfl,SqT.of hb2,bL (j:=0) rfl,?_⟩
  have fin:∀z:Int,z=(if x<99 then x+1 else 98)->∃o,DGet H2 pd (.int x) o/\(fun(v:V) (H3:Hp)=>v= .int (fO x)/\H3=H2) (o.getD (.int z)) H2:=fun z hz=>by
   refine⟨eE [(Sum.inl (-1),V.int (-2)),(Sum.inl (-2),.int (-1))] (Sum.inl x),.inl ⟨_,Sum.inl x,.inl hD,rfl,rfl⟩,?_,rfl⟩
   unfold fO eE
   by_cases e1:x= -1
   ·subst e1;rfl
   ·by_cases e2:x= -2
    ·subst e2;rfl
    ·rw [if_neg e1,if_neg e2,←hz]
     have f1:¬((Sum.inl (-1):Key)=Sum.inl x):=fun y=>e1 (Sum.inl.inj y).symm
     have f2:¬((Sum.inl (-2):Key)=Sum.inl x):=fun y=>e2 (Sum.inl.inj y).symm
     rw [List.find?_cons_of_neg (by simpa using f1),List.find?_cons_of_neg (by simpa using f2)]
     rfl
  refine⟨_,rfl,b,_,0,.int x,rfl,rfl,SqT.of hb2,bL (j:=0) rfl,_,_,rfl,rfl,_,rfl,dJ (fun lt=> ?_) fun ge=> ?_⟩
  ·refine⟨_,rfl,b,_,0,.int x,rfl,rfl,SqT.of hb2,bL (j:=0) rfl,_,_,rfl,rfl,?_⟩
   obtain⟨o,d,e,_⟩:=fin (x+1) (by rw [if_pos lt])
   refine⟨o,d,?_⟩
   rw [e]
   exact rest
  ·obtain⟨o,d,e,_⟩:=fin 98 (by rw [if_neg ge])
   refine⟨o,d,?_⟩
   rw [e]
   exact rest
end
end M46
namespace L2
open PySem PySem.Spec PyProof.Rows
theorem A9e {K:W.Frag}{a l:Addr}{xs:List V}{tt:TT}{H0:Hp}{rest:St}{Q:St->Hp->Prop}(p:V->Bool)(ha:H0 a=some (.tup xs))(hl:H0 l=none)(hz:xs.length<=1000)
  (test:∀x H' Q',x∈xs->Same H0 H'->(∀H2,Same H' H2->Q' (p x) H2)->tt (some x::rest) H' Q')(hQ:∀σ H',Same H0 H'->H' l=some (.lst (xs.filter p))->Q σ H'):
  dZ (Itt K a) (dW 0) (dR tt (eY l (eL 0))) (eC Q) (none::rest) (upd H0 l (.lst [])):=by
 have s0:Same H0 (upd H0 l (.lst [])):=aV hl
 refine nI (K:=K) (a:=a) (xs:=xs) (fun i σ H'=>(∃o,σ=o::rest)/\Same H0 H'/\H' l=some (.lst ((xs.take i).filter p))) ⟨⟨_,rfl⟩,s0,by rw [aJ];rfl⟩ (fun i σ H' _ h=>SqT.of (h.2.1 _ _ ha)) ?_ ?_
 ·rintro i x σ H' hx ⟨⟨o,rfl⟩,hs,hl'⟩
  show dR tt (eY l (eL 0)) _ (some x::rest) H'
  have et:(xs.take (i+1)).filter p=(xs.take i).filter p++(if p x=true then [x]else []):=by
   rw [take_succ,hx,filter_append]
   congr 1
   cases h:p x<;>simp [h]
  refine test x H' _ (mem_of_getElem? hx) hs fun H2 h2=> ?_
  refine cH (fun hp=> ?_) fun hp=> ?_
  ·refine⟨_,rfl,_,h2 _ _ hl',?_,⟨_,rfl⟩,fun b u e=> ?_,?_⟩
   ·have:=length_filter_le p (xs.take i)
    rw [length_take]at this
    exact eI (by omega)
   ·rw [aQ (bW e hl)];exact h2 _ _ (hs _ _ e)
   ·rw [aJ,et,if_pos hp]
  ·refine⟨⟨_,rfl⟩,hs.trans h2,?_⟩
   rw [et,if_neg (by rw [hp];decide),append_nil];exact h2 _ _ hl'
 ·rintro σ H' ⟨_,hs,hl'⟩
  rw [take_of_length_le (zjQ _)]at hl'
  exact hQ σ H' hs hl'
end L2
namespace M46
open PySem L2 PyProof.Rows Grd Wlk Cyc Srt
abbrev lK:Stmt:=top 41
theorem lN {c:Prop} [Decidable c]{A B:Prop}(h2:¬c->B)(h1:c->A):if decide c=true then A else B:=dJ h1 h2
def cnt (xs:List V):Int:=((xs.filter nonneg).length:Int)
section
variable {P:Program}{w:World}{K:W.Frag}{mg:Str->Option Value}{base:Heap}
abbrev tW:List Str:=["_law_thing_here","_law_mead_here","_law_many","_law_row","_law_number","_law_bad"]
theorem scGood:bV tW ["_law_thing_here"] (aK lK):=by ac_rfl
theorem A30:(["_law_one"]:List Str).Nodup:=by decide +kernel
theorem A2l {f:Addr}{fd:FuncData}(F:Fun K "_law_good" "_law_good" lK f fd)(T:Txt mg)(T2:dY mg):FnOk P w K mg base CX0 1 f fd ["_law_thing_here"] iL:=by
  refine F.ok scGood (fun vs H Q E h=> ?_) (fun cdv A outer s H vs Q E hr h=> ?_)
  · obtain⟨v,rfl,_⟩:=h;rfl
  · obtain⟨v,rfl,k,q⟩:=h
    have nd:=scGood.nd
    have hu:(A.deeper (envOfC "_law_good" (aK lK) s.heap.objs.size f cdv)).units+0+1<cLine:=lI hr
    refine⟨_,aU (bQ (PW.pt (fU (cQ (cS (bI eW rfl T.isinstance boot_isinstance (aE (pv 0) (aE (dQ (v:=.ty "tuple") rfl T.tuple boot_tuple rfl) aA))))) (fU (bN gA (bI eN rfl T.len PySem.boot_len (aE (pv 0) aA)) aH (nomark _)) (iP (cQ (cS (bI eW rfl T.isinstance boot_isinstance (fM (bM cY (pv 0) aH (fun _ _=>rfl)) (aE (dQ (v:=.ty "tuple") rfl T.tuple boot_tuple rfl) aA))))))))) (aW (bB cT)) bO)<|
      aU (nC (i:=1) (j:=2) rfl nd rfl rfl (by decide) rfl rfl (fM (bM cY (pv 0) aH (fun _ _=>rfl)) (bU aH aA)) rfl)<|
      aU (bQ (PW.pt (fU (cQ (mR fC fC aH (bI eN rfl T.len PySem.boot_len (aE (pv 1) aA)) aH)) (iP (cQ (cS (bI eW rfl T.isinstance boot_isinstance (fM (bM cY (pv 0) aH (fun _ _=>rfl)) (aE (dQ (v:=.ty "tuple") rfl T.tuple boot_tuple rfl) aA)))))))) (aW (bB cT)) bO)<|
      aU (iB PassesOwn.never rfl (jP (pv 1)) (bE (i:=3) nd rfl (Or.inl rfl))
        (aU (bQ (PW.pt (fU (cQ (cS (bI eW rfl T.isinstance boot_isinstance (aE (pv 3) (aE (dQ (v:=.ty "tuple") rfl T.tuple boot_tuple rfl) aA))))) (fU (cQ (mR fC fC aH (bI eN rfl T.len PySem.boot_len (aE (pv 3) aA)) aH)) (iP (bN gA (bI eN rfl T.len PySem.boot_len (aE (pv 3) aA)) (bI eN rfl T.len PySem.boot_len (fM (bM cY (pv 1) aH (fun _ _=>rfl)) aA)) (nomark _)))))) (aW (bB cT)) bO)<|
         aW (iB PassesOwn.never rfl (jP (pv 3)) (bE (i:=4) nd rfl (Or.inl rfl))
          (aU (bQ (PW.pt (fU (cQ (cS (bI eW rfl T.isinstance boot_isinstance (aE (pv 4) (aE (dQ (v:=.ty "int") rfl T.int boot_int rfl) aA))))) (fU (cS (bI eW rfl T.isinstance boot_isinstance (aE (pv 4) (aE (dQ (v:=.ty "bool") rfl T.bool boot_bool rfl) aA)))) (iP (cQ (mR fC fC (iG hZ aH) (pv 4) aH)))))) (aW (bB cT)) bO)<|
           aW (cJ (i:=2) nd rfl (Or.inl rfl) (bF eU (pv 2) (fW qF rfl T.int boot_int (uC (iN kC (pv 4) aH (nomark _)) aA))))))))<|
      aU (bQ (PW.pt (fU (cQ (mR fC fC aH (pv 2) aH)) (iP (bN gA (bI eN rfl T.len PySem.boot_len (fM (bM cY (pv 0) aH (fun _ _=>rfl)) aA)) (pv 2) (nomark _))))) (aW (bB cT)) bO)<|
      aU (sG (i:=5) (aK lK).names tW ["_law_one"] [] rfl nd rfl rfl (jP (bM cY (pv 0) aH (fun _ _=>rfl))) rfl rfl rfl (by decide +kernel)
        (fun Z=>bE (i:=0) A30 rfl (Or.inl rfl)) (fun Z=>jL (PW.pt (fU (cQ (cS (bI eW rfl T.isinstance boot_isinstance (aE (pv 0) (aE (dQ (v:=.ty "int") rfl T.int boot_int rfl) aA))))) (fU (cS (bI eW rfl T.isinstance boot_isinstance (aE (pv 0) (aE (dQ (v:=.ty "bool") rfl T.bool boot_bool rfl) aA)))) (iP (cQ (mR fC fC aH (pv 0) aH))))))) (fun Z=>pv 0))<|
      aW (bB (iN (A27 0 hu) (pv 5) (dU aA) (nomark _))),?_⟩
    have fail:dealtV H v=false->∀H',Same H H'->Q (.bl false) H':=fun e H' hs=>by have:=q H' hs;rw [e]at this;exact this
    obtain⟨t,ty,_,_,k3⟩:=jE (K:=K) (k.le (show 1<=4 by decide))
    refine⟨_,rfl,_,"tuple",t,_,rfl,ty,k3,_,rfl,cH (fun e=> ?_) fun e=> ?_⟩
    · refine cN (fail ?_ H (Same.refl H))
      unfold dealtV
      cases z:tupOf H v with
      |none=>rfl
      |some xs=>rw [z]at e;cases e
    cases z:tupOf H v with
    |none=>rw [z]at e;cases e
    |some xs=>
    obtain⟨p,rfl,hp⟩:=eR z
    obtain⟨hz,hk⟩:=k.items hp
    refine⟨_,rfl,p,xs,rfl,.inr (SqT.of hp),rfl,_,rfl,nQ (fun l2=> ?_) fun l2=> ?_⟩
    · refine cN (fail ?_ H (Same.refl H))
      unfold dealtV
      rw [z]
      match xs,l2 with
      | [],_=>rfl
      | [_],_=>rfl
      | [_,_],l2=>exact absurd rfl l2
      |_::_::_::_,_=>rfl
    have l2':xs.length=2:=by have:=V.int.inj l2;omega
    match xs,l2' with
    | [m,n],_=>
    have hkm:=hk m (by simp)
    have hkn:=hk n (by simp)
    have d0:dealtV H (.ref p)=(dD H m&&numsV H m n):=by unfold dealtV;rw [z]
    have fm:dD H m=false->dealtV H (.ref p)=false:=fun e=>by rw [d0,e];rfl
    have fn:numsV H m n=false->dealtV H (.ref p)=false:=fun e=>by rw [d0,e,Bool.and_false]
    obtain⟨tm,tym,_,_,km3⟩:=jE (K:=K) (hkm.le (show 1<=3 by decide))
    obtain⟨tn,tyn,_,_,kn3⟩:=jE (K:=K) (hkn.le (show 1<=3 by decide))
    refine⟨_,rfl,p,_,0,m,rfl,rfl,SqT.of hp,bL (j:=0) rfl,_,"tuple",tm,_,rfl,tym,km3,_,rfl,cH (fun e=> ?_) fun e=> ?_⟩
    · refine fail (fm ?_) H (Same.refl H)
      unfold dD
      cases z:tupOf H m with
      |none=>rfl
      |some xs=>rw [z]at e;cases e
    cases zm:tupOf H m with
    |none=>rw [zm]at e;cases e
    |some rows=>
    obtain⟨a,rfl,ha⟩:=eR zm
    obtain⟨hz,hkr⟩:=hkm.items ha
    have g0:dD H (.ref a)=(decide (1<=rows.length)&&decide (rows.length<=4)&&rows.all (rowOk H)&&rows.all (fun r=>decide (bD H r=bD H (rows.headD .non)))&&(decide (1<=(rows.map (bP H)).sum)&&decide ((rows.map (bP H)).sum<=10))):=by unfold dD;rw [zm]
    refine⟨_,rfl,p,_,0,.ref a,rfl,rfl,SqT.of hp,bL (j:=0) rfl,_,_,rfl,?_⟩
    refine⟨_,rfl,a,rows,rfl,.inr (SqT.of ha),_,_,rfl,rfl,_,rfl,lN (fun h1=> ?_) fun h1=> ?_⟩
    · refine⟨_,rfl,cN (cN (fail (fm ?_) H (Same.refl H)))⟩
      rw [g0,zjU (show¬1<=rows.length by omega)];rfl
    refine⟨_,_,rfl,rfl,_,rfl,cH (fun h4=> ?_) fun h4=> ?_⟩
    · refine cN (fail (fm ?_) H (Same.refl H))
      have h4':¬(rows.length:Int)<=4:=by simpa using h4
      rw [g0,zjU (show¬rows.length<=4 by omega)]
      simp
    have h4':(rows.length:Int)<=4:=by simpa using h4
    refine⟨_,rfl,p,_,1,n,rfl,rfl,SqT.of hp,bL (j:=1) rfl,_,"tuple",tn,_,rfl,tyn,kn3,_,rfl,cH (fun e=> ?_) fun e=> ?_⟩
    · refine fail (fn ?_) H (Same.refl H)
      unfold numsV
      cases z:tupOf H n with
      |none=>rfl
      |some xs=>rw [z]at e;cases e
    cases zn:tupOf H n with
    |none=>rw [zn]at e;cases e
    |some ys=>
    obtain⟨b',rfl,hn⟩:=eR zn
    obtain⟨hzn,hkn2⟩:=hkn.items hn
    have n0:numsV H (.ref a) (.ref b')=(decide (ys.length=(rows.map (bP H)).sum)&&ys.all (cA 0 3)):=by
      unfold numsV cellsN
      rw [zn,zm];rfl
    rw [zjV (show 1<=rows.length by omega),zjV (show rows.length<=4 by omega)]at g0
    have g1:dD H (.ref a)=(rows.all (rowOk H)&&rows.all (fun r=>decide (bD H r=bD H (rows.headD .non)))&&(decide (1<=(rows.map (bP H)).sum)&&decide ((rows.map (bP H)).sum<=10))):=g0
    obtain⟨r0,rs,er⟩:=exists_cons_of_ne_nil (show rows≠[]from fun z=>by rw [z]at h1;simp at h1)
    have hd0:rows.headD .non=r0:=by rw [er];rfl
    have failR:∀r∈rows,rowOk H r=false->Q (.bl false) H:=fun r hr' e=>fail (fm (by
      rw [g1]
      have:rows.all (rowOk H)=false:=by
        rw [Bool.eq_false_iff];intro z
        have:=all_eq_true.mp z r hr'
        rw [e]at this;cases this
      rw [this];rfl)) H (Same.refl H)
    have failL:∀r∈rows,bD H r≠bD H r0->Q (.bl false) H:=fun r hr' e=>fail (fm (by
      rw [g1,hd0]
      have:rows.all (fun r=>decide (bD H r=bD H r0))=false:=by
        rw [Bool.eq_false_iff];intro z
        exact e (of_decide_eq_true (all_eq_true.mp z r hr'))
      rw [this,Bool.and_false];rfl)) H (Same.refl H)
    refine⟨_,rfl,a,rfl,⟨rows,SqT.of ha⟩,?_⟩
    refine nI (K:=K) (a:=a) (xs:=rows) (fun i σ H'=>H'=H/\(∃o3 o4 o5,σ=[some (.ref p),some (.ref a),some (.int (((rows.take i).map (bP H)).sum:Nat)),o3,o4,o5])/\∀r∈rows.take i,rowOk H r=true/\bD H r=bD H r0)
      ⟨rfl,⟨_,_,_,rfl⟩,fun r hr'=>by cases hr'⟩ (fun i σ H' _ h=>by rw [h.1];exact SqT.of ha) ?_ ?_
    · rintro i r σ H' hi ⟨rfl,⟨o3,o4,o5,rfl⟩,hall⟩
      have hrm:=mem_of_getElem? hi
      obtain⟨t,ty,_,_,k3⟩:=jE (K:=K) ((hkr r hrm).le (show 1<=2 by decide))
      refine⟨_,rfl,_,"tuple",t,_,rfl,ty,k3,_,rfl,cH (fun e=> ?_) fun e=> ?_⟩
      · refine cN (failR r hrm ?_)
        unfold rowOk
        cases z:tupOf H' r with
        |none=>rfl
        |some xs=>rw [z]at e;cases e
      cases zr:tupOf H' r with
      |none=>rw [zr]at e;cases e
      |some xs=>
      obtain⟨b,rfl,hb⟩:=eR zr
      obtain⟨hz2,hk2⟩:=(hkr _ hrm).items hb
      refine⟨_,rfl,b,xs,rfl,.inr (SqT.of hb),_,_,rfl,rfl,_,rfl,lN (fun l1=> ?_) fun l1=> ?_⟩
      · refine⟨_,rfl,cN (cN (failR _ hrm ?_))⟩
        unfold rowOk;rw [zr];dsimp only
        rw [zjU (show¬1<=xs.length by omega)];rfl
      refine⟨_,_,rfl,rfl,_,rfl,cH (fun l6=> ?_) fun l6=> ?_⟩
      · refine cN (failR _ hrm ?_)
        have l6':¬(xs.length:Int)<=6:=by simpa using l6
        unfold rowOk;rw [zr];dsimp only
        rw [zjU (show¬xs.length<=6 by omega)];simp
      have l6':(xs.length:Int)<=6:=by simpa using l6
      have r1:rowOk H' (.ref b)=xs.all (cA (-2) 99):=by
        unfold rowOk;rw [zr];dsimp only
        rw [zjV (show 1<=xs.length by omega),zjV (show xs.length<=6 by omega)];rfl
      have failN:∀x∈xs,cA (-2) 99 x=false->Q (.bl false) H':=fun x hx e=>failR _ hrm (by
        rw [r1,Bool.eq_false_iff];intro z
        have:=all_eq_true.mp z x hx
        rw [e]at this;cases this)
      obtain⟨b0,x0,eb0,hb0⟩:∃b0 x0,r0= .ref b0/\H' b0=some (.tup x0):=by
        cases i with
        |zero=>
          rw [er]at hi
          have:r0= .ref b:=by simpa using hi
          exact⟨b,xs,this,hb⟩
        |succ j=>
          have hm0:r0∈rows.take (j+1):=by rw [er,List.take_succ_cons];exact zjR
          obtain⟨b0,x0,e0,h0,_⟩:=xL (hall r0 hm0).1
          exact⟨b0,x0,e0,h0⟩
      have hlr:bD H' (.ref b)=xs.length:=by unfold bD;rw [fQ hb];rfl
      have hl0:bD H' r0=x0.length:=by rw [eb0];unfold bD;rw [fQ hb0];rfl
      refine⟨_,rfl,b,xs,rfl,.inr (SqT.of hb),_,rfl,a,_,0,r0,rfl,rfl,SqT.of ha,bL (j:=0) (by rw [er];rfl),b0,x0,by rw [eb0],.inr (SqT.of hb0),rfl,_,rfl,nQ (fun ln=> ?_) fun ln=> ?_⟩
      · refine failL _ hrm fun e=>ln ?_
        rw [hlr,hl0]at e
        rw [e]
      have hln:bD H' (.ref b)=bD H' r0:=by rw [hlr,hl0];have:=V.int.inj ln;omega
      refine⟨_,rfl,b,rfl,⟨xs,SqT.of hb⟩,?_⟩
      refine nI (K:=K) (a:=b) (xs:=xs) (fun j σ H2=>H2=H'/\(∃o4,σ=[some (.ref p),some (.ref a),some (.int ((((rows.take i).map (bP H')).sum:Nat)+cnt (xs.take j))),some (.ref b),o4,o5])/\∀x∈xs.take j,cA (-2) 99 x=true)
        ⟨rfl,⟨o4,by simp [cnt]⟩,fun x hx=>by cases hx⟩ (fun j σ H2 _ h=>by rw [h.1];exact SqT.of hb) ?_ ?_
      · rintro j x σ H2 hj ⟨rfl,⟨o4',rfl⟩,hallx⟩
        have hxm:=mem_of_getElem? hj
        obtain⟨t,ty,kk1,kk2,_⟩:=jE (K:=K) (hk2 x hxm)
        refine⟨_,rfl,_,"int",t,_,rfl,ty,kk1,_,rfl,cH (fun e=> ?_) fun e=> ?_⟩
        · refine cN (failN x hxm ?_)
          cases x<;>first|rfl|cases e
        refine⟨_,rfl,_,"bool",t,_,rfl,ty,kk2,_,rfl,cH (fun e2=> ?_) fun e2=> ?_⟩
        · refine cN (failN x hxm ?_)
          cases x<;>first|rfl|cases e2
        cases x with
        |int n=>
          refine⟨_,rfl,_,rfl,_,_,rfl,rfl,_,rfl,lN (fun n1=> ?_) fun n1=> ?_⟩
          · refine⟨_,rfl,cN (failN _ hxm ?_)⟩
            show(decide (-2<=n)&&decide (n<=99))=false
            rw [zjU n1];rfl
          refine⟨_,_,rfl,rfl,_,rfl,cH (fun n2=> ?_) fun n2=> ?_⟩
          · refine failN _ hxm ?_
            have n2':¬n<=99:=by simpa using n2
            show(decide (-2<=n)&&decide (n<=99))=false
            rw [zjU n2'];simp
          have n2':n<=99:=by simpa using n2
          refine⟨_,rfl,_,rfl,_,_,rfl,rfl,.inr ⟨_,rfl,_,_,rfl,rfl,?_⟩⟩
          have ecnt:cnt (xs.take (j+1))=cnt (xs.take j)+(if decide (0<=n)=true then 1 else 0):=by
            unfold cnt
            rw [take_succ,hj,filter_append]
            show(((filter nonneg (List.take j xs))++filter nonneg [.int n]).length:Int)=_
            rw [length_append]
            by_cases h0:0<=n
            · have:nonneg (.int n)=true:=zjV h0
              rw [filter_cons_of_pos this,zjV h0];simp
            · have:¬nonneg (.int n)=true:=by show¬decide (0<=n)=true;rw [zjU h0];decide
              rw [filter_cons_of_neg this,zjU h0];simp
          refine⟨rfl,⟨some (.int n),?_⟩,fun x hx=> ?_⟩
          · rw [ecnt,←Int.add_assoc];rfl
          · rw [take_succ,hj]at hx
            rcases mem_append.mp hx with y|y
            · exact hallx x y
            · rw [mem_singleton.mp y]
              show(decide (-2<=n)&&decide (n<=99))=true
              rw [zjV n1,zjV n2'];rfl
        |bl y=>cases e2
        |_=>cases e
      · rintro σ H2 ⟨rfl,⟨o4',rfl⟩,hallx⟩
        rw [take_of_length_le (zjQ _)]at hallx
        refine⟨rfl,⟨some (.ref b),o4',o5,?_⟩,fun r hr'=> ?_⟩
        · rw [take_of_length_le (zjQ _),take_succ,hi,map_append,List.sum_append]
          have:bP H2 (.ref b)=(xs.filter nonneg).length:=by unfold bP;rw [zr];rfl
          show _=([some (V.ref p),some (V.ref a),some (V.int ((((rows.take i).map (bP H2)).sum+([bP H2 (.ref b)]).sum:Nat):Int)),_,_,_]:L2.St)
          rw [this]
          simp [cnt]
        · rw [take_succ,hi]at hr'
          rcases mem_append.mp hr' with y|y
          · exact hall r y
          · rw [mem_singleton.mp y,r1]
            exact⟨all_eq_true.mpr hallx,hln⟩
    · rintro σ H' ⟨rfl,⟨o3,o4,o5,rfl⟩,hall⟩
      rw [take_of_length_le (zjQ _)]at hall⊢
      have hrr:rows.all (rowOk H')=true:=all_eq_true.mpr fun r hr'=>(hall r hr').1
      have hll:rows.all (fun r=>decide (bD H' r=bD H' (rows.headD .non)))=true:=all_eq_true.mpr fun r hr'=>by rw [hd0];exact zjV (hall r hr').2
      rw [hrr,hll]at g1
      refine⟨_,rfl,_,_,rfl,rfl,_,rfl,lN (fun m1=> ?_) fun m1=> ?_⟩
      · refine⟨_,rfl,cN (cN (fail (fm ?_) H' (Same.refl H')))⟩
        rw [g1,zjU (show¬1<=(rows.map (bP H')).sum by omega)];rfl
      refine⟨_,_,rfl,rfl,_,rfl,cH (fun m10=> ?_) fun m10=> ?_⟩
      · refine cN (fail (fm ?_) H' (Same.refl H'))
        have m10':¬((((rows.map (bP H')).sum:Nat):Int)<=10):=by simpa using m10
        rw [g1,zjU (show¬(rows.map (bP H')).sum<=10 by omega)];simp
      have m10':((((rows.map (bP H')).sum:Nat):Int)<=10):=by simpa using m10
      rw [zjV (show 1<=(rows.map (bP H')).sum by omega),zjV (show(rows.map (bP H')).sum<=10 by omega)]at g1
      have n1:dealtV H' (.ref p)=(decide (ys.length=(rows.map (bP H')).sum)&&ys.all (cA 0 3)):=by rw [d0,g1,n0];rfl
      refine⟨_,rfl,p,_,1,.ref b',rfl,rfl,SqT.of hp,bL (j:=1) rfl,b',ys,rfl,.inr (SqT.of hn),_,rfl,rfl,_,rfl,nQ (fun ln=> ?_) fun ln=> ?_⟩
      · refine fail ?_ H' (Same.refl H')
        rw [n1,zjU (fun e=>ln (by rw [e]))];rfl
      have ln':ys.length=(rows.map (bP H')).sum:=by have:=V.int.inj ln;omega
      rw [zjV ln']at n1
      refine⟨_,rfl,p,_,1,.ref b',rfl,rfl,SqT.of hp,bL (j:=1) rfl,b',rfl,⟨_,SqT.of hn⟩,fun Z l hl=> ?_⟩
      refine A9e (fun x=> !(cA 0 3 x)) hn hl hzn (fun x H1 Q' hm hs hq=> ?_) fun σ H1 hs hl'=> ?_
      · obtain⟨t,ty,kk1,kk2,_⟩:=jE (K:=K) (((hkn2 x hm).le (show 1<=2 by decide)).ext hs.ext)
        refine⟨_,rfl,_,"int",t,_,rfl,ty,kk1,_,rfl,cH (fun e=> ?_) fun e=> ?_⟩
        · have:cA 0 3 x=false:=by cases x<;>first|rfl|cases e
          have:=hq H1 (Same.refl _)
          rw [‹cA 0 3 x=false›]at this
          exact this
        refine⟨_,rfl,_,"bool",t,_,rfl,ty,kk2,_,rfl,cH (fun e2=> ?_) fun e2=> ?_⟩
        · have:cA 0 3 x=false:=by cases x<;>first|rfl|cases e2
          have:=hq H1 (Same.refl _)
          rw [‹cA 0 3 x=false›]at this
          exact this
        cases x with
        |int n=>
          have hq':=hq H1 (Same.refl _)
          rw [show cA 0 3 (.int n)=(decide (0<=n)&&decide (n<=3))from rfl]at hq'
          refine⟨_,rfl,_,_,rfl,rfl,_,rfl,lN (fun n1=> ?_) fun n1=> ?_⟩
          · rw [zjU n1]at hq'
            exact⟨_,rfl,hq'⟩
          refine⟨_,_,rfl,rfl,_,rfl,?_⟩
          rw [zjV n1]at hq'
          exact hq'
        |bl y=>cases e2
        |_=>cases e
      · refine⟨_,rfl,by show 0<=sizeLine;decide,fun l2 hl2=> ?_⟩
        have s2:=aV (o:=.lst []) hl2
        refine⟨l,l2,_,[],rfl,rfl,s2 _ _ hl',aJ,?_⟩
        have hall:ys.all (cA 0 3)=decide (ys.filter (fun x=> !(cA 0 3 x))=[]):=by
          rw [Bool.eq_iff_iff,all_eq_true,decide_eq_true_eq,List.filter_eq_nil_iff]
          simp
        have q':=q _ (hs.trans s2)
        rw [n1,hall]at q'
        by_cases hf:ys.filter (fun x=> !(cA 0 3 x))=[]
        · rw [zjV hf]at q'
          rw [hf]
          exact .inr ⟨[],trivial,q'⟩
        · rw [zjU hf]at q'
          exact .inl ⟨fun e=>hf (length_eq_zero_iff.mp e),q'⟩
end
end M46
namespace Gs
open PySem PyProof.Rows Stb
structure Kk (prog:Program)(w:World)(κ:Type) [DecidableEq κ]where
 hs:κ->Int
 is:Heap->κ->Addr->Prop
 mono:∀{h h':Heap}{k:κ}{a:Addr},is h k a->(∀b o,h.get? b=some o->h'.get? b=some o)->is h' k a
 tup:∀{h:Heap}{k:κ}{a:Addr},is h k a->∃o,h.get? a=some o/\o.cls= .type "tuple"
 quiet:∀{A:Around}{E:Value->Shared->Prop}{s:Shared}{k:κ}{a:Addr}{Q:Bool->Shared->Prop},is s.heap k a->Q true s->wpAny (model prog w) A (eqIsQuiet 8 (.ref a)) Q E s
 noClass:∀{A:Around}{E:Value->Shared->Prop}{s:Shared}{k:κ}{a:Addr}{Q:Bool->Shared->Prop},is s.heap k a->Q false s->wpAny (model prog w) A (ofAClassStatement 8 (.ref a)) Q E s
 byValue:∀{A:Around}{E:Value->Shared->Prop}{s:Shared}{k:κ}{a:Addr}{Q:Bool->Shared->Prop},is s.heap k a->Q true s->wpAny (model prog w) A (hashByValue 8 (.ref a)) Q E s
 eqb:∀{A:Around}{E:Value->Shared->Prop}{s:Shared}{x y:κ}{a b:Addr}{Q:Bool->Shared->Prop},A.units+1<cLine->is s.heap x a->is s.heap y b->Q (decide (x=y)) s->wpAny (model prog w) A (eqBool (.ref a) (.ref b)) Q E s
 hash:∀{A:Around}{E:Value->Shared->Prop}{s:Shared}{k:κ}{a:Addr}{Q:Int->Shared->Prop},A.units+1<cLine->is s.heap k a->(∀n,Q (hs k) {s with toks:=s.toks+n})->wpAny (model prog w) A (pyHash (.ref a)) Q E s
section
variable {κ:Type}{hf:κ->Int}
def entG (hf:κ->Int)(x:κ×Addr):Int×Value:=(hf x.1,.ref x.2)
def cK (hf:κ->Int)(xs:List (κ×Addr))(ep mask moves:Nat)(led:Bool)(pl:List Nat):Obj:={cls:=.type "set",dict:=none,data:=.set (xs.map (entG hf)).toArray ep (tb mask moves led pl)}
def aZ (hf:κ->Int)(xs:List (κ×Addr)):List Int:=xs.map fun x=>hf x.1
def IsStG (hf:κ->Int)(h:Heap)(a:Addr)(xs:List (κ×Addr))(led:Bool):Prop:=∃ep mask moves pl,h.get? a=some (cK hf xs ep mask moves led pl)/\Ok mask pl (aZ hf xs)
theorem IsStG.at {h h':Heap}{a:Addr}{xs:List (κ×Addr)}{led:Bool}(x:IsStG hf h a xs led)(e:∀o,h.get? a=some o->h'.get? a=some o):IsStG hf h' a xs led:=let ⟨ep,mask,moves,pl,ho,ok⟩:=x;⟨ep,mask,moves,pl,e _ ho,ok⟩
theorem jU {xs:List (κ×Addr)}{mask moves:Nat}{led:Bool}{pl:List Nat}(ok:Ok mask pl (aZ hf xs)):(tb mask moves led pl).fits (xs.map (entG hf)).toArray.size=true:=by
 have h1:=ok.len
 have h2:=ok.few
 unfold aZ at h1 h2
 rw [length_map]at h1 h2
 simp only [SetTable.fits,SetTable.fill,tb,size_toArray,length_map,Bool.and_eq_true,beq_iff_eq,decide_eq_true_eq]
 exact⟨h1,by simp;omega⟩
end
section
variable {prog:Program}{w:World}{A:Around}{E:Value->Shared->Prop}{s:Shared}{κ:Type} [DecidableEq κ]{kk:Kk prog w κ}
theorem uL {k:κ}{a:Addr}{ys:List Value}{Q:Bool->Shared->Prop}(hk:kk.is s.heap k a)(hy:∀v∈ys,∃k' b,v= .ref b/\kk.is s.heap k' b)(h:Q false s):wpAny (model prog w) A (searchCouldBeSeen (.ref a) ys) Q E s:=by
 unfold searchCouldBeSeen
 refine zjZ ?_
 refine wpAny_forIn_list _ (fun rest r s'=>r.1=none/\s'=s/\∀v∈rest,∃k' b,v=Value.ref b/\kk.is s.heap k' b) _ ?_ ?_ _ _ ⟨rfl,rfl,hy⟩
 ·rintro v rest r s' ⟨hr,rfl,hall⟩
  obtain⟨k',b,rfl,hb⟩:=hall v zjR
  have tl:∀u∈rest,∃k' b,u=Value.ref b/\kk.is s'.heap k' b:=fun u hu'=>hall u (zjS _ hu')
  dsimp only
  split
  ·exact zjY ⟨rfl,rfl,tl⟩
  ·refine zjZ (kk.quiet hk ?_)
   simp only [Bool.not_true,Bool.false_eq_true,↓reduceIte]
   refine zjZ (kk.quiet hb ?_)
   simp only [Bool.not_true,Bool.false_eq_true,↓reduceIte]
   refine zjZ (kk.noClass hk ?_)
   simp only [Bool.false_eq_true,↓reduceIte]
   refine zjZ (kk.noClass hb ?_)
   simp only [Bool.false_eq_true,↓reduceIte]
   exact zjY ⟨rfl,rfl,tl⟩
 ·rintro⟨r1,r2⟩ s' ⟨hr,rfl,_⟩
  simp only at hr
  subst hr
  exact zjY h
theorem vT {α:Type}{c:Bool}{m:Sem Bool}{U R:Sem α}{Q:α->Shared->Prop}(hm:∀Q':Bool->Shared->Prop,Q' false s->wpAny (model prog w) A m Q' E s)(h:wpAny (model prog w) A R Q E s):wpAny (model prog w) A (if c=true then(m>>=fun b=>if b=true then U else R)else R) Q E s:=by
 cases c with
 |false=>rw [if_neg Bool.false_ne_true];exact h
 |true=>
  rw [if_pos rfl]
  refine zjZ (hm _ ?_)
  rw [if_neg Bool.false_ne_true];exact h
theorem A9p {a:Addr}{xs:List (κ×Addr)}{ep mask moves:Nat}{led:Bool}{pl:List Nat}{k:κ}{b:Addr}{n0:Nat}{Q:SetFound->Shared->Prop}(hu:A.units+1<cLine)(ho:s.heap.get? a=some (cK kk.hs xs ep mask moves led pl))(ok:Ok mask pl (aZ kk.hs xs))
  (hK:∀x∈xs,kk.is s.heap x.1 x.2)(hk:kk.is s.heap k b)(hn0:n0<10*SetTable.turns mask)(hE:(nth mask (kk.hs k) n0).j∉pl)(hL:∀m,m<n0->(nth mask (kk.hs k) m).j∈pl)
  (h1:k∈xs.map (·.1)->Q (.there none) s)(h2:k∉xs.map (·.1)->Q (.free (nth mask (kk.hs k) n0).j false) s):
  ∀(fuel n:Nat)(stand:Option SetTable.Probe),n<=n0->n0 - n<fuel->stand.getD ((tb mask moves led pl).probeStart (kk.hs k))=nth mask (kk.hs k) n->(∀m,m<n->∀(i:Nat)(x:κ×Addr),pl[i]?=some (nth mask (kk.hs k) m).j->xs[i]?=some x->x.1≠k)->
   wpAny (model prog w) A (setSearchFrom a (.ref b) (kk.hs k) true fuel stand) Q E s:=by
 have hd:(cK kk.hs xs ep mask moves led pl).data= .set (xs.map (entG kk.hs)).toArray ep (tb mask moves led pl):=rfl
 have hfi:=jU (moves:=moves) (led:=led) ok
 have hgw:(tb mask moves led pl).gaveWay=false:=by
  show(mask%2==0)=false
  rcases ok.mk' with rfl|rfl<;>rfl
 intro fuel
 induction fuel with
 |zero=>intro n stand _ hlt;omega
 |succ fuel ih=>
  intro n stand hn hlt hst hpre
  unfold setSearchFrom
  refine zjZ (wpAny_setState_of ho hd hfi ?_);dsimp only
  rw [hgw]
  simp only [Bool.false_eq_true,↓reduceIte]
  rw [hst]
  have hp:∀(i:Nat)(x:κ×Addr),xs[i]?=some x->((((xs.map (entG kk.hs)).toArray)[i]?).map (·.1)).getD 0=kk.hs x.1:=fun i x e=>by simp [e,entG]
  have hrun:=go_run (mask:=mask) (moves:=moves) (led:=led) ok.up (fun i=>((((xs.map (entG kk.hs)).toArray)[i]?).map (·.1)).getD 0) (kk.hs k) n0 hE hL (n0 - n) n (10*SetTable.turns mask) (by omega) (by omega)
  have lenx:pl.length=xs.length:=by have:=ok.len;unfold aZ at this;rwa [length_map]at this
  generalize hP:SetTable.probe (tb mask moves led pl) _ (kk.hs k) (nth mask (kk.hs k) n)=P
  rcases hrun with⟨e,hno⟩| ⟨m,i,m1,m2,m3,m4,e,hno⟩
  ·obtain rfl:=hP.symm.trans e
   dsimp only
   refine zjY (h2 fun hm=> ?_)
   obtain⟨x,hx,ek⟩:=mem_map.mp hm
   obtain⟨i,hi⟩:=mem_iff_getElem?.mp hx
   have hi2:(aZ kk.hs xs)[i]?=some (kk.hs k):=by unfold aZ;rw [getElem?_map,hi,←ek];rfl
   obtain⟨m,a1,a2⟩:=ok.met hi2 hE
   by_cases hmn:m<n
   ·exact hpre m hmn i x a2 hi ek
   ·exact hno m (by omega) a1 i a2 (by rw [hp i x hi,ek])
  ·obtain rfl:=hP.symm.trans e
   dsimp only
   have hi:i<xs.length:=by rw [←lenx];exact(zjW.mp m3).1
   have hx:xs[i]?=some xs[i]:=getElem?_eq_getElem hi
   have hy:(xs.map (entG kk.hs)).toArray[i]?=some ((entG kk.hs) xs[i]):=by simp [hi]
   have hKi:=hK xs[i] (getElem_mem hi)
   refine vT (fun Q' q'=>uL hk (fun v hv=> ?_) q') ?_
   ·obtain⟨e',he',rfl⟩:=mem_map.mp hv
    have hm1:=(Array.mem_filter.mp (Array.mem_toList_iff.mp he')).1
    have hm2:e'∈xs.map (entG kk.hs):=by simpa using hm1
    obtain⟨x,hx',rfl⟩:=mem_map.mp hm2
    exact⟨x.1,x.2,rfl,hK x hx'⟩
   rw [hy]
   dsimp only [entG]
   refine zjZ (wpAny_holding (kk.eqb hu hKi hk ?_))
   refine zjZ (wpAny_setState_of ho hd hfi ?_);dsimp only
   by_cases ek:xs[i].1=k
   ·rw [zjV ek]
    simp only [Bool.and_self,↓reduceIte]
    exact zjY (h1 (mem_map.mpr ⟨xs[i],getElem_mem hi,ek⟩))
   ·rw [zjU ek]
    simp only [Bool.and_false,Bool.false_eq_true,↓reduceIte]
    have hsm:(tb mask moves led pl).sameMemory (tb mask moves led pl).moves (tb mask moves led pl).mask=some true:=by simp [SetTable.sameMemory]
    rw [hsm]
    dsimp only
    simp only [↓reduceIte]
    rw [slot_live ok.up m3]
    dsimp only
    rw [hy]
    dsimp only [entG]
    refine zjZ (wpAny_isSame_ref_self ?_)
    simp only [↓reduceIte]
    refine zjZ (zjY ?_)
    dsimp only
    refine ih (m+1) _ (by omega) (by omega) rfl fun m' hm' i' x hi' hx'=> ?_
    by_cases c1:m'<n
    ·exact hpre m' c1 i' x hi' hx'
    ·by_cases c2:m'<m
     ·intro ex
      exact hno m' (by omega) c2 i' hi' (by rw [hp i' x hx',ex])
     ·have c3:m'=m:=by omega
      subst c3
      have ei:i'=i:=by rw [←fJ ok.up hi',fJ ok.up m3]
      subst ei
      rw [hx]at hx';cases hx';exact ek
end
section
variable {prog:Program}{w:World}{A:Around}{E:Value->Shared->Prop}{s:Shared}{κ:Type} [DecidableEq κ]{kk:Kk prog w κ}
theorem A5f {a:Addr}{xs:List (κ×Addr)}{led:Bool}{k:κ}{b:Addr}{Q:Bool->Shared->Prop}(hu:A.units+1<cLine)(hS:IsStG kk.hs s.heap a xs led)(hK:∀x∈xs,kk.is s.heap x.1 x.2)(hk:kk.is s.heap k b)(few:xs.length+1<=18)
  (h:∀r h' xs',Heap.SameBut a s.heap h'->IsStG kk.hs h' a xs' led->((k∈xs.map (·.1)/\xs'=xs)\/(k∉xs.map (·.1)/\xs'.Perm ((k,b)::xs)))->Q r {s with heap:=h'}):
  wpAny (model prog w) A (setAddHashed a (.ref b) (kk.hs k)) Q E s:=by
 obtain⟨ep,mask,moves,pl,ho,ok⟩:=id hS
 have hd:(cK kk.hs xs ep mask moves led pl).data= .set (xs.map (entG kk.hs)).toArray ep (tb mask moves led pl):=rfl
 have hfi:=jU (moves:=moves) (led:=led) ok
 obtain⟨n0,h1,h2,h3⟩:=ok.free (kk.hs k)
 have lenx:pl.length=xs.length:=by have:=ok.len;unfold aZ at this;rwa [length_map]at this
 have fewx:xs.length*5<mask*3:=by have:=ok.few;unfold aZ at this;rwa [length_map]at this
 unfold setAddHashed setAddHashedIn
 refine wpAny_holding (zjZ (wpAny_setState_of ho hd hfi ?_));dsimp only
 have hbs:byScan (.ref b) (xs.map (entG kk.hs)).toArray=false:=by simp [byScan,Value.scannable]
 rw [hbs]
 simp only [Bool.false_eq_true,↓reduceIte]
 unfold setSearch
 refine zjZ (A9p hu ho ok hK hk h1 h2 h3 (fun hm=> ?_) (fun hm=> ?_) 100000 0 none (zero_le _) ?_ rfl fun m hm=>absurd hm (by omega))
 ·dsimp only
  exact zjY (h _ s.heap xs (Heap.SameBut.refl a s.heap) hS (.inl ⟨hm,rfl⟩))
 ·dsimp only
  refine zjZ (wpAny_setState_of ho hd hfi ?_);dsimp only
  rw [A4h ok.up]
  dsimp only
  have hpl:(tb mask moves led (ins pl (rk (nth mask (kk.hs k) n0).j pl) (nth mask (kk.hs k) n0).j)).plain=true:=rfl
  rw [hpl]
  simp only [↓reduceIte]
  refine zjZ (kk.byValue hk ?_)
  simp only [↓reduceIte]
  generalize hr:rk (nth mask (kk.hs k) n0).j pl=r at*
  have hrle:r<=xs.length:=by rw [←hr,←lenx];exact gR _ _
  have eins:SetTable.insertAt (xs.map (entG kk.hs)).toArray r (kk.hs k,Value.ref b)=((ins xs r (k,b)).map (entG kk.hs)).toArray:=by
   rw [kG]
   unfold ins
   rw [map_append,map_cons,map_take,map_drop]
   rfl
  rw [eins]
  have hlen:(ins xs r (k,b)).length=xs.length+1:=fA hrle
  have hz:((ins xs r (k,b)).map (entG kk.hs)).toArray.size<=sizeLine:=by rw [size_toArray,length_map,hlen,sizeLine_eq];omega
  refine zjZ (wpAny_storeSet_of ho hd ?_ hz)
  have hlp:(ins pl r (nth mask (kk.hs k) n0).j).length=xs.length+1:=by rw [fA (by omega),lenx]
  have hg:(s.heap.update a (Obj.putSet ((ins xs r (k,b)).map (entG kk.hs)).toArray (tb mask moves led (ins pl r (nth mask (kk.hs k) n0).j)))).get? a=some (cK kk.hs (ins xs r (k,b)) (ep+1) mask moves led (ins pl r (nth mask (kk.hs k) n0).j)):=by
   have:=get?_update_self (Obj.putSet ((ins xs r (k,b)).map (entG kk.hs)).toArray (tb mask moves led (ins pl r (nth mask (kk.hs k) n0).j))) ho (by rw [putSet_of _ _ hd];rfl)
   rw [putSet_of _ _ hd]at this;exact this
  have sb:=Heap.SameBut.update s.heap a (Obj.putSet ((ins xs r (k,b)).map (entG kk.hs)).toArray (tb mask moves led (ins pl r (nth mask (kk.hs k) n0).j)))
  have ehs:aZ kk.hs (ins xs r (k,b))=ins (aZ kk.hs xs) r (kk.hs k):=by
   unfold aZ ins
   rw [map_append,map_cons,map_take,map_drop]
  rw [A56,hlp]
  by_cases fw:(xs.length+1)*5<mask*3
  ·rw [zjU (by omega)]
   simp only [Bool.and_false,Bool.false_eq_true,↓reduceIte]
   refine zjY (h _ _ (ins xs r (k,b)) sb ⟨ep+1,mask,moves,_,hg,?_⟩ (.inr ⟨hm,mI _ _ _⟩))
   rw [ehs,←hr]
   exact ok.put h2 h3 (by unfold aZ;rw [length_map];exact fw)
  ·rw [zjV (by omega)]
   simp only [Bool.not_false,Bool.and_self,↓reduceIte]
   have m7:mask=7:=by
    rcases ok.mk' with e|e
    ·exact e
    ·omega
   subst m7
   have l5:xs.length+1=5:=by omega
   have esz:(xs.map (entG kk.hs)).toArray.size+1=5:=by rw [size_toArray,length_map];exact l5
   rw [esz]
   have hf2:(tb 7 moves led (ins pl r (nth 7 (kk.hs k) n0).j)).fits ((ins xs r (k,b)).map (entG kk.hs)).toArray.size=true:=by
    simp only [SetTable.fits,SetTable.fill,tb,size_toArray,length_map,Bool.and_eq_true,beq_iff_eq,decide_eq_true_eq]
    exact⟨by omega,by simp;omega⟩
   refine zjZ ?_
   unfold setRelay
   have hd2:(cK kk.hs (ins xs r (k,b)) (ep+1) 7 moves led (ins pl r (nth 7 (kk.hs k) n0).j)).data= .set ((ins xs r (k,b)).map (entG kk.hs)).toArray (ep+1) (tb 7 moves led (ins pl r (nth 7 (kk.hs k) n0).j)):=rfl
   refine zjZ (wpAny_setState_of hg hd2 hf2 ?_);dsimp only
   rw [if_neg (by rw [sizeLine_eq];decide)]
   have emap:((ins xs r (k,b)).map (entG kk.hs)).toArray.map (·.1)=(aZ kk.hs (ins xs r (k,b))).toArray:=by simp [aZ,entG]
   rw [emap]
   obtain⟨pl',order,moves',e,perm,ok'⟩:=A0n moves led (ins pl r (nth 7 (kk.hs k) n0).j) (aZ kk.hs (ins xs r (k,b))) (by unfold aZ;rw [length_map,hlen];exact l5)
   rw [e]
   have hlenh:(aZ kk.hs (ins xs r (k,b))).length=(ins xs r (k,b)).length:=by unfold aZ;rw [length_map]
   rw [hlenh]at perm
   have ordlt:∀i∈order,i<(ins xs r (k,b)).length:=fun i hi=>mem_range.mp (perm.mem_iff.mp hi)
   generalize hxs':(order.map fun i=>(ins xs r (k,b)).getD i (k,b))=xs'
   have xperm:xs'.Perm (ins xs r (k,b)):=by
    rw [←hxs']
    refine(perm.map _).trans (List.Perm.of_eq ?_)
    exact qH _ _
   have ees:order.toArray.filterMap (fun i=>((ins xs r (k,b)).map (entG kk.hs)).toArray[i]?)=(xs'.map (entG kk.hs)).toArray:=by
    rw [List.filterMap_toArray]
    congr 1
    rw [←hxs']
    simp only [List.getElem?_toArray]
    rw [rQ _ ((entG kk.hs) (k,b)) order (by rw [length_map];exact ordlt),map_map]
    refine map_congr_left fun i hi=> ?_
    have:=ordlt i hi
    simp [this]
   have okx:Ok 31 pl' (aZ kk.hs xs'):=by
    have:(order.map fun i=>(aZ kk.hs (ins xs r (k,b))).getD i 0)=aZ kk.hs xs':=by
     rw [←hxs']
     unfold aZ
     rw [map_map]
     refine map_congr_left fun i hi=> ?_
     have:=ordlt i hi
     simp [this]
    rw [this]at ok';exact ok'
   have lenx':xs'.length=(ins xs r (k,b)).length:=xperm.length_eq
   have hz':(xs'.map (entG kk.hs)).toArray.size<=sizeLine:=by rw [size_toArray,length_map,lenx',hlen,sizeLine_eq];omega
   refine zjZ ?_
   show wpAny _ _ (if ((order.toArray.filterMap (fun i=>((ins xs r (k,b)).map (entG kk.hs)).toArray[i]?)).size !=((ins xs r (k,b)).map (entG kk.hs)).toArray.size)=true then _ else pure (order.toArray.filterMap (fun i=>((ins xs r (k,b)).map (entG kk.hs)).toArray[i]?),tb 31 moves' led pl')) _ _ _
   rw [ees,if_neg (by simp [lenx'])]
   refine zjY ?_
   dsimp only
   refine wpAny_storeSet_of hg hd2 ?_ hz'
   have hg':((s.heap.update a (Obj.putSet ((ins xs r (k,b)).map (entG kk.hs)).toArray (tb 7 moves led (ins pl r (nth 7 (kk.hs k) n0).j)))).update a (Obj.putSet (xs'.map (entG kk.hs)).toArray (tb 31 moves' led pl'))).get? a=some (cK kk.hs xs' (ep+1+1) 31 moves' led pl'):=by
    have:=get?_update_self (Obj.putSet (xs'.map (entG kk.hs)).toArray (tb 31 moves' led pl')) hg (by rw [putSet_of _ _ hd2];rfl)
    rw [putSet_of _ _ hd2]at this;exact this
   refine zjY (h _ _ xs' (sb.trans (Heap.SameBut.update _ a _)) ⟨_,31,moves',pl',hg',okx⟩ (.inr ⟨hm,xperm.trans (mI _ _ _)⟩))
 ·have:SetTable.turns mask<=100:=by
   unfold SetTable.turns
   rcases ok.mk' with e|e<;>omega
  omega
end
section
variable {κ:Type} [DecidableEq κ]
structure AccG (val:Nat->κ×Addr)(i:Nat)(xs:List (κ×Addr)):Prop where
 nd:(xs.map (·.1)).Nodup
 of:∀x∈xs,∃j,j<i/\val j=x
 all:∀j,j<i->(val j).1∈xs.map (·.1)
theorem AccG.nil {val:Nat->κ×Addr}:AccG val 0 []:=⟨nodup_nil,fun x h=>absurd h (by simp),fun j h=>absurd h (by omega)⟩
theorem AccG.lenL {val:Nat->κ×Addr}{i:Nat}{xs:List (κ×Addr)}(a:AccG val i xs)(L:List κ)(h:∀j,j<i->(val j).1∈L):xs.length<=L.length:=by
 have h:=mY (xs.map (·.1)) L a.nd fun k hk=>by
  obtain⟨x,hx,rfl⟩:=mem_map.mp hk
  obtain⟨j,hj,e⟩:=a.of x hx
  rw [←e];exact h j hj
 simpa using h
theorem AccG.step {val:Nat->κ×Addr}{i:Nat}{xs xs':List (κ×Addr)}(a:AccG val i xs)(h:((val i).1∈xs.map (·.1)/\xs'=xs)\/((val i).1∉xs.map (·.1)/\xs'.Perm ((val i)::xs))):AccG val (i+1) xs':=by
 rcases h with⟨h1,rfl⟩| ⟨h1,h2⟩
 ·refine⟨a.nd,fun x hx=>let ⟨j,hj,e⟩:=a.of x hx;⟨j,by omega,e⟩,fun j hj=> ?_⟩
  by_cases e:j=i
  ·subst e;exact h1
  ·exact a.all j (by omega)
 ·have hm:=h2.map (·.1)
  refine⟨?_,fun x hx=> ?_,fun j hj=> ?_⟩
  ·rw [hm.nodup_iff,map_cons,nodup_cons];exact⟨h1,a.nd⟩
  ·rcases mem_cons.mp (h2.mem_iff.mp hx)with rfl|h
   ·exact⟨i,by omega,rfl⟩
   ·obtain⟨j,hj,e⟩:=a.of x h;exact⟨j,by omega,e⟩
  ·rw [hm.mem_iff,map_cons,mem_cons]
   by_cases e:j=i
   ·subst e;exact .inl rfl
   ·exact .inr (a.all j (by omega))
end
section
variable {prog:Program}{w:World}{A:Around}{R:Result->Shared->Prop}{I:Addr}{fp wr:List Addr}{G:Array GenState->Array GenState->Prop}{n:Nat}{P:Nat->Value->Prop}{St:Nat->Shared->Prop}{led:Bool}{κ:Type} [DecidableEq κ]{kk:Kk prog w κ}
theorem A69 (hu:A.units+2<cLine)(W:WalksS prog w A.in1 I fp wr G n P St)(D:Addr)(hD:D∉fp)(val:Nat->κ×Addr)(hv:∀i v,P i v->v= .ref (val i).2)(L:List κ)(hL:L.length<=17)(hmL:∀j,j<n->(val j).1∈L){h0:Heap}(hK0:∀j,j<n->kk.is h0 (val j).1 (val j).2)(hnD:∀b o,h0.get? b=some o->b∉D::wr):∀(k i:Nat)(s:Shared)(xs:List (κ×Addr)),n - i=k->i<=n->St i s->(∀b o,h0.get? b=some o->s.heap.get? b=some o)->IsStG kk.hs s.heap D xs led->AccG val i xs->
  (∀s' xs',Moved (D::wr) G s s'->IsStG kk.hs s'.heap D xs' led->AccG val n xs'->R (.ok (.ret .none)) s')->codeAny (model prog w) A (.builtin "set.update.loop" ⟨[.ref D,.ref I],[]⟩) R s:=by
 have nw:D∉wr:=fun h=>hD (W.sub _ h)
 have sub:∀b∈wr,b∈D::wr:=fun b hb=>zjS _ hb
 intro k
 induction k with
 |zero=>
  intro i s xs hk hi st hK hS hA hR
  obtain rfl:i=n:=by omega
  refine codeAny_builtin F.entry_set_update_loop ?_;rw [Around.under_plainId F.plain_set_update_loop _]
  show wpAny _ A.in1 (pyNext (.ref I)>>=_) _ _ s;refine zjZ (W.done s _ _ st fun s' hm=> ?_)
  show wpAny _ A.in1 (ret Value.none) _ _ s'
  exact zjY (hR s' xs (hm.mono sub) (hS.at fun o e=>hm.heap D _ nw e) hA)
 |succ k ih=>
  intro i s xs hk hi st hK hS hA hR
  have hlt:i<n:=by omega
  refine codeAny_builtin F.entry_set_update_loop ?_;rw [Around.under_plainId F.plain_set_update_loop _]
  show wpAny _ A.in1 (pyNext (.ref I)>>=_) _ _ s;refine zjZ (W.item i s _ _ hlt st fun v s' hP st' hm=> ?_)
  obtain rfl:=hv i v hP
  have hB:∀b o,h0.get? b=some o->s'.heap.get? b=some o:=fun b o e=>hm.heap _ _ (fun z=>hnD b o e (zjS _ z)) (hK b o e)
  have hK':∀j,j<n->kk.is s'.heap (val j).1 (val j).2:=fun j hj=>kk.mono (hK0 j hj) hB
  have hA18:=hA.lenL L (fun j hj=>hmL j (by omega))
  show wpAny _ A.in1 (holding [Value.ref (val i).2] (setAdd D (.ref (val i).2))>>=_) _ _ s'
  refine zjZ (wpAny_holding ?_);unfold setAdd;refine wpAny_holding ?_
  refine zjZ (kk.hash (show A.in1.units+1<cLine from hu) (hK' i hlt) fun tk=> ?_)
  refine A5f (s:={s' with toks:=s'.toks+tk}) (k:=(val i).1) (show A.in1.units+1<cLine from hu) (hS.at fun o e=>hm.heap D _ nw e) (fun x hx=> ?_) (hK' i hlt) (by omega) fun b h' xs' hsb hS2 hstep=> ?_
  ·obtain⟨j,hj,rfl⟩:=hA.of x hx
   exact hK' j (by omega)
  refine zjY ⟨plainId_quiet F.plain_set_update_loop _,ih (i+1) _ xs' (by omega) hlt (W.frame _ s' _ _ st' (le_add_right _ _) fun b hb o e=> ?_) (fun b o e=> ?_) hS2 (hA.step hstep) fun s'' xs'' hm'' hS'' hA''=> ?_⟩
  ·rw [hsb.2 b (fun h:b=D=>hD (by rw [←h];exact hb))];exact e
  ·rw [hsb.2 _ (fun h:b=D=>hnD b o e (by rw [h];exact zjR))];exact hB b o e
  ·refine hR s'' xs'' (Moved.trans W.gtrans ((hm.mono sub).then_heap (le_add_right _ _) fun b o hb e=> ?_) hm'') hS'' hA''
   rw [hsb.2 b (fun h:b=D=>hb (by rw [h];exact zjR))];exact e
end
section
variable {prog:Program}{w:World}{A:Around}{E:Value->Shared->Prop}{s:Shared}{κ:Type} [DecidableEq κ]{kk:Kk prog w κ}
theorem A8a (a:Value){Q₁:Value->Shared->Prop}(h:Q₁ (.ref s.heap.objs.size) {s with heap:=s.heap.push (cK kk.hs [] 0 7 0 (!byT w) [])}):
  codeAny (model prog w) A (.call (.builtin "set.__new__") ⟨[.type "set",a],[]⟩) (wants Q₁ E) s:=by
 refine codeAny_of_tree ?_
 show wpAny _ A.in1 (do checkBuiltinCall "set.__new__" ⟨[.type "set",a],[]⟩;again (.builtin "set.__new__" ⟨[.type "set",a],[]⟩)) _ _ s
 refine zjZ (wpAny_of_eq (PySem.F.newCall_set_1 a) (zjY ⟨plainId_quiet PySem.F.plain_set_new _,codeAny_builtin PySem.F.entry_set_new ?_⟩))
 rw [Around.under_plainId PySem.F.plain_set_new _];unfold Builtin.«set.__new__» Builtin.Frozenset.newClass
 have hsub:=PySem.sub_set_self
 obtain⟨hp,g,d,tk,os⟩:=s
 dsimp only;wp_walk
 refine wpAny_askSetting (zjY ?_);dsimp only;simp only [newObj]
 refine zjZ (wpAny_alloc (zjY ?_));exact zjY h
theorem setG_list {l:Addr}{items:Array Value}{val:Nat->κ×Addr}{Q:Value->Shared->Prop}(hu:A.units+8<cLine)(hh:A.handled=none)(hl:s.heap.IsList l items)(hv:∀(i:Nat)(v:Value),items[i]?=some v->v= .ref (val i).2)(hK:∀i,i<items.size->kk.is s.heap (val i).1 (val i).2)(L:List κ)(hL:L.length<=17)(hmL:∀j,j<items.size->(val j).1∈L)
  (h:∀(h':Heap)(tk:Nat)(xs:List (κ×Addr)),IsStG kk.hs h' s.heap.objs.size xs (!byT w)->AccG val items.size xs->(∀b o,b<s.heap.objs.size->s.heap.get? b=some o->h'.get? b=some o)->Q (.ref s.heap.objs.size) {s with heap:=h',toks:=tk}):
  wpAny (model prog w) A (call (.type "set") [.ref l]) Q E s:=by
 obtain⟨c,tl,hmro⟩:=PySem.F.called_set.mro
 have hmade:=PySem.F.called_set.made
 have hsub:=PySem.F.called_set.sub
 refine wpAny_call (codeAny_of_tree ?_)
 show wpAny _ _ (callAny (.type "set") _) _ _ _
 refine zjY ⟨Code.quiet_builtin _ (by decide +kernel),codeAny_builtin PySem.F.entry_type_call ?_⟩
 rw [Around.under_plain (weight_type_call_type "set" [.ref l] []) rfl]
 have h1:=PySem.F.called_set.notType
 have h2:=PySem.F.called_set.canCreate
 have hct:=PySem.F.typeCall_set_1 (.ref l)
 repeat (any_goals (first|assumption|wp_step))
 refine codeAny_mono (A8a (.ref l) (E:=E) (Q₁:=fun obj s₁=>obj= .ref s.heap.objs.size/\s₁={s with heap:=s.heap.push (cK kk.hs [] 0 7 0 (!byT w) [])}) ⟨rfl,rfl⟩) fun r s₁ hr=> ?_
 cases r with
 |error e=>exact hr
 |ok fl=>
  cases fl with
  |ret obj=>
   obtain⟨rfl,rfl⟩:=hr
   have hS:(s.heap.push (cK kk.hs [] 0 7 0 (!byT w) [])).get? s.heap.objs.size=some (cK kk.hs [] 0 7 0 (!byT w) []):=get?_push_size _ rfl
   have hT:Shared.TypeIs {s with heap:=s.heap.push (cK kk.hs [] 0 7 0 (!byT w) [])} (.ref s.heap.objs.size) "set":=⟨_,hS,rfl⟩
   have hli:=PySem.F.called_set.init.lookup
   have hbi:=PySem.F.called_set.init.bind (.ref s.heap.objs.size)
   repeat (any_goals (first|assumption|wp_step))
   refine codeAny_mono (codeAny_call_builtin (R:=wants (fun r s₂=>r= .none/\∃h' tk xs,s₂={s with heap:=h',toks:=tk}/\IsStG kk.hs h' s.heap.objs.size xs (!byT w)/\AccG val items.size xs/\
     (∀b o,b<s.heap.objs.size->s.heap.get? b=some o->h'.get? b=some o)) E) PySem.F.called_set.init.plain PySem.F.entry_set_init (check_set_init_1 hT ?_)) fun r₂ s₂ hr₂=> ?_
   ·obtain⟨ol,hol,hcl,nl,hdl⟩:=hl
    obtain⟨ocls,odict,odata,oslots⟩:=ol
    simp only at hcl hdl
    subst hcl;subst hdl
    have hol':(s.heap.push (cK kk.hs [] 0 7 0 (!byT w) [])).get? l=some {cls:=.type "list",dict:=odict,data:=.seq items nl,slots:=oslots}:=zjX _ hol
    have hsls:=PySem.F.sub_list_set
    have hslf:=PySem.F.sub_list_frozenset
    have hne:(Value.type "list" ==Value.type "dict")=false:=by decide
    have hl1:(s.heap.push (cK kk.hs [] 0 7 0 (!byT w) [])).IsList l items:=⟨_,hol',rfl,nl,rfl⟩
    unfold Builtin.«set.__init__» noKeywords Builtin.Frozenset.updateFrom
    generalize hPI:pyIter=PI
    wp_walk
    subst hPI
    refine wpAny_pyIter_list hl1 ?_;refine zjZ (wpAny_runValue ?_)
    have hlS:l<s.heap.objs.size:=zjT hol
    have hh3:A.in1.in1.in1.handled=none:=by simp [hh]
    have hneI:l≠(s.heap.push (cK kk.hs [] 0 7 0 (!byT w) [])).objs.size:=by rw [size_push];exact ne_of_lt (lt_succ_of_lt hlS)
    have hSf:s.heap.objs.size∉[(s.heap.push (cK kk.hs [] 0 7 0 (!byT w) [])).objs.size,l]:=by
     rw [size_push];intro hm
     rcases mem_cons.mp hm with e|e
     ·exact absurd e (ne_of_lt (Nat.lt_succ_self _))
     ·exact absurd (mem_singleton.mp e) (ne_of_gt hlS)
    refine A69 (kk:=kk) (h0:=s.heap) (by show A.units+1+1+2<cLine;omega) ((Walks.list hh3 _ l hneI items).toS) s.heap.objs.size hSf val hv L hL hmL hK (fun b o e hmm=> ?_) (items.size - 0) 0 _ [] (by omega) (zero_le _) ⟨⟨_,get?_push_size _ rfl,rfl,rfl⟩,(hl1.push _)⟩ (fun b o e=>zjX _ (zjX _ e)) (show IsStG kk.hs _ _ [] (!byT w)from⟨0,7,0,[],zjX _ hS,Ok.nil⟩) AccG.nil ?_
    ·have z1:=zjT e
     rcases mem_cons.mp hmm with z|z
     ·exact ne_of_lt z1 z
     ·rw [size_push]at z
      exact ne_of_lt (lt_succ_of_lt z1) (mem_singleton.mp z)
    intro s' xs' hm hS' hA'
    obtain⟨h',g',d',tk',os'⟩:=s'
    have eg:g'=s.gens:=hm.gens
    have ed:d'=s.drawn:=hm.drawn
    have eo:os'=s.os:=hm.os
    subst eg;subst ed;subst eo
    show wpAny _ _ _ _ _ _;refine zjY ?_;show wpAny _ _ (ret Value.none) _ _ _
    refine zjY ⟨rfl,h',tk',xs',rfl,hS',hA',fun b o hb e=> ?_⟩
    refine hm.heap b o (fun hmm=> ?_) (zjX _ (zjX _ e))
    rcases mem_cons.mp hmm with z|z
    ·exact ne_of_lt hb z
    ·rw [size_push]at z
     exact ne_of_lt (lt_succ_of_lt hb) (mem_singleton.mp z)
   ·cases r₂ with
    |error e=>exact hr₂
    |ok fl₂=>
     cases fl₂ with
     |ret r=>
      obtain⟨rfl,h',tk,xs',rfl,hS',hA',hk'⟩:=hr₂
      repeat (any_goals (first|assumption|wp_step))
      exact h _ _ _ hS' hA' hk'
     |_=>exact hr₂.elim
  |_=>exact hr.elim
end
section
variable {prog:Program}{w:World}{A:Around}{E:Value->Shared->Prop}{s:Shared}{κ:Type}{hf:κ->Int}
end
section
variable {prog:Program}{w:World}{A:Around}{E:Value->Shared->Prop}{s:Shared}{κ:Type}{hf:κ->Int}
end
section
variable {prog:Program}{w:World}{A:Around}{E:Value->Shared->Prop}{s:Shared}{κ:Type}{hf:κ->Int}
end
section
variable {prog:Program}{w:World}
inductive P2 (R:Addr->List Int->Prop):List Addr->List (List Int)->Prop
 |nil:P2 R [] []
 |cons {a:Addr} {k:List Int} {as:List Addr} {ks:List (List Int)}:R a k->P2 R as ks->P2 R (a::as) (k::ks)
theorem P2.imp {R S:Addr->List Int->Prop}{as:List Addr}{ks:List (List Int)}(h:P2 R as ks)(f:∀a k,R a k->S a k):P2 S as ks:=by
 induction h with
 |nil=>exact .nil
 |cons r _ ih=>exact .cons (f _ _ r) ih
theorem P2.len {R:Addr->List Int->Prop}{as:List Addr}{ks:List (List Int)}(h:P2 R as ks):as.length=ks.length:=by
 induction h with
 |nil=>rfl
 |cons _ _ ih=>rw [length_cons,length_cons,ih]
theorem P2.inj {R S:Addr->List Int->Prop}{as:List Addr}{ks ls:List (List Int)}(f:∀a k l,R a k->S a l->k=l)(h:P2 R as ks)(g:P2 S as ls):ks=ls:=by
 induction h generalizing ls with
 |nil=>cases g;rfl
 |cons r _ ih=>cases g with|cons r' t'=>rw [f _ _ _ r r',ih t']
def IsN (prog:Program)(w:World)(h:Heap)(ks:List (List Int))(a:Addr):Prop:=∃o items n bs,h.get? a=some o/\o.cls= .type "tuple"/\o.data= .seq items n/\items.toList=(bs:List Addr).map Value.ref/\P2 (fun b k=>KAt prog w h k b) bs ks
def hN (ks:List (List Int)):Int:=reduceHash (Builtin.Tuple.tupleHashOf (ks.map hT))
theorem IsN.typeIs {s:Shared}{ks:List (List Int)}{a:Addr}(x:IsN prog w s.heap ks a):s.TypeIs (.ref a) "tuple":=let ⟨o,_,_,_,ho,hc,_⟩:=x;⟨o,ho,hc⟩
theorem IsN.inj {h:Heap}{a:Addr}{x y:List (List Int)}(hx:IsN prog w h x a)(hy:IsN prog w h y a):x=y:=by
 obtain⟨o,items,n,bs,ho,_,hd,hi,k1⟩:=hx
 obtain⟨o',items',n',bs',ho',_,hd',hi',k1'⟩:=hy
 obtain rfl:o=o':=Option.some.inj (ho.symm.trans ho')
 rw [hd]at hd'
 injection hd' with h1 _
 subst h1
 rw [hi]at hi'
 have e:bs=bs':=by
  have inj:∀l1 l2:List Addr,l1.map Value.ref=l2.map Value.ref->l1=l2:=by
   intro l1
   induction l1 with
   |nil=>intro l2 e;cases l2 with|nil=>rfl|cons _ _=>cases e
   |cons b l1 ih=>
    intro l2 e
    cases l2 with
    |nil=>cases e
    |cons c l2=>simp only [map_cons,List.cons.injEq,Value.ref.injEq]at e;rw [e.1,ih l2 e.2]
  exact inj _ _ hi'
 subst e
 exact P2.inj (fun a k l r r'=>r.inj r') k1 k1'
theorem tO {bs:List Addr}{v:Value}(h:v∈bs.map Value.ref):∃b∈bs,v= .ref b:=by
 obtain⟨b,hb,e⟩:=mem_map.mp h
 exact⟨b,hb,e.symm⟩
theorem P2.mem {R:Addr->List Int->Prop}{as:List Addr}{ks:List (List Int)}(h:P2 R as ks){a:Addr}(ha:a∈as):∃k,R a k:=by
 induction h with
 |nil=>cases ha
 |cons r _ ih=>
  rcases mem_cons.mp ha with rfl|h
  ·exact⟨_,r⟩
  ·exact ih h
variable {A:Around}{E:Value->Shared->Prop}{s:Shared}
theorem A11 {k:List Int}{a:Addr}{Q:Bool->Shared->Prop}(hk:KAt prog w s.heap k a)(h:Q false s):wpAny (model prog w) A (ofAClassStatement 7 (.ref a)) Q E s:=by
 have hT:=hk.typeIs
 obtain⟨o,items,n,ho,_,hd,hi⟩:=hk
 unfold ofAClassStatement
 refine zjZ (wpAny_typeOf hT ?_)
 dsimp only
 simp only [beq_self_eq_true,↓reduceIte]
 refine zjZ (zjY ?_)
 simp only [Bool.not_true,Bool.false_eq_true,↓reduceIte]
 refine zjZ (wpAny_seqItems ho hd ?_)
 refine zjZ ?_
 rw [←Array.forIn_toList]
 refine wpAny_forIn_list _ (fun rest r s'=>r.1=none/\s'=s/\∀v∈rest,∃i t,v=Value.int i t) _ ?_ ?_ _ _ ⟨rfl,rfl,KAt.ints (h:=s.heap) hi⟩
 ·rintro v rest r s' ⟨hr,rfl,hall⟩
  obtain⟨i,t,rfl⟩:=hall v zjR
  refine zjZ ?_
  unfold ofAClassStatement
  refine zjY ?_
  simp only [Bool.false_eq_true,↓reduceIte]
  exact zjY ⟨rfl,rfl,fun u hu'=>hall u (zjS _ hu')⟩
 ·rintro⟨r1,r2⟩ s' ⟨hr,rfl,_⟩
  simp only at hr
  subst hr
  exact zjY h
theorem A79 {ks:List (List Int)}{a:Addr}{Q:Bool->Shared->Prop}(hk:IsN prog w s.heap ks a)(h:Q false s):wpAny (model prog w) A (ofAClassStatement 8 (.ref a)) Q E s:=by
 have hT:=hk.typeIs
 obtain⟨o,items,n,bs,ho,_,hd,hi,hP⟩:=hk
 unfold ofAClassStatement
 refine zjZ (wpAny_typeOf hT ?_)
 dsimp only
 simp only [beq_self_eq_true,↓reduceIte]
 refine zjZ (zjY ?_)
 simp only [Bool.not_true,Bool.false_eq_true,↓reduceIte]
 refine zjZ (wpAny_seqItems ho hd ?_)
 refine zjZ ?_
 rw [←Array.forIn_toList]
 refine wpAny_forIn_list _ (fun rest r s'=>r.1=none/\s'=s/\∀v∈rest,∃b∈bs,v=Value.ref b) _ ?_ ?_ _ _ ⟨rfl,rfl,fun v hv=>tO (by rw [hi]at hv;exact hv)⟩
 ·rintro v rest r s' ⟨hr,rfl,hall⟩
  obtain⟨b,hb,rfl⟩:=hall v zjR
  obtain⟨k,hkb⟩:=hP.mem hb
  refine zjZ (A11 hkb ?_)
  simp only [Bool.false_eq_true,↓reduceIte]
  exact zjY ⟨rfl,rfl,fun u hu'=>hall u (zjS _ hu')⟩
 ·rintro⟨r1,r2⟩ s' ⟨hr,rfl,_⟩
  simp only at hr
  subst hr
  exact zjY h
theorem A3j {k:List Int}{a:Addr}{Q:Bool->Shared->Prop}(hk:KAt prog w s.heap k a)(h:Q true s):wpAny (model prog w) A (hashByValue 7 (.ref a)) Q E s:=by
 have hT:=hk.typeIs
 obtain⟨o,items,n,ho,_,hd,hi⟩:=hk
 unfold hashByValue
 refine zjZ (wpAny_specialOf hT F.slot_tuple_hash.lookup ?_)
 show wpAny _ _ (seqItems? (.ref a)>>=_) _ _ s
 refine zjZ (wpAny_seqItems ho hd ?_)
 refine zjZ ?_
 show wpAny _ _ (forIn items _ _) _ _ s
 rw [←Array.forIn_toList]
 refine wpAny_forIn_list _ (fun rest r s'=>r.1=none/\s'=s/\∀v∈rest,∃i t,v=Value.int i t) _ ?_ ?_ _ _ ⟨rfl,rfl,KAt.ints (h:=s.heap) hi⟩
 ·rintro v rest r s' ⟨hr,rfl,hall⟩
  obtain⟨i,t,rfl⟩:=hall v zjR
  refine zjZ ?_
  unfold hashByValue
  refine zjY ?_
  simp only [Bool.not_true,Bool.false_eq_true,↓reduceIte]
  exact zjY ⟨rfl,rfl,fun u hu'=>hall u (zjS _ hu')⟩
 ·rintro⟨r1,r2⟩ s' ⟨hr,rfl,_⟩
  simp only at hr
  subst hr
  exact zjY h
theorem A0r {ks:List (List Int)}{a:Addr}{Q:Bool->Shared->Prop}(hk:IsN prog w s.heap ks a)(h:Q true s):wpAny (model prog w) A (hashByValue 8 (.ref a)) Q E s:=by
 have hT:=hk.typeIs
 obtain⟨o,items,n,bs,ho,_,hd,hi,hP⟩:=hk
 unfold hashByValue
 refine zjZ (wpAny_specialOf hT F.slot_tuple_hash.lookup ?_)
 show wpAny _ _ (seqItems? (.ref a)>>=_) _ _ s
 refine zjZ (wpAny_seqItems ho hd ?_)
 refine zjZ ?_
 show wpAny _ _ (forIn items _ _) _ _ s
 rw [←Array.forIn_toList]
 refine wpAny_forIn_list _ (fun rest r s'=>r.1=none/\s'=s/\∀v∈rest,∃b∈bs,v=Value.ref b) _ ?_ ?_ _ _ ⟨rfl,rfl,fun v hv=>tO (by rw [hi]at hv;exact hv)⟩
 ·rintro v rest r s' ⟨hr,rfl,hall⟩
  obtain⟨b,hb,rfl⟩:=hall v zjR
  obtain⟨k,hkb⟩:=hP.mem hb
  refine zjZ (A3j hkb ?_)
  simp only [Bool.not_true,Bool.false_eq_true,↓reduceIte]
  exact zjY ⟨rfl,rfl,fun u hu'=>hall u (zjS _ hu')⟩
 ·rintro⟨r1,r2⟩ s' ⟨hr,rfl,_⟩
  simp only at hr
  subst hr
  exact zjY h
theorem A63 {k:List Int}{a:Addr}{Q:Bool->Shared->Prop}(hk:KAt prog w s.heap k a)(h:Q true s):wpAny (model prog w) A (eqIsQuiet 7 (.ref a)) Q E s:=by
 have hT:=hk.typeIs
 obtain⟨o,items,n,ho,_,hd,hi⟩:=hk
 unfold eqIsQuiet
 refine zjZ (wpAny_specialOf hT F.slot_tuple_eq.lookup ?_)
 show wpAny _ _ (isInstance (.ref a) (.type "tuple")>>=_) _ _ s
 refine zjZ (wpAny_isInstance hT isSubtype_tuple_tuple ?_)
 simp only [Bool.not_true,Bool.false_eq_true,if_false]
 refine zjZ (wpAny_seqItems ho hd ?_)
 refine zjZ ?_
 show wpAny _ _ (forIn items _ _) _ _ s
 rw [←Array.forIn_toList]
 refine wpAny_forIn_list _ (fun rest r s'=>r.1=none/\s'=s/\∀v∈rest,carriedByValue v=true) _ ?_ ?_ _ _ ⟨rfl,rfl,hi.byValue⟩
 ·rintro v rest r s' ⟨hr,rfl,hall⟩
  rw [eqIsQuiet_byValue _ (hall v zjR)]
  refine zjZ (zjY ?_)
  simp only [Bool.not_true,Bool.false_eq_true,if_false]
  exact zjY ⟨rfl,rfl,fun u hu'=>hall u (zjS _ hu')⟩
 ·rintro⟨r1,r2⟩ s' ⟨hr,rfl,_⟩
  simp only at hr
  subst hr
  exact zjY h
theorem A9w {ks:List (List Int)}{a:Addr}{Q:Bool->Shared->Prop}(hk:IsN prog w s.heap ks a)(h:Q true s):wpAny (model prog w) A (eqIsQuiet 8 (.ref a)) Q E s:=by
 have hT:=hk.typeIs
 obtain⟨o,items,n,bs,ho,_,hd,hi,hP⟩:=hk
 unfold eqIsQuiet
 refine zjZ (wpAny_specialOf hT F.slot_tuple_eq.lookup ?_)
 show wpAny _ _ (isInstance (.ref a) (.type "tuple")>>=_) _ _ s
 refine zjZ (wpAny_isInstance hT isSubtype_tuple_tuple ?_)
 simp only [Bool.not_true,Bool.false_eq_true,if_false]
 refine zjZ (wpAny_seqItems ho hd ?_)
 refine zjZ ?_
 show wpAny _ _ (forIn items _ _) _ _ s
 rw [←Array.forIn_toList,hi]
 refine wpAny_forIn_list _ (fun rest r s'=>r.1=none/\s'=s/\∀v∈rest,∃b∈bs,v=Value.ref b) _ ?_ ?_ _ _ ⟨rfl,rfl,fun v hv=>tO hv⟩
 ·rintro v rest r s' ⟨hr,rfl,hall⟩
  obtain⟨b,hb,rfl⟩:=hall v zjR
  obtain⟨k,hkb⟩:=hP.mem hb
  refine zjZ (A63 hkb ?_)
  simp only [Bool.not_true,Bool.false_eq_true,if_false]
  exact zjY ⟨rfl,rfl,fun u hu'=>hall u (zjS _ hu')⟩
 ·rintro⟨r1,r2⟩ s' ⟨hr,rfl,_⟩
  simp only at hr
  subst hr
  exact zjY h
theorem A6n {ks:List (List Int)}{a:Addr}{Q:Int->Shared->Prop}(hu:A.units+1<cLine)(hk:IsN prog w s.heap ks a)(h:∀n,Q (hN ks) {s with toks:=s.toks+n}):wpAny (model prog w) A (pyHash (.ref a)) Q E s:=by
 have hT:=hk.typeIs
 obtain⟨o,items,n,bs,ho,_,hd,hi,hP⟩:=hk
 have hu0:A.units<cLine:=lt_of_succ_lt hu
 unfold pyHash
 first|unfold pyHashByItsType|skip
 first|refine zjZ (wpAny_cRoomFor_or (.inr hu0) ?_)|skip
 refine zjZ (wpAny_specialOf hT F.slot_tuple_hash.lookup ?_)
 show wpAny _ _ (if (some (Value.builtin "tuple.__hash__")==some Value.none)=true then _ else _) Q E s
 rw [if_neg (by rw [beq_builtin_none];exact Bool.false_ne_true)]
 refine zjZ (wpAny_specialOf hT F.slot_tuple_hash.lookup ?_)
 show wpAny _ _ (callSpecialIfBoundUnlessNone? (.ref a) "__hash__" _>>=_) Q E s
 refine zjZ (wpAny_callSpecialIfBoundUnlessNone?_slot hT F.slot_tuple_hash (wpAny_call_entry F.slot_tuple_hash hT F.entry_tuple_hash ?_ (F.args_tuple_hash_1 _)))
 show wpAny _ _ (Builtin.Tuple.tupleItemsOf (.ref a)>>=_) _ _ s
 refine zjZ (wpAny_tupleItemsOf ho hd ?_)
 refine zjZ ?_
 rw [←Array.forIn_toList,hi]
 refine wpAny_forIn_list _
  (fun rest (g:Array Int) s'=> ∃bs' ks' pre n,rest=(bs':List Addr).map Value.ref/\P2 (fun b k=>KAt prog w s.heap k b) bs' ks'/\pre++ks'=ks/\g.toList=pre.map Stb.hT/\s'={s with toks:=s.toks+n})
  _ ?_ ?_ _ _ ⟨bs,ks,[],0,rfl,hP,rfl,rfl,rfl⟩
 ·rintro x rest g s' ⟨bs',ks',pre,n,hr,hP',hpre,hg,rfl⟩
  cases hP' with
  |nil=>cases hr
  | @cons b k bs' ks' r t=>
   simp only [map_cons,List.cons.injEq]at hr
   obtain⟨rfl,rfl⟩:=hr
   refine zjZ (wpAny_pyHash_tuple (s:={s with toks:=s.toks+n}) (A:=A.in1) hu r ?_)
   have nxt:∃bs'' ks'' pre' n',bs'.map Value.ref=(bs'':List Addr).map Value.ref/\P2 (fun b k=>KAt prog w s.heap k b) bs'' ks''/\pre'++ks''=ks/\(g.push (Stb.hT k)).toList=pre'.map Stb.hT/\({s with toks:=s.toks+n+(k.length+1)}:Shared)={s with toks:=s.toks+n'}:=
    ⟨bs',ks',pre++[k],n+(k.length+1),rfl,t,by rw [append_assoc];exact hpre,by rw [Array.toList_push,hg,map_append];rfl,by rw [Nat.add_assoc]⟩
   first
    |exact zjY nxt
    |exact zjZ (zjY (zjY nxt))
 ·rintro g s' ⟨bs',ks',pre,n,hr,hP',hpre,hg,rfl⟩
  have e:ks'=[]:=by
   cases hP' with
   |nil=>rfl
   |cons _ _=>cases hr
  subst e
  rw [append_nil]at hpre
  subst hpre
  show wpAny _ _ (retInt (Builtin.Tuple.tupleHashOf g.toList)) _ _ _
  rw [hg]
  refine wpAny_ret_mkInt ?_
  have h:=h (n+1)
  unfold hN reduceHash at h
  generalize Builtin.Tuple.tupleHashOf (pre.map Stb.hT)=hh at h⊢
  show wpAny _ _ (if (decide (-(2:Int)^63<=hh)&&decide (hh<2^63))=true then _ else _) Q E _
  by_cases hr:(decide (-(2:Int)^63<=hh)&&decide (hh<2^63))=true
  ·rw [if_pos hr]
   rw [if_pos hr]at h
   exact zjY h
  ·rw [if_neg hr]
   rw [if_neg hr]at h
   exact zjZ (wpAny_rule (zjY h))
theorem A1k {x y:List (List Int)}{a b:Addr}{P:Fin->Shared->Prop}(hu:A.units<cLine)(hx:IsN prog w s.heap x a)(hy:IsN prog w s.heap y b)(h:P (.done (.ret (.bool (decide (x=y))))) s):
  wpAny (model prog w) A (Builtin.«tuple.__eq__» ⟨[.ref a,.ref b],[]⟩) P E s:=by
 have hTb:=hy.typeIs
 obtain⟨oa,xs,na,bs,hoa,_,hda,hia,kx⟩:=hx
 obtain⟨ob,ys,nb,cs,hob,_,hdb,hib,ky⟩:=hy
 show wpAny _ _ (isInstance (.ref b) (.type "tuple")>>=_) _ _ s
 refine zjZ (wpAny_isInstance hTb isSubtype_tuple_tuple ?_)
 simp only [Bool.not_true,Bool.false_eq_true,if_false]
 refine zjZ (wpAny_tupleItemsOf hoa hda ?_)
 refine zjZ (wpAny_tupleItemsOf hob hdb ?_)
 refine zjZ ?_
 rw [hia,hib]
 refine wpAny_forIn_list _
  (fun rest r s'=>r.1=none/\s'=s/\∃bs' cs' ks ls pre,rest=((bs':List Addr).map Value.ref).zip ((cs':List Addr).map Value.ref)/\P2 (fun b k=>KAt prog w s.heap k b) bs' ks/\P2 (fun b k=>KAt prog w s.heap k b) cs' ls/\x=pre++ks/\y=pre++ls)
  _ ?_ ?_ _ _ ⟨rfl,rfl,bs,cs,x,y,[],rfl,kx,ky,rfl,rfl⟩
 ·rintro⟨u,v⟩ rest r s' ⟨hr,rfl,bs',cs',ks,ls,pre,hz,k1,k2,ex,ey⟩
  cases k1 with
  |nil=>cases hz
  | @cons b1 k bs' ks r1 t1=>
   cases k2 with
   |nil=>cases hz
   | @cons c1 l cs' ls r2 t2=>
    simp only [map_cons,zip_cons_cons,List.cons.injEq,Prod.mk.injEq]at hz
    obtain⟨⟨rfl,rfl⟩,rfl⟩:=hz
    refine zjZ (wpAny_eqBool_tuple hu r1 r2 ?_)
    by_cases hk:k=l
    ·rw [zjV hk]
     simp only [Bool.not_true,Bool.false_eq_true,if_false]
     exact zjY ⟨rfl,rfl,bs',cs',ks,ls,pre++[k],rfl,t1,t2,by rw [ex,append_assoc];rfl,by rw [ey,append_assoc,hk];rfl⟩
    ·rw [zjU hk]
     simp only [Bool.not_false,if_true]
     have hf':decide (x=y)=false:=zjU fun e=>hk (by
      rw [ex,ey]at e
      exact(List.cons.inj (List.append_cancel_left e)).1)
     rw [hf']at h
     exact zjZ (zjY (zjY (zjY h)))
 ·rintro⟨r1,r2⟩ s' ⟨hr,rfl,bs',cs',ks,ls,pre,hz,k1,k2,ex,ey⟩
  simp only at hr
  subst hr
  refine zjY ?_
  have z1:xs.size=x.length:=by have:=congrArg List.length hia;rw [length_map,kx.len]at this;simpa using this
  have z2:ys.size=y.length:=by have:=congrArg List.length hib;rw [length_map,ky.len]at this;simpa using this
  show P (.done (.ret (.bool (xs.size==ys.size)))) s'
  rw [z1,z2]
  have e:(x.length==y.length)=decide (x=y):=by
   rw [Bool.eq_iff_iff,beq_iff_eq,decide_eq_true_eq]
   refine⟨fun e=> ?_,fun e=>by rw [e]⟩
   rw [ex,ey,length_append,length_append]at e
   have e':ks.length=ls.length:=by omega
   have:ks=[]\/ls=[]:=by
    cases k1 with
    |nil=>exact .inl rfl
    |cons _ _=>cases k2 with|nil=>exact .inr rfl|cons _ _=>cases hz
   rcases this with rfl|rfl
   ·rw [ex,ey,List.eq_nil_of_length_eq_zero e'.symm]
   ·rw [ex,ey,List.eq_nil_of_length_eq_zero e']
  rw [e]
  exact h
theorem A6z {x y:List (List Int)}{a b:Addr}{Q:Bool->Shared->Prop}(hu:A.units+1<cLine)(hx:IsN prog w s.heap x a)(hy:IsN prog w s.heap y b)(h:Q (decide (x=y)) s):
  wpAny (model prog w) A (eqBool (.ref a) (.ref b)) Q E s:=by
 unfold eqBool
 try with_reducible refine wpAny_holding ?_
 show wpAny _ _ (if (Value.ref a==Value.ref b)=true then _ else _) Q E s
 by_cases hab:(Value.ref a==Value.ref b)=true
 ·rw [if_pos hab]
  have e:a=b:=by have:=eq_of_beq hab;injection this
  subst e
  obtain rfl:=IsN.inj hx hy
  exact zjZ (wpAny_rule (zjY (by simpa using h)))
 ·rw [if_neg hab]
  exact zjZ (wpAny_richCompare_same_room (op:=.Eq) hx.typeIs hy.typeIs F.slot_tuple_eq
   (wpAny_call_entry F.slot_tuple_eq hx.typeIs F.entry_tuple_eq (A1k hu hx hy ⟨_,rfl,(fun e=>nomatch e),wpAny_truthy_bool h⟩) (F.args_tuple_eq_2 _ _)) (lt_of_succ_lt hu))
end
def kkN (prog:Program)(w:World):Kk prog w (List (List Int))where
 hs:=hN
 is:=IsN prog w
 mono:=fun⟨o,items,n,bs,ho,hc,hd,hi,k⟩ e=> ⟨o,items,n,bs,e _ _ ho,hc,hd,hi,k.imp fun _ _ x=>x.at fun o=>e _ o⟩
 tup:=fun⟨o,_,_,_,ho,hc,_⟩=> ⟨o,ho,hc⟩
 quiet:=fun hk h=>A9w hk h
 noClass:=fun hk h=>A79 hk h
 byValue:=fun hk h=>A0r hk h
 eqb:=fun hu hx hy h=>A6z hu hx hy h
 hash:=fun hu hk h=>A6n hu hk h
end Gs
namespace L2
open PySem PySem.Spec PyProof.Rows Srt Stb
section
variable {X:Cx}
end
def gK {κ:Type}(hf:κ->Int)(w:World)(a:Addr)(xs:List (κ×Addr)):HO:=.ext fun h=>Gs.IsStG hf h a xs (!byT w)
structure mF {κ:Type}(zs:List (Addr×κ))(xs:List (κ×Addr)):Prop where
 nd:(xs.map (·.1)).Nodup
 of:∀x∈xs,(x.2,x.1)∈zs
 all:∀z∈zs,z.2∈xs.map (·.1)
theorem A3c {κ:Type}{zs:List (Addr×κ)}{xs:List (κ×Addr)}{d:κ}(hA:Gs.AccG (fun i=>((zs.getD i (0,d)).2,(zs.getD i (0,d)).1)) zs.length xs):mF zs xs:=by
 have gd:∀i (hi:i<zs.length),zs.getD i (0,d)=zs[i]:=fun i hi=>by simp [hi]
 refine⟨hA.nd,fun x hx=> ?_,fun z hz=> ?_⟩
 ·obtain⟨j,hj,e⟩:=hA.of x hx
  rw [←e]
  show((zs.getD j (0,d)).1,(zs.getD j (0,d)).2)∈zs
  rw [gd j hj]
  exact getElem_mem hj
 ·obtain⟨j,hj,e⟩:=getElem_of_mem hz
  have:=hA.all j hj
  rw [gd j hj,e]at this
  exact this
section
variable {X:Cx}{κ:Type} [DecidableEq κ]{kk:Gs.Kk X.prog X.w κ}{Pz:Hp->Addr×κ->Prop}
theorem vN (d:κ)(hc:X.calm=true)(hu:X.A.units+8<cLine)(lift:∀{pins:List (Addr×Obj)}{σ:St}{H:Hp}{s:Shared}{z:Addr×κ},Inv X pins σ H s->Pz H z->kk.is s.heap z.2 z.1):
  fE X (.type "set") (fun as H Q=> ∃(p:Addr)(zs:List (Addr×κ))(L:List κ),as=[.ref p]/\SqL X.K H p (zs.map fun z=>V.ref z.1)/\(∀z∈zs,Pz H z)/\L.length<=17/\(∀z∈zs,z.2∈L)/\∀l xs,H l=none->mF zs xs->Q (.ref l) (upd H l (gK kk.hs X.w l xs))):=by
 intro pins s σ H as us Q I r h
 obtain⟨p,zs,L,rfl,hq,hz,hL,hm,q⟩:=h
 obtain⟨u,rfl,rx⟩:=fT r
 cases rx
 obtain⟨its,rv,pl,_⟩:=I.list hq
 have hits:its=zs.map fun z=>Value.ref z.1:=by
  have:=jW (as:=zs.map (·.1)) (us:=its) (by rw [map_map];exact rv)
  rw [this,map_map];rfl
 subst hits
 have sz:(zs.map fun z=>Value.ref z.1).toArray.size=zs.length:=by simp
 have gd:∀i (hi:i<zs.length),zs.getD i (0,d)=zs[i]:=fun i hi=>by simp [hi]
 refine Gs.setG_list (kk:=kk) (val:=fun i=>((zs.getD i (0,d)).2,(zs.getD i (0,d)).1)) hu (I.ok.hd hc) pl.isList (fun i v e=> ?_) (fun i hi=> ?_) L hL (fun i hi=> ?_) fun h' tk xs hS hA hk=> ?_
 ·have e':(zs.map fun z=>Value.ref z.1)[i]?=some v:=by simpa using e
  rw [getElem?_map]at e'
  cases z:zs[i]? with
  |none=>rw [z]at e';cases e'
  |some y=>
   rw [z]at e';cases e'
   show Value.ref y.1=Value.ref (zs.getD i (0,d)).1
   rw [List.getD_eq_getElem?_getD,z];rfl
 ·rw [sz]at hi
  show kk.is s.heap (zs.getD i (0,d)).2 (zs.getD i (0,d)).1
  rw [gd i hi]
  exact lift I (hz _ (getElem_mem hi))
 ·rw [sz]at hi
  show(zs.getD i (0,d)).2∈L
  rw [gd i hi]
  exact hm _ (getElem_mem hi)
 ·rw [sz]at hA
  obtain⟨ep,mask,moves,pl',ho,_⟩:=id hS
  exact⟨.ref s.heap.objs.size,_,I.laid (t':=tk) (fun b o q=>hk b o (zjT q) q) (zjQ _) (o:=gK kk.hs X.w _ xs) ⟨hS,⟨_,ho⟩,fun h1 h2 x e=>x.at e⟩,rfl,q _ xs (I.hok.fresh (zjQ _)) (A3c hA)⟩
def lH (cs:List (Int×Int)):List (List Int):=cs.map fun c=> [c.1,c.2]
theorem zF:∀{a b:List (Int×Int)},lH a=lH b->a=b
 | [],[],_=>rfl
 | [],_::_,h=>by cases h
 |_::_,[],h=>by cases h
 |c::a,d::b,h=>by
  simp only [lH,map_cons,List.cons.injEq,and_true]at h
  rw [zF (a:=a) (b:=b) h.2,Prod.ext h.1.1 h.1.2]
end
section
variable {X:Cx}
theorem tG {pins:List (Addr×Obj)}{σ:St}{H:Hp}{s:Shared}{z:Addr×List (List Int)}(I:Inv X pins σ H s)(h:∃cs,z.2=lH cs/\SqA H z.1 cs):(Gs.kkN X.prog X.w).is s.heap z.2 z.1:=by
 obtain⟨a,ks⟩:=z
 obtain⟨cs,rfl,ps,ht,hP⟩:=h
 obtain⟨hsz,its,rv,o,ho,hc,n,hd⟩:=(show ObjOk X.prog X.w H s.heap a (.tup _)from I.hok _ _ ht)
 refine⟨o,its.toArray,n,ps,ho,hc,hd,jW rv,?_⟩
 clear rv hd ht ho hc hsz
 induction hP with
 |nil=>exact .nil
 |cons r t ih=>exact .cons (A9c I (ks:=[_,_]) r) ih
end
end L2
namespace Wlk
open PySem PyProof.Rows Srt Cyc Grd L2
theorem nD {α:Type} [DecidableEq α]:∀{A B:List α},A.Nodup->(∀x∈A,x∈B)->A.length<=B.length
 | [],B,_,_=>zero_le _
 |a::A,B,h,hs=>by
  have ha:=nodup_cons.mp h
  have hB:=hs a zjR
  have ih:=nD (A:=A) (B:=B.erase a) ha.2 fun x hx=>(List.mem_erase_of_ne (fun e=>ha.1 (by rw [←e];exact hx))).mpr (hs x (zjS _ hx))
  rw [List.length_erase_of_mem hB]at ih
  have:=length_pos_of_mem hB
  rw [length_cons]
  omega
theorem yN:∀A:List Pl,∃B:Int,∀d∈A,d.1<B/\d.2<B
 | []=> ⟨0,fun d h=>by cases h⟩
 |c::A=>by
  obtain⟨B,h⟩:=yN A
  refine⟨max B (max (c.1+1) (c.2+1)),fun d hd=> ?_⟩
  rcases mem_cons.mp hd with rfl|hd
  ·omega
  ·have:=h d hd;omega
def hasR (A:List Pl)(c:Pl):Bool:=decide ((c.1,c.2+1)∈A)
def hasB (A:List Pl)(c:Pl):Bool:=decide ((c.1+1,c.2)∈A)
theorem rend {A:List Pl}{B:Int}(hB:∀d∈A,d.1<B/\d.2<B):∀(n:Nat)(c:Pl),c∈A->(B - c.2).toNat<=n->∃d∈A,d.1=c.1/\hasR A d=false
 |0,c,hc,h=>by have:=(hB c hc).2;omega
 |n+1,c,hc,h=>by
  by_cases z:(c.1,c.2+1)∈A
  ·obtain⟨d,h1,h2,h3⟩:=rend hB n (c.1,c.2+1) z (by have:=(hB c hc).2;show(B -(c.2+1)).toNat<=n;omega)
   exact⟨d,h1,h2,h3⟩
  ·exact⟨c,hc,rfl,zjU z⟩
theorem bend {A:List Pl}{B:Int}(hB:∀d∈A,d.1<B/\d.2<B):∀(n:Nat)(c:Pl),c∈A->(B - c.1).toNat<=n->∃d∈A,d.2=c.2/\hasB A d=false
 |0,c,hc,h=>by have:=(hB c hc).1;omega
 |n+1,c,hc,h=>by
  by_cases z:(c.1+1,c.2)∈A
  ·obtain⟨d,h1,h2,h3⟩:=bend hB n (c.1+1,c.2) z (by have:=(hB c hc).1;show(B -(c.1+1)).toNat<=n;omega)
   exact⟨d,h1,h2,h3⟩
  ·exact⟨c,hc,rfl,zjU z⟩
theorem wW {α β γ:Type}(f:α->β->γ)(ys:List β):∀xs:List α,(xs.map fun x=>ys.map (f x)).flatten.length=xs.length*ys.length
 | []=>by simp
 |x::xs=>by
  rw [map_cons,flatten_cons,length_append,length_map,wW f ys xs,length_cons,Nat.succ_mul,Nat.add_comm]
theorem wI (A:List Pl):∀cs:List Pl,((cs.map fun c=>(fF A c).map fun p=>(c,p)).flatten).length+(cs.filter fun c=> !hasR A c).length+(cs.filter fun c=> !hasB A c).length=2*cs.length
 | []=>rfl
 |c::cs=>by
  have ih:=wI A cs
  have e:(fF A c).length=(if hasR A c=true then 1 else 0)+(if hasB A c=true then 1 else 0):=by
   rw [qO,length_append]
   unfold hasR hasB
   by_cases z1:(c.1,c.2+1)∈A<;>by_cases z2:(c.1+1,c.2)∈A<;>simp [z1,z2]
  rw [map_cons,flatten_cons,length_append,length_map,e,length_cons]
  generalize ((cs.map fun c=>(fF A c).map fun p=>(c,p)).flatten).length=k at ih⊢
  have f1:((c::cs).filter fun c=> !hasR A c).length=(cs.filter fun c=> !hasR A c).length+(if hasR A c=true then 0 else 1):=by
   cases z1:hasR A c<;>simp [z1]
  have f2:((c::cs).filter fun c=> !hasB A c).length=(cs.filter fun c=> !hasB A c).length+(if hasB A c=true then 0 else 1):=by
   cases z1:hasB A c<;>simp [z1]
  rw [f1,f2]
  cases hasR A c<;>cases hasB A c<;>simp only [Bool.false_eq_true,↓reduceIte]<;>omega
theorem A7z {A:List Pl}(hn:A.Nodup)(h10:A.length<=10):(dH A).length<=14:=by
 have hc:=wI A A
 have hp:A.length<=(A.filter fun c=> !hasR A c).length*(A.filter fun c=> !hasB A c).length:=by
  rw [←wW (fun(r d:Pl)=>((r.1,d.2):Pl)) (A.filter fun c=> !hasB A c) (A.filter fun c=> !hasR A c)]
  refine nD hn fun c hc=> ?_
  obtain⟨B,hB⟩:=yN A
  obtain⟨d,d1,d2,d3⟩:=rend hB _ c hc (zjQ _)
  obtain⟨b,b1,b2,b3⟩:=bend hB _ c hc (zjQ _)
  refine mem_flatten.mpr ⟨_,mem_map.mpr ⟨d,mem_filter.mpr ⟨d1,by rw [d3];rfl⟩,rfl⟩,mem_map.mpr ⟨b,mem_filter.mpr ⟨b1,by rw [b3];rfl⟩,?_⟩⟩
  rw [d2,b2]
 generalize (A.filter fun c=> !hasR A c).length=r at hc hp
 generalize (A.filter fun c=> !hasB A c).length=b at hc hp
 unfold dH
 generalize ((A.map fun c=>(fF A c).map fun p=>(c,p)).flatten).length=k at hc⊢
 by_cases hk:k<=14
 ·exact hk
 ·have hrb:r+b<=5:=by omega
  have:r*b<=6:=by
   have h1:r=0\/r=1\/r=2\/r=3\/r=4\/r=5:=by omega
   rcases h1 with rfl|rfl|rfl|rfl|rfl|rfl<;>omega
  by_cases h9:A.length<=9
  ·have hrb2:r+b<=3:=by omega
   have:r*b<=2:=by
    have h1:r=0\/r=1\/r=2\/r=3:=by omega
    rcases h1 with rfl|rfl|rfl|rfl<;>omega
   omega
  ·omega
def eF (s:aY):List (List Int):=lH [s.1,s.2]
theorem xI {s t:aY}(h:eF s=eF t):s=t:=by
 have:=zF h
 injection this with h1 h2
 injection h2 with h2
 exact Prod.ext h1 h2
theorem A1j {F:List aY}(h:F.Nodup):(F.map eF).Nodup:=by
 induction F with
 |nil=>exact nodup_nil
 |cons a F ih=>
  have ha:=nodup_cons.mp h
  rw [map_cons]
  refine nodup_cons.mpr ⟨fun z=> ?_,ih ha.2⟩
  obtain⟨b,hb,e⟩:=mem_map.mp z
  rw [xI e]at hb
  exact ha.1 hb
theorem pD {F:List aY}{s:aY}:eF s∈F.map eF↔s∈F:=⟨fun h=>by
 obtain⟨b,hb,e⟩:=mem_map.mp h
 rw [xI e]at hb;exact hb,fun h=>mem_map_of_mem h⟩
theorem A9o {F1 F2:List aY}{ks:List (List (List Int))}(h1:F1.Nodup)(h2:F2.Nodup)(hn:ks.Nodup)(hc:∀c,c∈ks↔(c∈F2.map eF/\c∉F1.map eF)\/(c∉F2.map eF/\c∈F1.map eF)):ks.length=gU F1 F2:=by
 have nd:((F1.filter fun s=> !decide (s∈F2))++(F2.filter fun s=> !decide (s∈F1))).Nodup:=by
  refine nodup_append.mpr ⟨h1.filter _,h2.filter _,fun a ha b hb e=> ?_⟩
  subst e
  have:=(mem_filter.mp ha).2
  have hb':=(mem_filter.mp hb).1
  simp [hb']at this
 have e:gU F1 F2=(((F1.filter fun s=> !decide (s∈F2))++(F2.filter fun s=> !decide (s∈F1))).map eF).length:=by
  rw [length_map,length_append];rfl
 have mem:∀c,c∈ks↔c∈((F1.filter fun s=> !decide (s∈F2))++(F2.filter fun s=> !decide (s∈F1))).map eF:=fun c=>by
  rw [hc c]
  constructor
  ·rintro(⟨x1,x2⟩| ⟨x1,x2⟩)
   ·obtain⟨s,hs,rfl⟩:=mem_map.mp x1
    rw [pD]at x2
    exact mem_map_of_mem (mem_append.mpr (.inr (mem_filter.mpr ⟨hs,by simpa using x2⟩)))
   ·obtain⟨s,hs,rfl⟩:=mem_map.mp x2
    rw [pD]at x1
    exact mem_map_of_mem (mem_append.mpr (.inl (mem_filter.mpr ⟨hs,by simpa using x1⟩)))
  ·intro h
   obtain⟨s,hs,rfl⟩:=mem_map.mp h
   rw [pD,pD]
   rcases mem_append.mp hs with hs|hs
   ·have:=mem_filter.mp hs
    exact .inr ⟨by simpa using this.2,this.1⟩
   ·have:=mem_filter.mp hs
    exact .inl ⟨this.1,by simpa using this.2⟩
 rw [e]
 exact Nat.le_antisymm (nD hn fun c h=>(mem c).mp h) (nD (A1j nd) fun c h=>(mem c).mpr h)
end Wlk
namespace Sdm
open PySem PySem.SetTable Stb
def MkD (mask:Nat):Prop:=mask=7\/mask=15\/mask=31\/mask=63
theorem oI (mask i a:Nat):∀m,it mask i (a+m)=it mask (it mask i a) m
 |0=>rfl
 |m+1=>by show(it mask i (a+m)*5+1)%(mask+1)=_;rw [oI mask i a m];rfl
theorem A7s:∀i,i<16->∀p,p<16->∃m,m<16/\it 15 i m=p:=by decide +kernel
theorem wJ:∀p,p<64->∃m,m<64/\it 63 0 m=p:=by decide +kernel
theorem A34:it 63 0 64=0:=by decide +kernel
theorem A6j (i:Nat)(hi:i<64)(p:Nat)(hp:p<64):∃m,m<64/\it 63 i m=p:=by
 obtain⟨a,ha,rfl⟩:=wJ i hi
 obtain⟨b,hb,rfl⟩:=wJ p hp
 by_cases h:a<=b
 ·exact⟨b - a,by omega,by rw [←oI,show a+(b - a)=b by omega]⟩
 ·refine⟨64+b - a,by omega,?_⟩
  rw [←oI,show a+(64+b - a)=64+b by omega,oI,A34]
theorem cover {mask:Nat}(hm:MkD mask)(h:Int)(p:Nat)(hp:p<=mask):∃k,k<=13+mask/\(lp mask h k).1=p:=by
 have hl:=pL mask h 13
 rcases hm with rfl|rfl|rfl|rfl
 ·obtain⟨m,h1,h2⟩:=yP (lp 7 h 13).1 (by omega) p (by omega)
  exact⟨13+m,by omega,by rw [jQ];exact h2⟩
 ·obtain⟨m,h1,h2⟩:=A7s (lp 15 h 13).1 (by omega) p (by omega)
  exact⟨13+m,by omega,by rw [jQ];exact h2⟩
 ·obtain⟨m,h1,h2⟩:=zH (lp 31 h 13).1 (by omega) p (by omega)
  exact⟨13+m,by omega,by rw [jQ];exact h2⟩
 ·obtain⟨m,h1,h2⟩:=A6j (lp 63 h 13).1 (by omega) p (by omega)
  exact⟨13+m,by omega,by rw [jQ];exact h2⟩
theorem first_free {mask:Nat}(hm:MkD mask)(h:Int)(F:Nat->Prop)(hF:∃p,p<=mask/\¬F p):∃n0 k,n0<=idx mask h k/\k<=13+mask/\n0<10*turns mask/\¬F (nth mask h n0).j/\∀m,m<n0->F (nth mask h m).j:=by
 obtain⟨p,hp,hf⟩:=hF
 obtain⟨k,hk,e⟩:=cover hm h p hp
 have e2:(nth mask h (idx mask h k)).j=p:=by rw [mU];exact e
 obtain⟨n0,h1,h2,h3⟩:=least (P:=fun n=> ¬F (nth mask h n).j) (idx mask h k) (by rw [e2];exact hf)
 have:=qV mask h k
 exact⟨n0,k,h1,hk,by unfold turns;omega,h2,fun m hm=>Classical.byContradiction fun hc=>h3 m hm hc⟩
def tbd (mask moves:Nat)(led:Bool)(pl dm:List Nat):SetTable:={mask:=mask,place:=pl.toArray,dummies:=dm.toArray,finger:=0,led:=led,moves:=moves,plain:=true}
theorem wT {dm:List Nat}(hd:dm.Pairwise (· < ·)){j:Nat}(h:j∈dm):has dm.toArray j=true:=by
 obtain⟨i,hi⟩:=mem_iff_getElem?.mp h
 unfold has
 rw [jJ hd,fJ hd hi]
 simp [hi]
theorem xB {dm:List Nat}{j:Nat}(h:j∉dm):has dm.toArray j=false:=by
 unfold has
 rw [beq_eq_false_iff_ne]
 intro e
 exact h (mem_of_getElem? (by simpa using e))
theorem slot_live {mask moves:Nat}{led:Bool}{pl dm:List Nat}{i j:Nat}(hu:pl.Pairwise (· < ·))(h:pl[i]?=some j):(tbd mask moves led pl dm).slot j= .live i:=by
 have e:below pl.toArray j=i:=by rw [jJ hu,fJ hu h]
 unfold SetTable.slot
 show(let i':=below pl.toArray j;if pl.toArray[i']?==some j then Slot.live i' else _)=_
 rw [e]
 simp [h]
theorem tY {mask moves:Nat}{led:Bool}{pl dm:List Nat}{j:Nat}(h:j∉pl):(tbd mask moves led pl dm).slot j=if has dm.toArray j then .dummy else .empty:=by
 unfold SetTable.slot
 show(let i':=below pl.toArray j;if pl.toArray[i']?==some j then Slot.live i' else if has dm.toArray j then .dummy else .empty)=_
 have h1:(pl.toArray[below pl.toArray j]?==some j)=false:=by
  rw [beq_eq_false_iff_ne]
  intro e
  exact h (mem_of_getElem? (by simpa using e))
 simp only [h1];rfl
theorem tR {mask moves:Nat}{led:Bool}{pl dm:List Nat}{j:Nat}(h:j∉pl)(h2:j∉dm):(tbd mask moves led pl dm).slot j= .empty:=by
 rw [tY h,xB h2];rfl
theorem slot_dummy {mask moves:Nat}{led:Bool}{pl dm:List Nat}{j:Nat}(hd:dm.Pairwise (· < ·))(h:j∉pl)(h2:j∈dm):(tbd mask moves led pl dm).slot j= .dummy:=by
 rw [tY h,wT hd h2];rfl
def eA (mask:Nat)(h:Int)(n:Nat)(u:Option Nat):Probe:={nth mask h n with dummy:=u}
theorem xM (mask:Nat)(h:Int)(n:Nat):eA mask h n none=nth mask h n:=by
 unfold eA
 have:=(oB mask h n).2.2
 cases z:nth mask h n with
 |mk j more i perturb dummy=>rw [z]at this;cases this;rfl
theorem sT {mask moves:Nat}{led:Bool}{pl dm:List Nat}{h:Int}{n:Nat}{u v:Option Nat}:(tbd mask moves led pl dm).advance {eA mask h n u with dummy:=v}=eA mask h (n+1) v:=by
 show(tbd mask moves led pl dm).advance {nth mask h n with dummy:=v}={adv mask (nth mask h n)with dummy:=v}
 unfold adv SetTable.advance
 by_cases hc:(nth mask h n).more>0
 ·rw [if_pos hc,if_pos hc]
 ·rw [if_neg hc,if_neg hc];rfl
def Gd (mask:Nat)(h:Int)(n0:Nat)(dm:List Nat)(u:Option Nat):Prop:=u=none\/ ∃m,m<n0/\u=some (nth mask h m).j/\(nth mask h m).j∈dm
theorem go_run {mask moves:Nat}{led:Bool}{pl dm:List Nat}(hu:pl.Pairwise (· < ·))(hd:dm.Pairwise (· < ·))(dj:∀j∈dm,j∉pl)(hs:Nat->Int)(h:Int)(n0:Nat)(hE:(nth mask h n0).j∉pl)(hE2:(nth mask h n0).j∉dm)(hL:∀m,m<n0->(nth mask h m).j∈pl\/(nth mask h m).j∈dm):∀(d n fuel:Nat)(u:Option Nat),n+d=n0->d<fuel->Gd mask h n0 dm u->
  (∃u',Gd mask h n0 dm u'/\probe.go (tbd mask moves led pl dm) hs h fuel (eA mask h n u)=some (.empty (nth mask h n0).j u')/\∀m,n<=m->m<n0->∀i,pl[i]?=some (nth mask h m).j->hs i≠h)\/
  ∃m i u',Gd mask h n0 dm u'/\n<=m/\m<n0/\pl[i]?=some (nth mask h m).j/\hs i=h/\probe.go (tbd mask moves led pl dm) hs h fuel (eA mask h n u)=some (.candidate (nth mask h m).j i (eA mask h (m+1) u'))/\∀m',n<=m'->m'<m->∀i,pl[i]?=some (nth mask h m').j->hs i≠h
 |0,n,0,u,_,hf,_=>absurd hf (by omega)
 |0,n,fuel+1,u,hn,hf,gu=>by
  have hn':n=n0:=by omega
  subst hn'
  refine .inl ⟨u,gu,?_,fun m h1 h2=>absurd h1 (by omega)⟩
  unfold probe.go
  rw [show(eA mask h n u).j=(nth mask h n).j from rfl,tR hE hE2]
  rfl
 |d+1,n,0,u,_,hf,_=>absurd hf (by omega)
 |d+1,n,fuel+1,u,hn,hf,gu=>by
  have hnj:(eA mask h n u).j=(nth mask h n).j:=rfl
  by_cases hp:(nth mask h n).j∈pl
  ·obtain⟨i,hi⟩:=mem_iff_getElem?.mp hp
   have hun:∀i',pl[i']?=some (nth mask h n).j->i'=i:=fun i' hi'=>by rw [←fJ hu hi',fJ hu hi]
   by_cases hh:hs i=h
   ·refine .inr ⟨n,i,u,gu,zjQ _,by omega,hi,hh,?_,fun m' h1 h2=>absurd h1 (by omega)⟩
    unfold probe.go
    rw [hnj,slot_live hu hi]
    dsimp only
    rw [if_pos (by simpa using hh)]
    rw [show(tbd mask moves led pl dm).advance (eA mask h n u)=eA mask h (n+1) u from sT (u:=u) (v:=u)]
   ·have e:probe.go (tbd mask moves led pl dm) hs h (fuel+1) (eA mask h n u)=probe.go (tbd mask moves led pl dm) hs h fuel (eA mask h (n+1) u):=by
     rw [probe.go,hnj,slot_live hu hi]
     dsimp only
     rw [if_neg (by simpa using hh)]
     rw [show(tbd mask moves led pl dm).advance (eA mask h n u)=eA mask h (n+1) u from sT (u:=u) (v:=u)]
    rw [e]
    have hne:∀i',pl[i']?=some (nth mask h n).j->hs i'≠h:=fun i' hi'=>by rw [hun i' hi'];exact hh
    rcases go_run hu hd dj hs h n0 hE hE2 hL d (n+1) fuel u (by omega) (by omega) gu with⟨u',g',h1,h2⟩| ⟨m,i',u',g',h1,h2,h3,h4,h5,h6⟩
    ·refine .inl ⟨u',g',h1,fun m a b=> ?_⟩
     by_cases e:m=n
     ·subst e;exact hne
     ·exact h2 m (by omega) b
    ·refine .inr ⟨m,i',u',g',by omega,h2,h3,h4,h5,fun m' a b=> ?_⟩
     by_cases e:m'=n
     ·subst e;exact hne
     ·exact h6 m' (by omega) b
  ·have hdm:(nth mask h n).j∈dm:=(hL n (by omega)).resolve_left hp
   have e:probe.go (tbd mask moves led pl dm) hs h (fuel+1) (eA mask h n u)=probe.go (tbd mask moves led pl dm) hs h fuel (eA mask h (n+1) (some (nth mask h n).j)):=by
    rw [probe.go,hnj,slot_dummy hd hp hdm]
    dsimp only
    exact congrArg (fun p=>probe.go (tbd mask moves led pl dm) hs h fuel p) (sT (u:=u) (v:=some (nth mask h n).j))
   rw [e]
   have hne:∀i',pl[i']?=some (nth mask h n).j->hs i'≠h:=fun i' hi'=>absurd (mem_of_getElem? hi') hp
   rcases go_run hu hd dj hs h n0 hE hE2 hL d (n+1) fuel (some (nth mask h n).j) (by omega) (by omega) (.inr ⟨n,by omega,rfl,hdm⟩)with⟨u',g',h1,h2⟩| ⟨m,i',u',g',h1,h2,h3,h4,h5,h6⟩
   ·refine .inl ⟨u',g',h1,fun m a b=> ?_⟩
    by_cases e:m=n
    ·subst e;exact hne
    ·exact h2 m (by omega) b
   ·refine .inr ⟨m,i',u',g',by omega,h2,h3,h4,h5,fun m' a b=> ?_⟩
    by_cases e:m'=n
    ·subst e;exact hne
    ·exact h6 m' (by omega) b
structure OkD (mask:Nat)(pl dm:List Nat)(hs:List Int):Prop where
 mk':MkD mask
 len:pl.length=hs.length
 up:pl.Pairwise (· < ·)
 upd:dm.Pairwise (· < ·)
 dj:∀j∈dm,j∉pl
 top:∀p∈pl,p<=mask
 few:(hs.length+dm.length)*5<mask*3
 reach:∀x∈pl.zip hs,Rch mask (fun j=>j∈pl\/j∈dm) x
theorem OkD.free {mask:Nat}{pl dm:List Nat}{hs:List Int}(o:OkD mask pl dm hs)(h:Int):∃n0,n0<10*turns mask/\(nth mask h n0).j∉pl/\(nth mask h n0).j∉dm/\∀m,m<n0->(nth mask h m).j∈pl\/(nth mask h m).j∈dm:=by
 have hl:(pl++dm).length<mask+1:=by have:=o.few;have:=o.len;rw [length_append];omega
 obtain⟨p,h1,h2⟩:=hole (pl++dm) (mask+1) hl
 obtain⟨n0,k,a,b,c,d,e⟩:=first_free o.mk' h (fun j=>j∈pl\/j∈dm) ⟨p,by omega,fun h=>h2 (mem_append.mpr h)⟩
 exact⟨n0,c,fun h=>d (.inl h),fun h=>d (.inr h),e⟩
theorem OkD.met {mask:Nat}{pl dm:List Nat}{hs:List Int}(o:OkD mask pl dm hs){i n0:Nat}{h:Int}(hi:hs[i]?=some h)(h0:(nth mask h n0).j∉pl)(h0':(nth mask h n0).j∉dm):∃m,m<n0/\pl[i]?=some (nth mask h m).j:=by
 have hlt:i<pl.length:=by rw [o.len];exact(zjW.mp hi).1
 have hp:pl[i]?=some pl[i]:=getElem?_eq_getElem hlt
 have hz:(pl.zip hs)[i]?=some (pl[i],h):=by rw [List.getElem?_zip_eq_some];exact⟨hp,hi⟩
 obtain⟨n,h1,h2⟩:=o.reach _ (mem_of_getElem? hz)
 have h1':(nth mask h n).j=pl[i]:=h1
 refine⟨n,?_,by rw [h1'];exact hp⟩
 refine Nat.lt_of_not_le fun hle=> ?_
 by_cases e:n0=n
 ·subst e;exact h0 (by rw [h1'];exact getElem_mem hlt)
 ·rcases h2 n0 (by omega)with z|z
  ·exact h0 z
  ·exact h0' z
theorem OkD.put {mask:Nat}{pl dm:List Nat}{hs:List Int}(o:OkD mask pl dm hs){h:Int}{n0:Nat}(hE:(nth mask h n0).j∉pl)(hE2:(nth mask h n0).j∉dm)(hL:∀m,m<n0->(nth mask h m).j∈pl\/(nth mask h m).j∈dm)(few:(hs.length+1+dm.length)*5<mask*3):
  OkD mask (ins pl (rk (nth mask h n0).j pl) (nth mask h n0).j) dm (ins hs (rk (nth mask h n0).j pl) h):=by
 have hr:rk (nth mask h n0).j pl<=pl.length:=gR _ _
 refine⟨o.mk',?_,lL o.up hE,o.upd,fun j hj hp=> ?_,fun p hp=> ?_,?_,fun x hx=> ?_⟩
 ·rw [fA hr,fA (by rw [←o.len];exact hr),o.len]
 ·rcases mem_ins.mp hp with rfl|h
  ·exact hE2 hj
  ·exact o.dj j hj h
 ·rcases mem_ins.mp hp with rfl|h
  ·exact lP _ _ _
  ·exact o.top p h
 ·rw [fA (by rw [←o.len];exact hr)];exact few
 ·rw [qA _ _ _ _ _ o.len]at hx
  have hF:∀j,(j∈pl\/j∈dm)->(j∈ins pl (rk (nth mask h n0).j pl) (nth mask h n0).j\/j∈dm):=fun j hj=>hj.imp (fun z=>mem_ins.mpr (.inr z)) id
  rcases mem_ins.mp hx with rfl|hx
  ·exact⟨n0,rfl,fun m hm=>hF _ (hL m hm)⟩
  ·obtain⟨n,h1,h2⟩:=o.reach x hx
   exact⟨n,h1,fun m hm=>hF _ (h2 m hm)⟩
theorem OkD.reuse {mask:Nat}{pl dm:List Nat}{hs:List Int}(o:OkD mask pl dm hs){h:Int}{m0:Nat}(hd:(nth mask h m0).j∈dm)(hL:∀m,m<m0->(nth mask h m).j∈pl\/(nth mask h m).j∈dm):
  OkD mask (ins pl (rk (nth mask h m0).j pl) (nth mask h m0).j) (dm.erase (nth mask h m0).j) (ins hs (rk (nth mask h m0).j pl) h):=by
 have hE:(nth mask h m0).j∉pl:=o.dj _ hd
 have hr:rk (nth mask h m0).j pl<=pl.length:=gR _ _
 have nd:dm.Nodup:=o.upd.imp fun h=>ne_of_lt h
 refine⟨o.mk',?_,lL o.up hE,o.upd.sublist List.erase_sublist,fun j hj hp=> ?_,fun p hp=> ?_,?_,fun x hx=> ?_⟩
 ·rw [fA hr,fA (by rw [←o.len];exact hr),o.len]
 ·have hj':=(nd.mem_erase_iff).mp hj
  rcases mem_ins.mp hp with z|z
  ·exact hj'.1 z
  ·exact o.dj j hj'.2 z
 ·rcases mem_ins.mp hp with rfl|h
  ·exact lP _ _ _
  ·exact o.top p h
 ·rw [fA (by rw [←o.len];exact hr),List.length_erase_of_mem hd]
  have:=length_pos_of_mem hd
  have:=o.few
  omega
 ·rw [qA _ _ _ _ _ o.len]at hx
  have hF:∀j,(j∈pl\/j∈dm)->(j∈ins pl (rk (nth mask h m0).j pl) (nth mask h m0).j\/j∈dm.erase (nth mask h m0).j):=fun j hj=>by
   rcases hj with z|z
   ·exact .inl (mem_ins.mpr (.inr z))
   ·by_cases e:j=(nth mask h m0).j
    ·exact .inl (mem_ins.mpr (.inl e))
    ·exact .inr ((List.mem_erase_of_ne e).mpr z)
  rcases mem_ins.mp hx with rfl|hx
  ·exact⟨m0,rfl,fun m hm=>hF _ (hL m hm)⟩
  ·obtain⟨n,h1,h2⟩:=o.reach x hx
   exact⟨n,h1,fun m hm=>hF _ (h2 m hm)⟩
theorem OkD.drop {mask:Nat}{pl dm:List Nat}{hs:List Int}(o:OkD mask pl dm hs){i j:Nat}(hi:pl[i]?=some j):
  OkD mask (pl.eraseIdx i) (ins dm (rk j dm) j) (hs.eraseIdx i):=by
 have hlt:i<pl.length:=(zjW.mp hi).1
 have hjp:j∈pl:=mem_of_getElem? hi
 have hjd:j∉dm:=fun z=>o.dj j z hjp
 have nd:pl.Nodup:=o.up.imp fun h=>ne_of_lt h
 have sub:(pl.eraseIdx i).Sublist pl:=eraseIdx_sublist pl i
 have gi:pl[i]=j:=(zjW.mp hi).2
 have hno:j∉pl.eraseIdx i:=fun z=>by
  rw [List.mem_eraseIdx_iff_getElem]at z
  obtain⟨k,hk,hne,e⟩:=z
  have hk':pl[k]?=some j:=zjW.mpr ⟨hk,e⟩
  exact hne (by rw [←fJ o.up hk',fJ o.up hi])
 refine⟨o.mk',?_,o.up.sublist sub,lL o.upd hjd,fun k hk hp=> ?_,fun p hp=>o.top p (sub.subset hp),?_,fun x hx=> ?_⟩
 ·rw [length_eraseIdx_of_lt hlt,length_eraseIdx_of_lt (by rw [←o.len];exact hlt),o.len]
 ·rcases mem_ins.mp hk with rfl|z
  ·exact hno hp
  ·exact o.dj k z (sub.subset hp)
 ·rw [length_eraseIdx_of_lt (by rw [←o.len];exact hlt),fA (gR _ _)]
  have:=o.few;have:=o.len
  omega
 ·have hx':x∈pl.zip hs:=by
   have e:(pl.eraseIdx i).zip (hs.eraseIdx i)=(pl.zip hs).eraseIdx i:=by
    simp only [eraseIdx_eq_take_drop_succ,List.zip,List.zipWith_append,List.take_zipWith,List.drop_zipWith]
    rw [List.zipWith_append (by rw [length_take,length_take,o.len])]
   rw [e]at hx
   exact(eraseIdx_sublist _ _).subset hx
  obtain⟨n,h1,h2⟩:=o.reach x hx'
  refine⟨n,h1,fun m hm=> ?_⟩
  rcases h2 m hm with z|z
  ·by_cases e:(nth mask x.2 m).j=j
   ·exact .inr (mem_ins.mpr (.inl e))
   ·obtain⟨k,hk⟩:=mem_iff_getElem?.mp z
    refine .inl ?_
    rw [List.mem_eraseIdx_iff_getElem?]
    refine⟨k,fun e2=>e ?_,hk⟩
    rw [e2,hi]at hk
    exact(Option.some.inj hk).symm
  ·exact .inr (mem_ins.mpr (.inr z))
structure OwnD (mask:Nat)(ow:Array (Option Nat))(done:List Int):Prop where
 mk':MkD mask
 size:ow.size=mask+1
 bnd:∀(j k:Nat),ow[j]?=some (some k)->k<done.length
 has:∀k:Nat,k<done.length->∃j:Nat,ow[j]?=some (some k)
 uniq:∀(j j' k:Nat),ow[j]?=some (some k)->ow[j']?=some (some k)->j=j'
 reach:∀(j k:Nat)(h:Int),ow[j]?=some (some k)->done[k]?=some h->Rch mask (dE ow) (j,h)
theorem OwnD.hole {mask:Nat}{ow:Array (Option Nat)}{done:List Int}(o:OwnD mask ow done)(hl:done.length<=mask):∃p,p<=mask/\¬dE ow p:=by
 refine Classical.byContradiction fun hc=> ?_
 have hall:∀p,p<=mask->dE ow p:=fun p hp=>Classical.byContradiction fun hn=>hc ⟨p,hp,hn⟩
 have hf:∀p,p<=mask->ow[p]?=some (some ((ow.getD p none).getD 0)):=fun p hp=>by
  obtain⟨k,hk⟩:=hall p hp
  rw [Array.getD_eq_getD_getElem?,hk];rfl
 have h1:((List.range (mask+1)).map fun p=>(ow.getD p none).getD 0).Nodup:=by
  refine pairwise_map.mpr ((nodup_range (n:=mask+1)).imp_of_mem fun{a b} ha hb hne e=>hne ?_)
  have ha':=hf a (by have:=mem_range.mp ha;omega)
  have hb':=hf b (by have:=mem_range.mp hb;omega)
  rw [e]at ha'
  exact o.uniq a b _ ha' hb'
 have h2:((List.range (mask+1)).map fun p=>(ow.getD p none).getD 0).length<=(List.range done.length).length:=mY _ _ h1 fun x hx=>by
  obtain⟨p,hp,rfl⟩:=mem_map.mp hx
  exact mem_range.mpr (o.bnd p _ (hf p (by have:=mem_range.mp hp;omega)))
 rw [length_map,length_range,length_range]at h2
 omega
theorem OwnD.put {mask:Nat}{ow:Array (Option Nat)}{done:List Int}(o:OwnD mask ow done){h:Int}{n0:Nat}(hE:¬dE ow (nth mask h n0).j)(hL:∀m,m<n0->dE ow (nth mask h m).j):
  OwnD mask (ow.setIfInBounds (nth mask h n0).j (some done.length)) (done++[h]):=by
 have hlt:(nth mask h n0).j<ow.size:=by rw [o.size];have:=lP mask h n0;omega
 have get:∀j:Nat,(ow.setIfInBounds (nth mask h n0).j (some done.length))[j]?=if (nth mask h n0).j=j then some (some done.length)else ow[j]?:=fun j=>by
  rw [Array.getElem?_setIfInBounds]
  by_cases e:(nth mask h n0).j=j
  ·rw [if_pos e,if_pos e,if_pos (by omega)]
  ·rw [if_neg e,if_neg e]
 have keep:∀j,dE ow j->dE (ow.setIfInBounds (nth mask h n0).j (some done.length)) j:=fun j ⟨k,hk⟩=>by
  refine⟨k,?_⟩
  rw [get,if_neg (fun e=>hE ⟨k,by rw [e];exact hk⟩)];exact hk
 refine⟨o.mk',by rw [Array.size_setIfInBounds,o.size],fun j k e=> ?_,fun k hk=> ?_,fun j j' k e e'=> ?_,fun j k h' e e'=> ?_⟩
 ·rw [get]at e
  rw [length_append]
  by_cases z:(nth mask h n0).j=j
  ·rw [if_pos z]at e;cases e;simp
  ·rw [if_neg z]at e;have:=o.bnd j k e;simp;omega
 ·rw [length_append]at hk
  by_cases z:k=done.length
  ·subst z;exact⟨_,by rw [get,if_pos rfl]⟩
  ·obtain⟨j,hj⟩:=o.has k (by simp at hk;omega)
   exact⟨j,by rw [get,if_neg (fun e=>hE ⟨k,by rw [e];exact hj⟩)];exact hj⟩
 ·rw [get]at e e'
  by_cases z:(nth mask h n0).j=j
  ·rw [if_pos z]at e;cases e
   by_cases z':(nth mask h n0).j=j'
   ·omega
   ·rw [if_neg z']at e';have:=o.bnd j' _ e';omega
  ·rw [if_neg z]at e
   by_cases z':(nth mask h n0).j=j'
   ·rw [if_pos z']at e';cases e';have:=o.bnd j _ e;omega
   ·rw [if_neg z']at e';exact o.uniq j j' k e e'
 ·rw [get]at e
  by_cases z:(nth mask h n0).j=j
  ·rw [if_pos z]at e;cases e
   have:h'=h:=by simpa using e'.symm
   subst this
   exact⟨n0,z,fun m hm=>keep _ (hL m hm)⟩
  ·rw [if_neg z]at e
   have hk:=o.bnd j k e
   rw [getElem?_append_left hk]at e'
   obtain⟨n,h1,h2⟩:=o.reach j k h' e e'
   exact⟨n,h1,fun m hm=>keep _ (h2 m hm)⟩
theorem lS {mask:Nat}:∀(hs done:List Int)(ow:Array (Option Nat)),OwnD mask ow done->done.length+hs.length<=mask+1->∃ow',hs.foldl (lJ mask) (some (ow,done.length))=some (ow',done.length+hs.length)/\OwnD mask ow' (done++hs)
 | [],done,ow,o,_=> ⟨ow,rfl,by rw [append_nil];exact o⟩
 |h::hs,done,ow,o,hl=>by
  rw [length_cons]at hl
  obtain⟨n0,k,h1,h2,h3,h4,h5⟩:=Sdm.first_free o.mk' h (dE ow) (o.hole (by omega))
  have e:layClean.free mask ow (turns mask) (bits h%(mask+1)) (bits h)=some (nth mask h n0).j:=uY (K:=k) o.size h4 h5 h1 k 0 (turns mask) (by omega) (by unfold turns;omega) (zero_le _)
  have e2:lJ mask (some (ow,done.length)) h=some (ow.setIfInBounds (nth mask h n0).j (some done.length),done.length+1):=by
   show(layClean.free mask ow (turns mask) (bits h%(mask+1)) (bits h)).bind _=_
   rw [e];rfl
  rw [foldl_cons,e2]
  obtain⟨ow',g1,g2⟩:=lS hs (done++[h]) _ (o.put h4 h5) (by rw [length_append];simp;omega)
  refine⟨ow',?_,by rw [append_assoc]at g2;exact g2⟩
  rw [length_append]at g1
  rw [show done.length+1=done.length+[h].length from rfl,g1]
  simp;omega
theorem OwnD.nil {mask:Nat}(hm:MkD mask):OwnD mask (Array.replicate (mask+1) none) []:=by
 have hno:∀(j k:Nat),(Array.replicate (mask+1) (none:Option Nat))[j]?≠some (some k):=fun j k e=>by
  rw [Array.getElem?_replicate]at e
  split at e<;>cases e
 exact⟨hm,by simp,fun j k e=>absurd e (hno j k),fun k hk=>by simp at hk,fun j _ k e=>absurd e (hno j k),fun j k _ e=>absurd e (hno j k)⟩
theorem rC {mask:Nat}(hm:MkD mask)(hs:List Int)(hl:hs.length<=mask+1):∃ow,layClean mask hs.toArray=some ow/\OwnD mask ow hs:=by
 obtain⟨ow,h1,h2⟩:=lS hs [] _ (OwnD.nil hm) (by simpa using hl)
 refine⟨ow,?_,by simpa using h2⟩
 unfold layClean
 rw [←Array.foldl_toList]
 show Option.map (·.1) (hs.foldl (lJ mask) (some (Array.replicate (mask+1) none,0)))=_
 rw [show(some (Array.replicate (mask+1) (none:Option Nat),0))=some (Array.replicate (mask+1) none,([]:List Int).length)from rfl,h1]
 rfl
theorem laid_run {mask:Nat}(hm:MkD mask)(moves:Nat)(led:Bool)(hs:List Int)(few:hs.length*5<mask*3):
  ∃(pl:List Nat)(order:List Nat),laid mask 0 moves led true hs.toArray=some (tb mask moves led pl,order.toArray)/\order.Perm (List.range hs.length)/\OkD mask pl [] (order.map fun k=>hs.getD k 0):=by
 obtain⟨ow,e,o⟩:=rC hm hs (by omega)
 generalize hlive:((List.range (mask+1)).filterMap fun j=>(ow.getD j none).map fun k=>(j,k))=live
 have mem:∀(j k:Nat),(j,k)∈live↔ow[j]?=some (some k):=fun j k=>by
  rw [←hlive,mem_filterMap]
  constructor
  ·rintro⟨a,_,h⟩
   rw [Array.getD_eq_getD_getElem?]at h
   cases z:ow[a]? with
   |none=>rw [z]at h;cases h
   |some x=>
    rw [z]at h
    cases x with
    |none=>cases h
    |some b=>
     have h':some (a,b)=some (j,k):=h
     cases h'
     exact z
  ·intro h
   have hlt:j<ow.size:=(Array.getElem?_eq_some_iff.mp h).1
   refine⟨j,mem_range.mpr (by rw [←o.size];exact hlt),?_⟩
   rw [Array.getD_eq_getD_getElem?,h];rfl
 have up:(live.map (·.1)).Pairwise (· < ·):=by
  rw [pairwise_map,←hlive,List.pairwise_filterMap]
  refine List.pairwise_lt_range.imp fun{a b} hab x hx y hy=> ?_
  have ex:x.1=a:=by
   cases z:ow.getD a none with
   |none=>rw [z]at hx;cases hx
   |some c=>rw [z]at hx;cases hx;rfl
  have ey:y.1=b:=by
   cases z:ow.getD b none with
   |none=>rw [z]at hy;cases hy
   |some c=>rw [z]at hy;cases hy;rfl
  rw [ex,ey];exact hab
 have nd2:(live.map (·.2)).Nodup:=by
  have nd1:live.Pairwise fun a b=>a.1<b.1:=pairwise_map.mp up
  refine pairwise_map.mpr (nd1.imp_of_mem fun{a b} ha hb hlt he=> ?_)
  have h1:=(mem a.1 a.2).mp ha
  have h2:=(mem b.1 b.2).mp hb
  rw [he]at h1
  have:=o.uniq _ _ _ h1 h2
  omega
 have perm:(live.map (·.2)).Perm (List.range hs.length):=by
  rw [List.perm_ext_iff_of_nodup nd2 nodup_range]
  intro k
  rw [mem_map,mem_range]
  constructor
  ·rintro⟨x,hx,rfl⟩
   exact o.bnd _ _ ((mem x.1 x.2).mp hx)
  ·intro hk
   obtain⟨j,hj⟩:=o.has k hk
   exact⟨(j,k),(mem j k).mpr hj,rfl⟩
 have full:∀j,dE ow j->j∈live.map (·.1):=fun j ⟨k,hk⟩=>mem_map.mpr ⟨(j,k),(mem j k).mpr hk,rfl⟩
 have hlen:live.length=hs.length:=by have:=perm.length_eq;simpa using this
 refine⟨live.map (·.1),live.map (·.2),?_,perm,hm,by simp,up,List.Pairwise.nil,(fun j hj=>by cases hj),fun p hp=> ?_,by simp only [length_map,length_nil];omega,fun x hx=> ?_⟩
 ·unfold laid
  rw [e]
  show some (({mask:=mask,place:=(((List.range (mask+1)).filterMap fun j=>(ow.getD j none).map fun k=>(j,k)).map (·.1)).toArray,dummies:=#[],finger:=0,led:=led,moves:=moves,plain:=true}:SetTable),(((List.range (mask+1)).filterMap fun j=>(ow.getD j none).map fun k=>(j,k)).map (·.2)).toArray)=_
  rw [hlive];rfl
 ·obtain⟨x,hx,rfl⟩:=mem_map.mp hp
  have:=(Array.getElem?_eq_some_iff.mp ((mem x.1 x.2).mp hx)).1
  rw [o.size]at this;omega
 ·rw [map_map]at hx
  rw [zip_map']at hx
  obtain⟨y,hy,rfl⟩:=mem_map.mp hx
  have h1:=(mem y.1 y.2).mp hy
  have hk:=o.bnd _ _ h1
  obtain⟨n,a,b⟩:=o.reach y.1 y.2 hs[y.2] h1 (getElem?_eq_getElem hk)
  refine⟨n,?_,fun m hm=> .inl (full _ ?_)⟩
  ·show(nth mask (hs.getD y.2 0) n).j=y.1
   rw [show hs.getD y.2 0=hs[y.2] by simp [hk]];exact a
  ·have:=b m hm
   show dE ow (nth mask (hs.getD y.2 0) m).j
   rw [show hs.getD y.2 0=hs[y.2] by simp [hk]];exact this
theorem yJ {n:Nat}(h:n<=63):MkD (sizeAbove n - 1)/\n<sizeAbove n:=by
 have:∀n,n<64->MkD (sizeAbove n - 1)/\n<sizeAbove n:=by unfold MkD;decide +kernel
 exact this n (by omega)
end Sdm
namespace Gs
open PySem PyProof.Rows Stb Sdm
section
variable {κ:Type}{hf:κ->Int}
def fK (hf:κ->Int)(xs:List (κ×Addr))(ep mask moves:Nat)(led:Bool)(pl dm:List Nat):Obj:={cls:=.type "set",dict:=none,data:=.set (xs.map (entG hf)).toArray ep (tbd mask moves led pl dm)}
def IsStD (hf:κ->Int)(h:Heap)(a:Addr)(xs:List (κ×Addr))(led:Bool)(fl:Nat):Prop:=∃ep mask moves pl dm,h.get? a=some (fK hf xs ep mask moves led pl dm)/\OkD mask pl dm (aZ hf xs)/\xs.length+dm.length<=fl
theorem IsStD.at {h h':Heap}{a:Addr}{xs:List (κ×Addr)}{led:Bool}{fl:Nat}(x:IsStD hf h a xs led fl)(e:∀o,h.get? a=some o->h'.get? a=some o):IsStD hf h' a xs led fl:=let ⟨ep,mask,moves,pl,dm,ho,ok⟩:=x;⟨ep,mask,moves,pl,dm,e _ ho,ok⟩
theorem fitsD {xs:List (κ×Addr)}{mask moves:Nat}{led:Bool}{pl dm:List Nat}(ok:OkD mask pl dm (aZ hf xs)):(tbd mask moves led pl dm).fits (xs.map (entG hf)).toArray.size=true:=by
 have h1:=ok.len
 have h2:=ok.few
 unfold aZ at h1 h2
 rw [length_map]at h1 h2
 simp only [SetTable.fits,SetTable.fill,tbd,size_toArray,length_map,Bool.and_eq_true,beq_iff_eq,decide_eq_true_eq]
 exact⟨h1,by omega⟩
end
section
variable {prog:Program}{w:World}{A:Around}{E:Value->Shared->Prop}{s:Shared}{κ:Type} [DecidableEq κ]{kk:Kk prog w κ}
theorem uH (adding:Bool){a:Addr}{xs:List (κ×Addr)}{ep mask moves:Nat}{led:Bool}{pl dm:List Nat}{k:κ}{b:Addr}{n0:Nat}{Q:SetFound->Shared->Prop}(hu:A.units+1<cLine)(ho:s.heap.get? a=some (fK kk.hs xs ep mask moves led pl dm))(ok:OkD mask pl dm (aZ kk.hs xs))
  (hK:∀x∈xs,kk.is s.heap x.1 x.2)(hk:kk.is s.heap k b)(hn0:n0<10*SetTable.turns mask)(hE:(nth mask (kk.hs k) n0).j∉pl)(hE2:(nth mask (kk.hs k) n0).j∉dm)(hL:∀m,m<n0->(nth mask (kk.hs k) m).j∈pl\/(nth mask (kk.hs k) m).j∈dm)
  (h1:∀(i:Nat)(x:κ×Addr),xs[i]?=some x->x.1=k->Q (.there (if adding=true then none else some i)) s)(h2:k∉xs.map (·.1)->∀u,Gd mask (kk.hs k) n0 dm u->Q (.free (u.getD (nth mask (kk.hs k) n0).j) u.isSome) s):
  ∀(fuel n:Nat)(stand:Option SetTable.Probe)(u:Option Nat),n<=n0->n0 - n<fuel->stand.getD ((tbd mask moves led pl dm).probeStart (kk.hs k))=eA mask (kk.hs k) n u->Gd mask (kk.hs k) n0 dm u->(∀m,m<n->∀(i:Nat)(x:κ×Addr),pl[i]?=some (nth mask (kk.hs k) m).j->xs[i]?=some x->x.1≠k)->
   wpAny (model prog w) A (setSearchFrom a (.ref b) (kk.hs k) adding fuel stand) Q E s:=by
 have hd:(fK kk.hs xs ep mask moves led pl dm).data= .set (xs.map (entG kk.hs)).toArray ep (tbd mask moves led pl dm):=rfl
 have hfi:=fitsD (moves:=moves) (led:=led) ok
 have hgw:(tbd mask moves led pl dm).gaveWay=false:=by
  show(mask%2==0)=false
  rcases ok.mk' with rfl|rfl|rfl|rfl<;>rfl
 intro fuel
 induction fuel with
 |zero=>intro n stand u _ hlt;omega
 |succ fuel ih=>
  intro n stand u hn hlt hst hgu hpre
  unfold setSearchFrom
  refine zjZ (wpAny_setState_of ho hd hfi ?_);dsimp only
  rw [hgw]
  simp only [Bool.false_eq_true,↓reduceIte]
  rw [hst]
  have hp:∀(i:Nat)(x:κ×Addr),xs[i]?=some x->((((xs.map (entG kk.hs)).toArray)[i]?).map (·.1)).getD 0=kk.hs x.1:=fun i x e=>by simp [e,entG]
  have hrun:=Sdm.go_run (mask:=mask) (moves:=moves) (led:=led) ok.up ok.upd ok.dj (fun i=>((((xs.map (entG kk.hs)).toArray)[i]?).map (·.1)).getD 0) (kk.hs k) n0 hE hE2 hL (n0 - n) n (10*SetTable.turns mask) u (by omega) (by omega) hgu
  have lenx:pl.length=xs.length:=by have:=ok.len;unfold aZ at this;rwa [length_map]at this
  generalize hP:SetTable.probe (tbd mask moves led pl dm) _ (kk.hs k) (eA mask (kk.hs k) n u)=P
  rcases hrun with⟨u',g',e,hno⟩| ⟨m,i,u',g',m1,m2,m3,m4,e,hno⟩
  ·obtain rfl:=hP.symm.trans e
   dsimp only
   have hq:=h2 (fun hm=>by
    obtain⟨x,hx,ek⟩:=mem_map.mp hm
    obtain⟨i,hi⟩:=mem_iff_getElem?.mp hx
    have hi2:(aZ kk.hs xs)[i]?=some (kk.hs k):=by unfold aZ;rw [getElem?_map,hi,←ek];rfl
    obtain⟨m,a1,a2⟩:=ok.met hi2 hE hE2
    by_cases hmn:m<n
    ·exact hpre m hmn i x a2 hi ek
    ·exact hno m (by omega) a1 i a2 (by rw [hp i x hi,ek])) u' g'
   cases u' with
   |none=>exact zjY hq
   |some d=>
    have hsd:(tbd mask moves led pl dm).slot d= .dummy:=by
     rcases g' with z| ⟨m,_,z,hdm⟩
     ·cases z
     ·cases z;exact Sdm.slot_dummy ok.upd (ok.dj _ hdm) hdm
    dsimp only
    rw [hsd]
    have:(adding&&(SetTable.Slot.dummy !=SetTable.Slot.dummy))=false:=by cases adding<;>rfl
    rw [this]
    simp only [Bool.false_eq_true,↓reduceIte]
    exact zjY hq
  ·obtain rfl:=hP.symm.trans e
   dsimp only
   have hi:i<xs.length:=by rw [←lenx];exact(zjW.mp m3).1
   have hx:xs[i]?=some xs[i]:=getElem?_eq_getElem hi
   have hy:(xs.map (entG kk.hs)).toArray[i]?=some ((entG kk.hs) xs[i]):=by simp [hi]
   have hKi:=hK xs[i] (getElem_mem hi)
   refine vT (fun Q' q'=>uL hk (fun v hv=> ?_) q') ?_
   ·obtain⟨e',he',rfl⟩:=mem_map.mp hv
    have hm1:=(Array.mem_filter.mp (Array.mem_toList_iff.mp he')).1
    have hm2:e'∈xs.map (entG kk.hs):=by simpa using hm1
    obtain⟨x,hx',rfl⟩:=mem_map.mp hm2
    exact⟨x.1,x.2,rfl,hK x hx'⟩
   rw [hy]
   dsimp only [entG]
   refine zjZ (wpAny_holding (kk.eqb hu hKi hk ?_))
   refine zjZ (wpAny_setState_of ho hd hfi ?_);dsimp only
   have hsm:(tbd mask moves led pl dm).sameMemory (tbd mask moves led pl dm).moves (tbd mask moves led pl dm).mask=some true:=by simp [SetTable.sameMemory]
   by_cases ek:xs[i].1=k
   ·rw [zjV ek]
    have hq:=h1 i xs[i] hx ek
    cases adding with
    |true=>
     simp only [Bool.and_self,↓reduceIte]at hq⊢
     exact zjY hq
    |false=>
     simp only [Bool.false_and,Bool.false_eq_true,↓reduceIte]at hq⊢
     rw [hsm]
     dsimp only
     simp only [↓reduceIte]
     rw [Sdm.slot_live ok.up m3]
     dsimp only
     rw [hy]
     dsimp only [entG]
     refine zjZ (wpAny_isSame_ref_self ?_)
     simp only [↓reduceIte]
     refine zjZ (zjY ?_)
     dsimp only
     exact zjY hq
   ·rw [zjU ek]
    simp only [Bool.and_false,Bool.false_eq_true,↓reduceIte]
    rw [hsm]
    dsimp only
    simp only [↓reduceIte]
    rw [Sdm.slot_live ok.up m3]
    dsimp only
    rw [hy]
    dsimp only [entG]
    refine zjZ (wpAny_isSame_ref_self ?_)
    simp only [↓reduceIte]
    refine zjZ (zjY ?_)
    dsimp only
    refine ih (m+1) _ u' (by omega) (by omega) rfl g' fun m' hm' i' x hi' hx'=> ?_
    by_cases c1:m'<n
    ·exact hpre m' c1 i' x hi' hx'
    ·by_cases c2:m'<m
     ·intro ex
      exact hno m' (by omega) c2 i' hi' (by rw [hp i' x hx',ex])
     ·have c3:m'=m:=by omega
      subst c3
      have ei:i'=i:=by rw [←fJ ok.up hi',fJ ok.up m3]
      subst ei
      rw [hx]at hx';cases hx';exact ek
end
end Gs
namespace Sdm
open PySem PySem.SetTable Stb
theorem tD {α:Type}(l:List α)(i:Nat):SetTable.eraseAt l.toArray i=(l.eraseIdx i).toArray:=by
 unfold SetTable.eraseAt
 apply Array.ext'
 simp only [Array.toList_append,Array.toList_extract,List.extract_eq_take_drop,size_toArray]
 rw [eraseIdx_eq_take_drop_succ]
 simp only [List.drop_zero,Nat.sub_zero]
 congr 1
 exact take_of_length_le (by rw [length_drop];exact zjQ _)
theorem xT {j:Nat}:∀{dm:List Nat},dm.Pairwise (· < ·)->j∈dm->dm.eraseIdx (rk j dm)=dm.erase j
 | [],_,h=>by cases h
 |x::xs,hd,h=>by
  by_cases e:x=j
  ·subst e
   rw [show rk x (x::xs)=0 from if_neg (lt_irrefl x),List.erase_cons_head];rfl
  ·have hm:j∈xs:=by
    rcases mem_cons.mp h with z|z
    ·exact absurd z.symm e
    ·exact z
   have hlt:x<j:=(pairwise_cons.mp hd).1 j hm
   rw [show rk j (x::xs)=rk j xs+1 from if_pos hlt,List.eraseIdx_cons_succ,xT (pairwise_cons.mp hd).2 hm,List.erase_cons_tail (by simpa using e)]
theorem A60 {mask moves:Nat}{led:Bool}{pl dm:List Nat}(hd:dm.Pairwise (· < ·)){i j:Nat}(h:pl[i]?=some j):(tbd mask moves led pl dm).drop i=tbd mask moves led (pl.eraseIdx i) (ins dm (rk j dm) j):=by
 unfold SetTable.drop
 have e:(tbd mask moves led pl dm).place[i]?=some j:=by show pl.toArray[i]?=_;simpa using h
 rw [e]
 show({tbd mask moves led pl dm with place:=SetTable.eraseAt pl.toArray i,dummies:=SetTable.insertAt dm.toArray (SetTable.below dm.toArray j) j}:SetTable)=_
 rw [tD,jJ hd,kG]
 rfl
theorem A74 {mask moves:Nat}{led:Bool}{pl dm:List Nat}(hu:pl.Pairwise (· < ·)){j:Nat}(h:j∉dm):(tbd mask moves led pl dm).put j=(tbd mask moves led (ins pl (rk j pl) j) dm,rk j pl):=by
 show(({tbd mask moves led pl dm with place:=SetTable.insertAt pl.toArray (SetTable.below pl.toArray j) j,dummies:=if SetTable.has dm.toArray j then SetTable.eraseAt dm.toArray (SetTable.below dm.toArray j)else dm.toArray}:SetTable),SetTable.below pl.toArray j)=_
 rw [jJ hu,kG,xB h]
 rfl
theorem A86 {mask moves:Nat}{led:Bool}{pl dm:List Nat}(hu:pl.Pairwise (· < ·))(hd:dm.Pairwise (· < ·)){j:Nat}(h:j∈dm):(tbd mask moves led pl dm).put j=(tbd mask moves led (ins pl (rk j pl) j) (dm.erase j),rk j pl):=by
 show(({tbd mask moves led pl dm with place:=SetTable.insertAt pl.toArray (SetTable.below pl.toArray j) j,dummies:=if SetTable.has dm.toArray j then SetTable.eraseAt dm.toArray (SetTable.below dm.toArray j)else dm.toArray}:SetTable),SetTable.below pl.toArray j)=_
 rw [jJ hu,kG,wT hd h,jJ hd,tD,xT hd h]
 rfl
theorem A7t {mask moves:Nat}{led:Bool}{pl dm:List Nat}:(tbd mask moves led pl dm).tooFull=decide (mask*3<=(pl.length+dm.length)*5):=by
 unfold SetTable.tooFull SetTable.fill tbd
 simp
theorem MkD.turns {mask:Nat}(h:MkD mask):SetTable.turns mask<=100:=by
 unfold SetTable.turns
 rcases h with e|e|e|e<;>omega
end Sdm
namespace Gs
open PySem PyProof.Rows Stb Sdm
section
variable {prog:Program}{w:World}{A:Around}{E:Value->Shared->Prop}{s:Shared}{κ:Type} [DecidableEq κ]{kk:Kk prog w κ}
theorem A9x {a:Addr}{xs:List (κ×Addr)}{ep mask moves:Nat}{led:Bool}{pl dm:List Nat}{k:κ}{b:Addr}{Q:Option Nat->Shared->Prop}(hu:A.units+1<cLine)(ho:s.heap.get? a=some (fK kk.hs xs ep mask moves led pl dm))(ok:OkD mask pl dm (aZ kk.hs xs))
  (hK:∀x∈xs,kk.is s.heap x.1 x.2)(hk:kk.is s.heap k b)(h1:∀(i:Nat)(x:κ×Addr),xs[i]?=some x->x.1=k->Q (some i) s)(h2:k∉xs.map (·.1)->Q none s):wpAny (model prog w) A (setFind a (.ref b) (kk.hs k)) Q E s:=by
 have hd:(fK kk.hs xs ep mask moves led pl dm).data= .set (xs.map (entG kk.hs)).toArray ep (tbd mask moves led pl dm):=rfl
 have hfi:=fitsD (moves:=moves) (led:=led) ok
 obtain⟨n0,f1,f2,f3,f4⟩:=ok.free (kk.hs k)
 unfold setFind setFindIn
 refine zjZ (wpAny_setState_of ho hd hfi ?_);dsimp only
 have hbs:byScan (.ref b) (xs.map (entG kk.hs)).toArray=false:=by simp [byScan,Value.scannable]
 rw [hbs]
 simp only [Bool.false_eq_true,↓reduceIte]
 unfold setSearch
 refine zjZ (uH false hu ho ok hK hk f1 f2 f3 f4 (fun i x hx e=> ?_) (fun hm u gu=> ?_) 100000 0 none none (zero_le _) ?_ (by rw [xM];rfl) (.inl rfl) fun m hm=>absurd hm (by omega))
 ·simp only [Bool.false_eq_true,↓reduceIte]
  exact zjY (h1 i x hx e)
 ·exact zjY (h2 hm)
 ·have:=ok.mk'.turns
  omega
theorem A3h (xs:List (κ×Addr))(i:Nat):aZ kk.hs (xs.eraseIdx i)=(aZ kk.hs xs).eraseIdx i:=by
 unfold aZ
 rw [eraseIdx_eq_take_drop_succ,eraseIdx_eq_take_drop_succ,map_append,map_take,map_drop]
theorem A5y {a:Addr}{xs:List (κ×Addr)}{led:Bool}{fl:Nat}{k:κ}{b:Addr}{Q:Bool->Shared->Prop}(hu:A.units+1<cLine)(hS:IsStD kk.hs s.heap a xs led fl)(hz:fl<=1000)
  (hK:∀x∈xs,kk.is s.heap x.1 x.2)(hk:kk.is s.heap k b)
  (h1:∀(h':Heap)(i:Nat)(x:κ×Addr),xs[i]?=some x->x.1=k->Heap.SameBut a s.heap h'->IsStD kk.hs h' a (xs.eraseIdx i) led fl->Q true {s with heap:=h'})(h2:k∉xs.map (·.1)->Q false s):wpAny (model prog w) A (setDiscardHashed a (.ref b) (kk.hs k)) Q E s:=by
 obtain⟨ep,mask,moves,pl,dm,ho,ok,hfl⟩:=id hS
 have hd:(fK kk.hs xs ep mask moves led pl dm).data= .set (xs.map (entG kk.hs)).toArray ep (tbd mask moves led pl dm):=rfl
 have hfi:=fitsD (moves:=moves) (led:=led) ok
 have lenx:pl.length=xs.length:=by have:=ok.len;unfold aZ at this;rwa [length_map]at this
 unfold setDiscardHashed
 refine zjZ (A9x hu ho ok hK hk (fun i x hx e=> ?_) fun hm=>zjY (h2 hm))
 dsimp only
 refine zjZ (wpAny_setState_of ho hd hfi ?_);dsimp only
 have hlt:i<xs.length:=(zjW.mp hx).1
 have hp:pl[i]?=some (pl[i]'(by omega)):=getElem?_eq_getElem _
 rw [A60 ok.upd hp,tD]
 have em:(xs.map (entG kk.hs)).eraseIdx i=(xs.eraseIdx i).map (entG kk.hs):=by
  rw [eraseIdx_eq_take_drop_succ,eraseIdx_eq_take_drop_succ,map_append,map_take,map_drop]
 rw [em]
 have hz':((xs.eraseIdx i).map (entG kk.hs)).toArray.size<=sizeLine:=by
  rw [size_toArray,length_map,length_eraseIdx_of_lt hlt,sizeLine_eq];omega
 refine zjZ (wpAny_storeSet_of ho hd ?_ hz')
 refine zjZ (wpAny_point (zjY ?_))
 refine h1 _ i x hx e (Heap.SameBut.update s.heap a _) ⟨ep+1,mask,moves,pl.eraseIdx i,ins dm (rk (pl[i]'(by omega)) dm) (pl[i]'(by omega)),?_,?_,?_⟩
 ·have:=get?_update_self (Obj.putSet ((xs.eraseIdx i).map (entG kk.hs)).toArray (tbd mask moves led (pl.eraseIdx i) (ins dm (rk (pl[i]'(by omega)) dm) (pl[i]'(by omega))))) ho (by rw [putSet_of _ _ hd];rfl)
  rw [putSet_of _ _ hd]at this;exact this
 ·rw [A3h];exact ok.drop hp
 ·rw [length_eraseIdx_of_lt hlt,fA (gR _ _)];omega
end
section
variable {prog:Program}{w:World}{A:Around}{E:Value->Shared->Prop}{s:Shared}{κ:Type} [DecidableEq κ]{kk:Kk prog w κ}
theorem wY {a:Addr}{xs:List (κ×Addr)}{ep mask moves:Nat}{led:Bool}{pl dm:List Nat}{wanted:Nat}(k0:κ×Addr){Q:Unit->Shared->Prop}(ho:s.heap.get? a=some (fK kk.hs xs ep mask moves led pl dm))(hfi:(tbd mask moves led pl dm).fits (xs.map (entG kk.hs)).toArray.size=true)(hw:wanted<=63)(hx:xs.length*5<wanted*3)
  (h:∀h' xs',Heap.SameBut a s.heap h'->(∃moves' pl',h'.get? a=some (fK kk.hs xs' (ep+1) (SetTable.sizeAbove wanted - 1) moves' led pl' [])/\OkD (SetTable.sizeAbove wanted - 1) pl' [] (aZ kk.hs xs'))->xs'.Perm xs->Q () {s with heap:=h'}):wpAny (model prog w) A (setRelay a wanted) Q E s:=by
 have hd:(fK kk.hs xs ep mask moves led pl dm).data= .set (xs.map (entG kk.hs)).toArray ep (tbd mask moves led pl dm):=rfl
 obtain⟨hm,hgt⟩:=yJ hw
 have h64:SetTable.sizeAbove wanted<=64:=by
  rcases hm with e|e|e|e<;>omega
 unfold setRelay
 refine zjZ (wpAny_setState_of ho hd hfi ?_);dsimp only
 rw [if_neg (by rw [sizeLine_eq];omega)]
 have emap:(xs.map (entG kk.hs)).toArray.map (·.1)=(aZ kk.hs xs).toArray:=by simp [aZ,entG]
 rw [emap]
 have hlenh:(aZ kk.hs xs).length=xs.length:=by unfold aZ;rw [length_map]
 obtain⟨pl',order,e,perm,ok'⟩:=Sdm.laid_run hm ((tbd mask moves led pl dm).movedTo (SetTable.sizeAbove wanted - 1)) led (aZ kk.hs xs) (by rw [hlenh];omega)
 have e':(tbd mask moves led pl dm).relaid (aZ kk.hs xs).toArray wanted=some (tb (SetTable.sizeAbove wanted - 1) ((tbd mask moves led pl dm).movedTo (SetTable.sizeAbove wanted - 1)) led pl',order.toArray):=e
 rw [e']
 generalize (tbd mask moves led pl dm).movedTo (SetTable.sizeAbove wanted - 1)=moves'
 generalize SetTable.sizeAbove wanted - 1=mask' at*
 rw [hlenh]at perm
 have ordlt:∀i∈order,i<xs.length:=fun i hi=>mem_range.mp (perm.mem_iff.mp hi)
 generalize hxs':(order.map fun i=>xs.getD i k0)=xs'
 have xperm:xs'.Perm xs:=by
  rw [←hxs']
  refine(perm.map _).trans (List.Perm.of_eq ?_)
  exact qH _ _
 have ees:order.toArray.filterMap (fun i=>(xs.map (entG kk.hs)).toArray[i]?)=(xs'.map (entG kk.hs)).toArray:=by
  rw [List.filterMap_toArray]
  congr 1
  rw [←hxs']
  simp only [List.getElem?_toArray]
  rw [rQ _ ((entG kk.hs) k0) order (by rw [length_map];exact ordlt),map_map]
  refine map_congr_left fun i hi=> ?_
  have:=ordlt i hi
  simp [this]
 have okx:OkD mask' pl' [] (aZ kk.hs xs'):=by
  have:(order.map fun i=>(aZ kk.hs xs).getD i 0)=aZ kk.hs xs':=by
   rw [←hxs']
   unfold aZ
   rw [map_map]
   refine map_congr_left fun i hi=> ?_
   have:=ordlt i hi
   simp [this]
  rw [this]at ok';exact ok'
 have lenx':xs'.length=xs.length:=xperm.length_eq
 have hz':(xs'.map (entG kk.hs)).toArray.size<=sizeLine:=by rw [size_toArray,length_map,lenx',sizeLine_eq];omega
 refine zjZ ?_
 show wpAny _ _ (if ((order.toArray.filterMap (fun i=>(xs.map (entG kk.hs)).toArray[i]?)).size !=(xs.map (entG kk.hs)).toArray.size)=true then _ else pure (order.toArray.filterMap (fun i=>(xs.map (entG kk.hs)).toArray[i]?),tb mask' moves' led pl')) _ _ _
 rw [ees,if_neg (by simp [lenx'])]
 refine zjY ?_
 dsimp only
 refine wpAny_storeSet_of ho hd ?_ hz'
 refine h _ xs' (Heap.SameBut.update s.heap a _) ⟨moves',pl',?_,okx⟩ xperm
 have:=get?_update_self (Obj.putSet (xs'.map (entG kk.hs)).toArray (tb mask' moves' led pl')) ho (by rw [putSet_of _ _ hd];rfl)
 rw [putSet_of _ _ hd]at this;exact this
theorem A9t {a:Addr}{xs:List (κ×Addr)}{ep mask moves:Nat}{led:Bool}{pl dm:List Nat}{fl wanted:Nat}(k0:κ×Addr){Q:Unit->Shared->Prop}(ho:s.heap.get? a=some (fK kk.hs xs ep mask moves led pl dm))(hfi:(tbd mask moves led pl dm).fits (xs.map (entG kk.hs)).toArray.size=true)(hw:wanted<=63)(hx:xs.length*5<wanted*3)(hfl:xs.length<=fl)
  (h:∀h' xs',Heap.SameBut a s.heap h'->IsStD kk.hs h' a xs' led fl->xs'.Perm xs->Q () {s with heap:=h'}):wpAny (model prog w) A (setRelay a wanted) Q E s:=
 wY k0 ho hfi hw hx fun h' xs' sb ⟨m',pl',g,o⟩ pm=>h h' xs' sb ⟨_,_,m',pl',[],g,o,by rw [pm.length_eq];simpa using hfl⟩ pm
theorem yH (xs:List (κ×Addr))(r:Nat)(k:κ)(b:Addr):aZ kk.hs (ins xs r (k,b))=ins (aZ kk.hs xs) r (kk.hs k):=by
 unfold aZ ins
 rw [map_append,map_cons,map_take,map_drop]
theorem A06 {a:Addr}{xs:List (κ×Addr)}{led:Bool}{fl:Nat}{k:κ}{b:Addr}{Q:Bool->Shared->Prop}(hu:A.units+1<cLine)(hS:IsStD kk.hs s.heap a xs led fl)(hK:∀x∈xs,kk.is s.heap x.1 x.2)(hk:kk.is s.heap k b)(few:fl+1<=15)
  (h1:k∈xs.map (·.1)->Q false s)(h2:k∉xs.map (·.1)->∀h' xs',Heap.SameBut a s.heap h'->IsStD kk.hs h' a xs' led (fl+1)->xs'.Perm ((k,b)::xs)->Q true {s with heap:=h'}):
  wpAny (model prog w) A (setAddHashed a (.ref b) (kk.hs k)) Q E s:=by
 obtain⟨ep,mask,moves,pl,dm,ho,ok,hfl⟩:=id hS
 have hd:(fK kk.hs xs ep mask moves led pl dm).data= .set (xs.map (entG kk.hs)).toArray ep (tbd mask moves led pl dm):=rfl
 have hfi:=fitsD (moves:=moves) (led:=led) ok
 obtain⟨n0,f1,f2,f3,f4⟩:=ok.free (kk.hs k)
 have lenx:pl.length=xs.length:=by have:=ok.len;unfold aZ at this;rwa [length_map]at this
 have lenh:(aZ kk.hs xs).length=xs.length:=by unfold aZ;rw [length_map]
 unfold setAddHashed setAddHashedIn
 refine wpAny_holding (zjZ (wpAny_setState_of ho hd hfi ?_));dsimp only
 have hbs:byScan (.ref b) (xs.map (entG kk.hs)).toArray=false:=by simp [byScan,Value.scannable]
 rw [hbs]
 simp only [Bool.false_eq_true,↓reduceIte]
 unfold setSearch
 refine zjZ (uH true hu ho ok hK hk f1 f2 f3 f4 (fun i x hx e=> ?_) (fun hm u gu=> ?_) 100000 0 none none (zero_le _) ?_ (by rw [xM];rfl) (.inl rfl) fun m hm=>absurd hm (by omega))
 ·exact zjY (h1 (mem_map.mpr ⟨x,mem_of_getElem? hx,e⟩))
 ·dsimp only
  refine zjZ (wpAny_setState_of ho hd hfi ?_);dsimp only
  have eins:∀r,SetTable.insertAt (xs.map (entG kk.hs)).toArray r (kk.hs k,Value.ref b)=((ins xs r (k,b)).map (entG kk.hs)).toArray:=fun r=>by
   rw [kG]
   unfold ins
   rw [map_append,map_cons,map_take,map_drop]
   rfl
  rcases gu with rfl| ⟨m,hm0,rfl,hdm⟩
  ·show wpAny _ _ (do
    let byValue←if ((tbd mask moves led pl dm).put (nth mask (kk.hs k) n0).j).1.plain then hashByValue 8 (.ref b)else pure true
    storeSet a (SetTable.insertAt (xs.map (entG kk.hs)).toArray ((tbd mask moves led pl dm).put (nth mask (kk.hs k) n0).j).2 (kk.hs k,Value.ref b)) (if byValue then((tbd mask moves led pl dm).put (nth mask (kk.hs k) n0).j).1 else{((tbd mask moves led pl dm).put (nth mask (kk.hs k) n0).j).1 with plain:=false})
    if !false&&(if byValue then((tbd mask moves led pl dm).put (nth mask (kk.hs k) n0).j).1 else{((tbd mask moves led pl dm).put (nth mask (kk.hs k) n0).j).1 with plain:=false}).tooFull then setRelay a (SetTable.grown ((xs.map (entG kk.hs)).toArray.size+1))
    return true) _ _ _
   rw [A74 ok.up f3]
   dsimp only
   have hpl:(tbd mask moves led (ins pl (rk (nth mask (kk.hs k) n0).j pl) (nth mask (kk.hs k) n0).j) dm).plain=true:=rfl
   rw [hpl]
   simp only [↓reduceIte]
   refine zjZ (kk.byValue hk ?_)
   simp only [↓reduceIte]
   have hrle:rk (nth mask (kk.hs k) n0).j pl<=xs.length:=by rw [←lenx];exact gR _ _
   rw [eins]
   have hlen:(ins xs (rk (nth mask (kk.hs k) n0).j pl) (k,b)).length=xs.length+1:=fA hrle
   have hz:((ins xs (rk (nth mask (kk.hs k) n0).j pl) (k,b)).map (entG kk.hs)).toArray.size<=sizeLine:=by rw [size_toArray,length_map,hlen,sizeLine_eq];omega
   refine zjZ (wpAny_storeSet_of ho hd ?_ hz)
   have hlp:(ins pl (rk (nth mask (kk.hs k) n0).j pl) (nth mask (kk.hs k) n0).j).length=xs.length+1:=by rw [fA (gR _ _),lenx]
   have sb:=Heap.SameBut.update s.heap a (Obj.putSet ((ins xs (rk (nth mask (kk.hs k) n0).j pl) (k,b)).map (entG kk.hs)).toArray (tbd mask moves led (ins pl (rk (nth mask (kk.hs k) n0).j pl) (nth mask (kk.hs k) n0).j) dm))
   have hg:(s.heap.update a (Obj.putSet ((ins xs (rk (nth mask (kk.hs k) n0).j pl) (k,b)).map (entG kk.hs)).toArray (tbd mask moves led (ins pl (rk (nth mask (kk.hs k) n0).j pl) (nth mask (kk.hs k) n0).j) dm))).get? a=some (fK kk.hs (ins xs (rk (nth mask (kk.hs k) n0).j pl) (k,b)) (ep+1) mask moves led (ins pl (rk (nth mask (kk.hs k) n0).j pl) (nth mask (kk.hs k) n0).j) dm):=by
    have:=get?_update_self (Obj.putSet ((ins xs (rk (nth mask (kk.hs k) n0).j pl) (k,b)).map (entG kk.hs)).toArray (tbd mask moves led (ins pl (rk (nth mask (kk.hs k) n0).j pl) (nth mask (kk.hs k) n0).j) dm)) ho (by rw [putSet_of _ _ hd];rfl)
    rw [putSet_of _ _ hd]at this;exact this
   rw [A7t,hlp]
   by_cases fw:(xs.length+1+dm.length)*5<mask*3
   ·rw [zjU (by omega)]
    simp only [Bool.and_false,Bool.false_eq_true,↓reduceIte]
    refine zjY (h2 hm _ (ins xs (rk (nth mask (kk.hs k) n0).j pl) (k,b)) sb ⟨ep+1,mask,moves,_,dm,hg,?_,by rw [hlen];omega⟩ (mI _ _ _))
    rw [yH]
    exact ok.put f2 f3 f4 (by rw [lenh];exact fw)
   ·rw [zjV (by omega)]
    simp only [Bool.not_false,Bool.and_self,↓reduceIte]
    have esz:SetTable.grown ((xs.map (entG kk.hs)).toArray.size+1)=(xs.length+1)*4:=by
     unfold SetTable.grown
     rw [size_toArray,length_map,if_neg (by omega)]
    rw [esz]
    have fits:(tbd mask moves led (ins pl (rk (nth mask (kk.hs k) n0).j pl) (nth mask (kk.hs k) n0).j) dm).fits ((ins xs (rk (nth mask (kk.hs k) n0).j pl) (k,b)).map (entG kk.hs)).toArray.size=true:=by
     have h3:=ok.few
     rw [lenh]at h3
     simp only [SetTable.fits,SetTable.fill,tbd,size_toArray,length_map,Bool.and_eq_true,beq_iff_eq,decide_eq_true_eq]
     have:=ok.mk'
     exact⟨by omega,by rcases this with e|e|e|e<;>omega⟩
    refine zjZ (A9t (s:={s with heap:=_}) (fl:=fl+1) (k,b) hg fits (by omega) (by rw [hlen];omega) (by rw [hlen];omega) fun h' xs' sb' S' pm=> ?_)
    exact zjY (h2 hm h' xs' (sb.trans sb') S' (pm.trans (mI _ _ _)))
  ·show wpAny _ _ (do
    let byValue←if ((tbd mask moves led pl dm).put (nth mask (kk.hs k) m).j).1.plain then hashByValue 8 (.ref b)else pure true
    storeSet a (SetTable.insertAt (xs.map (entG kk.hs)).toArray ((tbd mask moves led pl dm).put (nth mask (kk.hs k) m).j).2 (kk.hs k,Value.ref b)) (if byValue then((tbd mask moves led pl dm).put (nth mask (kk.hs k) m).j).1 else{((tbd mask moves led pl dm).put (nth mask (kk.hs k) m).j).1 with plain:=false})
    if !true&&(if byValue then((tbd mask moves led pl dm).put (nth mask (kk.hs k) m).j).1 else{((tbd mask moves led pl dm).put (nth mask (kk.hs k) m).j).1 with plain:=false}).tooFull then setRelay a (SetTable.grown ((xs.map (entG kk.hs)).toArray.size+1))
    return true) _ _ _
   rw [A86 ok.up ok.upd hdm]
   dsimp only
   have hpl:(tbd mask moves led (ins pl (rk (nth mask (kk.hs k) m).j pl) (nth mask (kk.hs k) m).j) (dm.erase (nth mask (kk.hs k) m).j)).plain=true:=rfl
   rw [hpl]
   simp only [↓reduceIte]
   refine zjZ (kk.byValue hk ?_)
   simp only [↓reduceIte]
   have hrle:rk (nth mask (kk.hs k) m).j pl<=xs.length:=by rw [←lenx];exact gR _ _
   rw [eins]
   have hlen:(ins xs (rk (nth mask (kk.hs k) m).j pl) (k,b)).length=xs.length+1:=fA hrle
   have hz:((ins xs (rk (nth mask (kk.hs k) m).j pl) (k,b)).map (entG kk.hs)).toArray.size<=sizeLine:=by rw [size_toArray,length_map,hlen,sizeLine_eq];omega
   refine zjZ (wpAny_storeSet_of ho hd ?_ hz)
   simp only [Bool.not_true,Bool.false_and,Bool.false_eq_true,↓reduceIte]
   have sb:=Heap.SameBut.update s.heap a (Obj.putSet ((ins xs (rk (nth mask (kk.hs k) m).j pl) (k,b)).map (entG kk.hs)).toArray (tbd mask moves led (ins pl (rk (nth mask (kk.hs k) m).j pl) (nth mask (kk.hs k) m).j) (dm.erase (nth mask (kk.hs k) m).j)))
   refine zjY (h2 hm _ (ins xs (rk (nth mask (kk.hs k) m).j pl) (k,b)) sb ⟨ep+1,mask,moves,ins pl (rk (nth mask (kk.hs k) m).j pl) (nth mask (kk.hs k) m).j,dm.erase (nth mask (kk.hs k) m).j,?_,?_,?_⟩ (mI _ _ _))
   ·have:=get?_update_self (Obj.putSet ((ins xs (rk (nth mask (kk.hs k) m).j pl) (k,b)).map (entG kk.hs)).toArray (tbd mask moves led (ins pl (rk (nth mask (kk.hs k) m).j pl) (nth mask (kk.hs k) m).j) (dm.erase (nth mask (kk.hs k) m).j))) ho (by rw [putSet_of _ _ hd];rfl)
    rw [putSet_of _ _ hd]at this;exact this
   ·rw [yH]
    exact ok.reuse hdm fun m' hm'=>f4 m' (by omega)
   ·rw [hlen,List.length_erase_of_mem hdm]
    have:=length_pos_of_mem hdm
    omega
 ·have:=ok.mk'.turns
  omega
end
end Gs
namespace Sdm
open PySem PySem.SetTable Stb
theorem toD {mask:Nat}{pl:List Nat}{hs:List Int}(o:Ok mask pl hs):OkD mask pl [] hs:=
 ⟨by rcases o.mk' with e|e<;>simp [MkD,e],o.len,o.up,List.Pairwise.nil,(fun j h=>by cases h),o.top,by simpa using o.few,fun x hx=>by
  obtain⟨n,a,b⟩:=o.reach x hx
  exact⟨n,a,fun m hm=> .inl (b m hm)⟩⟩
end Sdm
namespace Gs
open PySem PyProof.Rows Stb Sdm
section
variable {prog:Program}{w:World}{A:Around}{E:Value->Shared->Prop}{s:Shared}{κ:Type} [DecidableEq κ]{kk:Kk prog w κ}
theorem A88 {D o:Addr}{xs:List (κ×Addr)}{led:Bool}(k0:κ×Addr){each:Sem Unit}{Q:Unit->Shared->Prop}(hne:D≠o)(hD:s.heap.get? D=some (cK kk.hs [] 0 7 0 led []))(hO:IsStG kk.hs s.heap o xs led)(hz:xs.length<=17)
  (h:∀h' xs',Heap.SameBut D s.heap h'->IsStD kk.hs h' D xs' led xs.length->xs'.Perm xs->Q () {s with heap:=h'}):wpAny (model prog w) A (setMerge D o each) Q E s:=by
 obtain⟨epo,masko,moveso,plo,ho,oko⟩:=id hO
 have hdo:(cK kk.hs xs epo masko moveso led plo).data= .set (xs.map (entG kk.hs)).toArray epo (tb masko moveso led plo):=rfl
 have hfo:=jU (moves:=moveso) (led:=led) oko
 have hdD:(cK kk.hs ([]:List (κ×Addr)) 0 7 0 led []).data= .set #[] 0 (tb 7 0 led []):=rfl
 unfold setMerge
 have e0:(D==o)=false:=by simpa using hne
 rw [e0]
 simp only [Bool.false_eq_true,↓reduceIte]
 refine zjZ (wpAny_setState_of ho hdo hfo ?_);dsimp only
 cases xs with
 |nil=>
  rw [show((([]:List (κ×Addr)).map (entG kk.hs)).toArray.isEmpty)=true from rfl]
  simp only [↓reduceIte]
  refine zjY ?_
  have:=h s.heap [] (Heap.SameBut.refl D s.heap) ⟨0,7,0,[],[],hD,toD Ok.nil,zjQ _⟩ (List.Perm.refl _)
  exact this
 |cons x0 xr=>
  rw [show(((x0::xr).map (entG kk.hs)).toArray.isEmpty)=false by simp]
  simp only [Bool.false_eq_true,↓reduceIte]
  generalize hxs:x0::xr=xs at*
  have hpos:0<xs.length:=by rw [←hxs];simp
  refine zjZ (wpAny_mono (Q:=fun _ s'=> ∃h' ep mask moves,s'={s with heap:=h'}/\h'.get? D=some (fK kk.hs ([]:List (κ×Addr)) ep mask moves led [] [])/\MkD mask/\xs.length*5<mask*3/\Heap.SameBut D s.heap h') ?_ ?_ fun _ _ z=>z)
  ·unfold setRoomFor
   refine zjZ (wpAny_setState_of hD hdD rfl ?_)
   dsimp only
   have er:(tb 7 0 led []).roomFor (xs.map (entG kk.hs)).toArray.size=if 21<=xs.length*5 then some (xs.length*2)else none:=by
    unfold SetTable.roomFor SetTable.fill tb
    simp
   rw [er]
   by_cases c:21<=xs.length*5
   ·rw [if_pos c]
    dsimp only
    refine wY (pl:=[]) (dm:=[]) (xs:=([]:List (κ×Addr))) k0 hD rfl (by omega) (by simp;omega) fun h' xs' sb ⟨m',pl',g,ok'⟩ pm=> ?_
    obtain rfl:=pm.eq_nil
    obtain⟨hm,hgt⟩:=yJ (n:=xs.length*2) (by omega)
    have hpl:pl'=[]:=length_eq_zero_iff.mp (by have:=ok'.len;simpa [aZ]using this)
    subst hpl
    exact⟨h',_,_,m',rfl,g,hm,by omega,sb⟩
   ·rw [if_neg c]
    dsimp only
    exact zjY ⟨s.heap,_,_,_,rfl,hD,.inl rfl,by omega,Heap.SameBut.refl D s.heap⟩
  ·rintro _ s' ⟨h',ep,mask,moves,rfl,g,hm,few,sb⟩
   have fD:(tbd mask moves led [] []).fits (([]:List (κ×Addr)).map (entG kk.hs)).toArray.size=true:=by
    simp [SetTable.fits,SetTable.fill,tbd]
   refine zjZ (wpAny_setState_of (s:={s with heap:=h'}) g (by rfl) fD ?_)
   dsimp only
   have hz':∀ys:List (κ×Addr),ys.length=xs.length->(ys.map (entG kk.hs)).toArray.size<=sizeLine:=fun ys e=>by rw [size_toArray,length_map,e,sizeLine_eq];omega
   have hd2:(fK kk.hs ([]:List (κ×Addr)) ep mask moves led [] []).data= .set #[] ep (tbd mask moves led [] []):=rfl
   have hroad:(tbd mask moves led [] []).road (tb masko moveso led plo)=if mask=masko then .slotForSlot else .clean:=by
    unfold SetTable.road SetTable.fill tbd tb
    by_cases e:mask=masko<;>simp [e]
   rw [hroad]
   by_cases e:mask=masko
   ·subst e
    rw [if_pos rfl]
    dsimp only
    have et:({tb mask moveso led plo with finger:=(tbd mask moves led [] []).finger,led:=(tbd mask moves led [] []).led&&(tb mask moveso led plo).led,moves:=(tbd mask moves led [] []).moves,plain:=(tbd mask moves led [] []).plain&&(tb mask moveso led plo).plain}:SetTable)=tbd mask moves led plo []:=by
     unfold tbd tb;simp
    refine wpAny_storeSet_of (s:={s with heap:=h'}) g hd2 ?_ (hz' xs rfl)
    refine h _ xs (sb.trans (Heap.SameBut.update h' D _)) ⟨ep+1,mask,moves,plo,[],?_,toD oko,by simp⟩ (List.Perm.refl _)
    have:=get?_update_self (Obj.putSet (xs.map (entG kk.hs)).toArray (tbd mask moves led plo [])) g (by rw [putSet_of _ _ hd2];rfl)
    rw [putSet_of _ _ hd2]at this
    dsimp only at et
    rw [et];exact this
   ·rw [if_neg e]
    dsimp only
    have emap:(xs.map (entG kk.hs)).toArray.map (·.1)=(aZ kk.hs xs).toArray:=by simp [aZ,entG]
    rw [emap]
    have hlenh:(aZ kk.hs xs).length=xs.length:=by unfold aZ;rw [length_map]
    obtain⟨pl',order,el,perm,ok'⟩:=Sdm.laid_run hm moves led (aZ kk.hs xs) (by rw [hlenh];omega)
    have el':SetTable.laid (tbd mask moves led [] []).mask (tbd mask moves led [] []).finger (tbd mask moves led [] []).moves ((tbd mask moves led [] []).led&&(tb masko moveso led plo).led) ((tbd mask moves led [] []).plain&&(tb masko moveso led plo).plain) (aZ kk.hs xs).toArray=some (tb mask moves led pl',order.toArray):=by
     rw [←el];unfold tbd tb;simp
    rw [el']
    rw [hlenh]at perm
    have ordlt:∀i∈order,i<xs.length:=fun i hi=>mem_range.mp (perm.mem_iff.mp hi)
    generalize hxs':(order.map fun i=>xs.getD i k0)=xs'
    have xperm:xs'.Perm xs:=by
     rw [←hxs']
     refine(perm.map _).trans (List.Perm.of_eq ?_)
     exact qH _ _
    have ees:order.toArray.filterMap (fun i=>(xs.map (entG kk.hs)).toArray[i]?)=(xs'.map (entG kk.hs)).toArray:=by
     rw [List.filterMap_toArray]
     congr 1
     rw [←hxs']
     simp only [List.getElem?_toArray]
     rw [rQ _ ((entG kk.hs) k0) order (by rw [length_map];exact ordlt),map_map]
     refine map_congr_left fun i hi=> ?_
     have:=ordlt i hi
     simp [this]
    have okx:OkD mask pl' [] (aZ kk.hs xs'):=by
     have:(order.map fun i=>(aZ kk.hs xs).getD i 0)=aZ kk.hs xs':=by
      rw [←hxs']
      unfold aZ
      rw [map_map]
      refine map_congr_left fun i hi=> ?_
      have:=ordlt i hi
      simp [this]
     rw [this]at ok';exact ok'
    have lenx':xs'.length=xs.length:=xperm.length_eq
    refine zjZ ?_
    show wpAny _ _ (if ((order.toArray.filterMap (fun i=>(xs.map (entG kk.hs)).toArray[i]?)).size !=(xs.map (entG kk.hs)).toArray.size)=true then _ else pure (order.toArray.filterMap (fun i=>(xs.map (entG kk.hs)).toArray[i]?),tb mask moves led pl')) _ _ _
    rw [ees,if_neg (by simp [lenx'])]
    refine zjY ?_
    dsimp only
    refine wpAny_storeSet_of (s:={s with heap:=h'}) g hd2 ?_ (hz' xs' lenx')
    refine h _ xs' (sb.trans (Heap.SameBut.update h' D _)) ⟨ep+1,mask,moves,pl',[],?_,okx,by simp [lenx']⟩ xperm
    have:=get?_update_self (Obj.putSet (xs'.map (entG kk.hs)).toArray (tb mask moves led pl')) g (by rw [putSet_of _ _ hd2];rfl)
    rw [putSet_of _ _ hd2]at this;exact this
end
section
variable {prog:Program}{w:World}{A:Around}{E:Value->Shared->Prop}{s:Shared}{κ:Type}{hf:κ->Int}
theorem A4v {α:Type}(next:Nat->Nat)(xs:Array α):(pickOrder next xs).toList.Perm xs.toList:=A5n _ _
theorem A0z {a:Addr}{xs:List (κ×Addr)}{others:List Addr}{filled:Option Addr}{Q:Array (Int×Value)->Shared->Prop}(hS:IsStG hf s.heap a xs (!byT w))(h:∀es:Array (Int×Value),es.toList.Perm (xs.map (entG hf))->Q es s):wpAny (model prog w) A (setWalkUnseen a others filled) Q E s:=by
 obtain⟨ep,mask,moves,pl,ho,ok⟩:=hS
 have hd:(cK hf xs ep mask moves (!byT w) pl).data= .set (xs.map (entG hf)).toArray ep (tb mask moves (!byT w) pl):=rfl
 have hfi:=jU (moves:=moves) (led:=!byT w) ok
 unfold setWalkUnseen setsByText
 refine zjZ (wpAny_setState_of ho hd hfi ?_);dsimp only
 refine zjZ (zjZ (wpAny_askSetting (zjY ?_)))
 show wpAny _ _ (if (byT w|| (!byT w&&true)||decide ((xs.map (entG hf)).toArray.size<=1))=true then _ else _) _ _ _
 rw [if_pos (by cases byT w<;>rfl)]
 unfold setWalk setsByText
 refine zjZ (wpAny_setState_of ho hd hfi ?_);dsimp only
 refine zjZ (zjZ (wpAny_askSetting (zjY ?_)))
 show wpAny _ _ (if byT w=true then _ else _) _ _ _
 by_cases hb:byT w=true
 ·rw [if_pos hb]
  refine zjZ (wpAny_askSetting (zjY ?_))
  refine h _ ?_
  exact(A4v _ _).trans (List.Perm.of_eq (by simp))
 ·rw [if_neg hb]
  have hb':byT w=false:=by simpa using hb
  show wpAny _ _ (if (!true&&decide ((xs.map (entG hf)).toArray.size>1))=true then _ else _) _ _ _
  rw [if_neg (by simp)]
  show wpAny _ _ ((if (!(!byT w)&&decide ((xs.map (entG hf)).toArray.size>1))=true then unsupported "set:maker-not-led" else pure ())>>=_) _ _ _
  rw [hb',if_neg (by simp)]
  refine zjZ (zjY (zjY (h _ ?_)))
  exact List.Perm.of_eq (by simp)
end
theorem A7o {α β:Type}(f:α->β){l l':List β}(h:l.Perm l'):∀ys:List α,l'=ys.map f->∃ws:List α,l=ws.map f/\ws.Perm ys:=by
 induction h with
 |nil=>intro ys e;exact⟨ys,e,List.Perm.refl _⟩
 |cons x p ih=>
  intro ys e
  cases ys with
  |nil=>cases e
  |cons y ys=>
   rw [map_cons]at e
   obtain⟨ws,e1,p1⟩:=ih ys (List.cons.inj e).2
   exact⟨y::ws,by rw [map_cons,←e1,(List.cons.inj e).1],p1.cons y⟩
 |swap x y l=>
  intro ys e
  match ys,e with
  |a::b::ys,e=>
   rw [map_cons,map_cons]at e
   have e1:=List.cons.inj e
   have e2:=List.cons.inj e1.2
   exact⟨b::a::ys,by rw [map_cons,map_cons,←e1.1,←e2.1,←e2.2],List.Perm.swap _ _ _⟩
  | [],e=>cases e
  | [_],e=>cases (List.cons.inj e).2
 |trans p q ih1 ih2=>
  intro ys e
  obtain⟨ws,e1,p1⟩:=ih2 ys e
  obtain⟨vs,e2,p2⟩:=ih1 ws e1
  exact⟨vs,e2,p2.trans p1⟩
section
variable {prog:Program}{w:World}{A:Around}{E:Value->Shared->Prop}{s:Shared}{κ:Type} [DecidableEq κ]{kk:Kk prog w κ}
def oA (D:Addr)(h:Int)(x:Value):Sem Unit:=holding [x] do
  if !(←setDiscardHashed D x h)then
   let _←setAddHashed D x h
theorem A98 {D:Addr}{zs:List (κ×Addr)}{led:Bool}{fl:Nat}{k:κ}{b:Addr}{Q:Unit->Shared->Prop}(hu:A.units+1<cLine)(hS:IsStD kk.hs s.heap D zs led fl)(hK:∀x∈zs,kk.is s.heap x.1 x.2)(hk:kk.is s.heap k b)(few:fl+1<=15)(nd:(zs.map (·.1)).Nodup)
  (h:∀h' zs' fl',Heap.SameBut D s.heap h'->IsStD kk.hs h' D zs' led fl'->(zs'.map (·.1)).Nodup->(∀z∈zs',z=(k,b)\/z∈zs)->(∀c,c∈zs'.map (·.1)↔(c≠k/\c∈zs.map (·.1))\/(c=k/\k∉zs.map (·.1)))->fl'<=fl+(if k∈zs.map (·.1)then 0 else 1)->Q () {s with heap:=h'}):
  wpAny (model prog w) A (oA D (kk.hs k) (.ref b)) Q E s:=by
 unfold oA
 refine wpAny_holding (zjZ (A5y hu hS (by omega) hK hk (fun h' i x hx e sb S'=> ?_) fun hn=> ?_))
 ·simp only [Bool.not_true,Bool.false_eq_true,↓reduceIte]
  have hmem:k∈zs.map (·.1):=mem_map.mpr ⟨x,mem_of_getElem? hx,e⟩
  have hlt:i<zs.length:=(zjW.mp hx).1
  have ee:(zs.eraseIdx i).map (·.1)=(zs.map (·.1)).eraseIdx i:=by
   rw [eraseIdx_eq_take_drop_succ,eraseIdx_eq_take_drop_succ,map_append,map_take,map_drop]
  have gi:(zs.map (·.1))[i]?=some k:=by rw [getElem?_map,hx,←e];rfl
  refine zjY (h h' _ fl sb S' ?_ (fun z hz=> .inr ((eraseIdx_sublist _ _).subset hz)) (fun c=> ?_) (by rw [if_pos hmem];omega))
  ·rw [ee];exact nd.sublist (eraseIdx_sublist _ _)
  ·rw [ee,List.mem_eraseIdx_iff_getElem?]
   constructor
   ·rintro⟨j,hj,hc⟩
    refine .inl ⟨fun z=>hj ?_,mem_of_getElem? hc⟩
    subst z
    have l1:=(zjW.mp hc)
    have l2:=(zjW.mp gi)
    obtain⟨a1,a2⟩:=l1
    obtain⟨b1,b2⟩:=l2
    exact(getElem_inj nd).mp (a2.trans b2.symm)
   ·rintro(⟨hc,hm⟩| ⟨rfl,hm⟩)
    ·obtain⟨j,hj⟩:=mem_iff_getElem?.mp hm
     refine⟨j,fun z=>hc ?_,hj⟩
     subst z
     rw [gi]at hj
     exact(Option.some.inj hj).symm
    ·exact absurd hmem hm
 ·simp only [Bool.not_false,↓reduceIte]
  refine zjZ (A06 hu hS hK hk few (fun hm=>absurd hm hn) fun _ h' zs' sb S' pm=>zjY (h h' zs' (fl+1) sb S' ?_ (fun z hz=> ?_) (fun c=> ?_) (by rw [if_neg hn];exact zjQ _)))
  ·rw [(pm.map (·.1)).nodup_iff,map_cons]
   exact nodup_cons.mpr ⟨hn,nd⟩
  ·exact mem_cons.mp (pm.mem_iff.mp hz)
  ·rw [(pm.map (·.1)).mem_iff,map_cons,mem_cons]
   constructor
   ·rintro(z|z)
    ·exact .inr ⟨z,hn⟩
    ·exact .inl ⟨fun e=>hn (by rw [←e];exact z),z⟩
   ·rintro(⟨_,z⟩| ⟨z,_⟩)
    ·exact .inr z
    ·exact .inl z
end
section
variable {prog:Program}{w:World}{A:Around}{E:Value->Shared->Prop}{s:Shared}{κ:Type} [DecidableEq κ]{kk:Kk prog w κ}
theorem A6y (id:String){D o:Addr}{xs ys:List (κ×Addr)}{led:Bool}{epo masko moveso:Nat}{plo:List Nat}(hne:D≠o){Q:PUnit->Shared->Prop}(hu:A.units+1<cLine)(hS:IsStD kk.hs s.heap D xs led xs.length)(hO:s.heap.get? o=some (cK kk.hs ys epo masko moveso led plo))(oko:Ok masko plo (aZ kk.hs ys))
  (hK:∀x,x∈xs\/x∈ys->kk.is s.heap x.1 x.2)(hmono:∀h',Heap.SameBut D s.heap h'->∀x,x∈xs\/x∈ys->kk.is h' x.1 x.2)(ndx:(xs.map (·.1)).Nodup)(ndy:(ys.map (·.1)).Nodup)(few:xs.length+(ys.filter fun y=> !decide (y.1∈xs.map (·.1))).length<=14)
  (ws:List (κ×Addr))(pw:ws.Perm ys)
  (h:∀h' zs fl,Heap.SameBut D s.heap h'->IsStD kk.hs h' D zs led fl->(zs.map (·.1)).Nodup->(∀c,c∈zs.map (·.1)↔(c∈xs.map (·.1)/\c∉ys.map (·.1))\/(c∉xs.map (·.1)/\c∈ys.map (·.1)))->Q () {s with heap:=h'}):
  wpAny (model prog w) A (forIn (ws.map (entG kk.hs)) PUnit.unit fun x _=>do
   oA D x.1 x.2
   Builtin.Frozenset.unchanged id o epo
   pure (ForInStep.yield PUnit.unit)) Q E s:=by
 have hdo:(cK kk.hs ys epo masko moveso led plo).data= .set (ys.map (entG kk.hs)).toArray epo (tb masko moveso led plo):=rfl
 have hfo:=jU (moves:=moveso) (led:=led) oko
 have ndw:(ws.map (·.1)).Nodup:=((pw.map (·.1)).nodup_iff).mpr ndy
 refine wpAny_forIn_list _ (fun rest _ s'=> ∃h' zs fl done wr,s'={s with heap:=h'}/\rest=(wr:List (κ×Addr)).map (entG kk.hs)/\ws=done++wr/\Heap.SameBut D s.heap h'/\IsStD kk.hs h' D zs led fl/\(zs.map (·.1)).Nodup/\(∀z∈zs,z∈xs\/z∈ys)/\(∀c,c∈zs.map (·.1)↔(c∈xs.map (·.1)/\c∉(done:List (κ×Addr)).map (·.1))\/(c∉xs.map (·.1)/\c∈done.map (·.1)))/\fl<=xs.length+(done.filter fun y=> !decide (y.1∈xs.map (·.1))).length) _ ?_ ?_ _ _
  ⟨s.heap,xs,xs.length,[],ws,rfl,rfl,rfl,Heap.SameBut.refl D s.heap,hS,ndx,fun z hz=> .inl hz,fun c=>by simp,by simp⟩
 ·rintro x rest u s' ⟨h',zs,fl,done,wr,rfl,er,ew,sb,S,nd,hz,hc,hfl⟩
  cases wr with
  |nil=>cases er
  |cons y wr=>
   rw [map_cons]at er
   obtain⟨rfl,rfl⟩:=List.cons.inj er
   have hyw:y∈ws:=by rw [ew];simp
   have hyy:y∈ys:=pw.mem_iff.mp hyw
   have hynd:y.1∉done.map (·.1):=by
    rw [ew,map_append,map_cons]at ndw
    have:=(nodup_append.mp ndw).2.2
    exact fun hm=>this _ hm _ zjR rfl
   have hfd:((done++[y]).filter fun y=> !decide (y.1∈xs.map (·.1))).length<=(ys.filter fun y=> !decide (y.1∈xs.map (·.1))).length:=by
    have p:=(pw.filter fun y=> !decide (y.1∈xs.map (·.1))).length_eq
    rw [←p,ew,show done++y::wr=(done++[y])++wr by simp,filter_append (done++[y])]
    rw [length_append];omega
   have hfa:((done++[y]).filter fun y=> !decide (y.1∈xs.map (·.1))).length=(done.filter fun y=> !decide (y.1∈xs.map (·.1))).length+(if y.1∈xs.map (·.1)then 0 else 1):=by
    rw [filter_append,length_append]
    by_cases e:y.1∈xs.map (·.1)<;>simp [e]
   have hyz:y.1∈zs.map (·.1)↔y.1∈xs.map (·.1):=by
    rw [hc y.1];exact⟨fun z=>z.elim (·.1) fun z=>absurd z.2 hynd,fun z=> .inl ⟨z,hynd⟩⟩
   show wpAny _ _ (oA D (kk.hs y.1) (.ref y.2)>>=fun _=>Builtin.Frozenset.unchanged id o epo>>=fun _=>pure (ForInStep.yield PUnit.unit)) _ _ _
   refine zjZ (A98 (s:={s with heap:=h'}) hu S (fun z hz'=>hmono h' sb z (hz z hz')) (hmono h' sb y (.inr hyy)) (by omega) nd fun h2 zs2 fl2 sb2 S2 nd2 m2 c2 f2=> ?_)
   have ho2:h2.get? o=some (cK kk.hs ys epo masko moveso led plo):=by
    rw [(sb.trans sb2).2 o (Ne.symm hne)];exact hO
   unfold Builtin.Frozenset.unchanged
   refine zjZ (zjZ (wpAny_setEpoch_of (s:={s with heap:=h2}) ho2 hdo hfo ?_))
   rw [if_neg (by simp)]
   refine zjY (zjY ⟨h2,zs2,fl2,done++[y],wr,rfl,rfl,by rw [ew];simp,sb.trans sb2,S2,nd2,fun z hz2=> ?_,fun c=> ?_,?_⟩)
   ·rcases m2 z hz2 with e|e
    ·rw [e];exact .inr hyy
    ·exact hz z e
   ·rw [c2 c,hc c,hyz,map_append,mem_append]
    have e1:c∈([y]:List (κ×Addr)).map (·.1)↔c=y.1:=by simp
    rw [e1]
    by_cases cy:c=y.1
    ·subst cy
     by_cases cx:y.1∈xs.map (·.1)<;>simp [cx]
    ·by_cases cx:c∈xs.map (·.1)<;>by_cases cd:c∈done.map (·.1)<;>simp only [cx,cd,cy,ne_eq,not_true_eq_false,not_false_eq_true,and_true,true_and,false_and,and_false,or_false,false_or,true_or,or_true]
   ·rw [hfa]
    have:(if y.1∈zs.map (·.1)then 0 else 1)=(if y.1∈xs.map (·.1)then 0 else 1):=by
     by_cases cx:y.1∈xs.map (·.1)
     ·rw [if_pos cx,if_pos (hyz.mpr cx)]
     ·rw [if_neg cx,if_neg fun z=>cx (hyz.mp z)]
    rw [this]at f2
    omega
 ·rintro u s' ⟨h',zs,fl,done,wr,rfl,er,ew,sb,S,nd,hz,hc,hfl⟩
  have:wr=[]:=List.map_eq_nil_iff.mp er.symm
  subst this
  rw [append_nil]at ew
  subst ew
  refine h h' zs fl sb S nd fun c=> ?_
  rw [hc c,(pw.map (·.1)).mem_iff]
end
section
variable {prog:Program}{w:World}{A:Around}{E:Value->Shared->Prop}{s:Shared}{κ:Type} [DecidableEq κ]{kk:Kk prog w κ}
theorem oV {a:Addr}{Q:Bool->Shared->Prop}(hT:s.TypeIs (.ref a) "set")(h:Q true s):wpAny (model prog w) A (Builtin.Frozenset.isAnySet (.ref a)) Q E s:=by
 unfold Builtin.Frozenset.isAnySet
 have hsub:=PySem.sub_set_self
 wp_walk
 exact h
theorem A8x (id:String){D o:Addr}{xs ys:List (κ×Addr)}(hne:D≠o){Q:Unit->Shared->Prop}(hu:A.units+1<cLine)(hS:IsStD kk.hs s.heap D xs (!byT w) xs.length)(hO:IsStG kk.hs s.heap o ys (!byT w))
  (hK:∀x,x∈xs\/x∈ys->kk.is s.heap x.1 x.2)(hmono:∀h',Heap.SameBut D s.heap h'->∀x,x∈xs\/x∈ys->kk.is h' x.1 x.2)(ndx:(xs.map (·.1)).Nodup)(ndy:(ys.map (·.1)).Nodup)(few:xs.length+(ys.filter fun y=> !decide (y.1∈xs.map (·.1))).length<=14)
  (h:∀h' zs fl,Heap.SameBut D s.heap h'->IsStD kk.hs h' D zs (!byT w) fl->(zs.map (·.1)).Nodup->(∀c,c∈zs.map (·.1)↔(c∈xs.map (·.1)/\c∉ys.map (·.1))\/(c∉xs.map (·.1)/\c∈ys.map (·.1)))->Q () {s with heap:=h'}):
  wpAny (model prog w) A (Builtin.Frozenset.symmetricDifferenceUpdate id D (.ref o)) Q E s:=by
 obtain⟨epo,masko,moveso,plo,ho,oko⟩:=hO
 have hT:s.TypeIs (.ref o) "set":=⟨_,ho,rfl⟩
 have hdo:(cK kk.hs ys epo masko moveso (!byT w) plo).data= .set (ys.map (entG kk.hs)).toArray epo (tb masko moveso (!byT w) plo):=rfl
 have hfo:=jU (moves:=moveso) (led:=!byT w) oko
 unfold Builtin.Frozenset.symmetricDifferenceUpdate
 rw [show((Value.ref o==Value.ref D))=false by simp [Ne.symm hne]]
 simp only [Bool.false_eq_true,↓reduceIte]
 refine zjZ (wpAny_typeOf hT ?_)
 rw [show(Value.type "set" ==Value.type "dict")=false by decide]
 simp only [Bool.false_eq_true,↓reduceIte]
 refine zjZ (oV hT ?_)
 simp only [↓reduceIte]
 refine zjZ (zjY (zjZ (zjY ?_)))
 refine zjZ (wpAny_setEpoch_of ho hdo hfo ?_)
 refine wpAny_holding (zjZ (A0z (hf:=kk.hs) (xs:=ys) ⟨epo,masko,moveso,plo,ho,oko⟩ fun es pe=> ?_))
 obtain⟨ws,ew,pw⟩:=A7o (entG kk.hs) pe ys rfl
 rw [←Array.forIn_toList,ew]
 refine zjZ ?_
 exact A6y id (led:=!byT w) hne hu hS ho oko hK hmono ndx ndy few ws pw fun h' zs fl sb S nd hc=>zjY (h h' zs fl sb S nd hc)
end
section
variable {prog:Program}{w:World}{A:Around}{E:Value->Shared->Prop}{s:Shared}{κ:Type} [DecidableEq κ]{kk:Kk prog w κ}
theorem A51 {l r:Addr}{xs ys:List (κ×Addr)}(k0:κ×Addr){Q:PySem.Fin->Shared->Prop}(hu:A.units+1<cLine)(hl:IsStG kk.hs s.heap l ys (!byT w))(hr:IsStG kk.hs s.heap r xs (!byT w))(hz:xs.length<=17)
  (hK:∀x,x∈xs\/x∈ys->kk.is s.heap x.1 x.2)(ndx:(xs.map (·.1)).Nodup)(ndy:(ys.map (·.1)).Nodup)(few:xs.length+(ys.filter fun y=> !decide (y.1∈xs.map (·.1))).length<=14)
  (h:∀h' zs fl,(∀b o,s.heap.get? b=some o->h'.get? b=some o)->IsStD kk.hs h' s.heap.objs.size zs (!byT w) fl->(zs.map (·.1)).Nodup->(∀c,c∈zs.map (·.1)↔(c∈xs.map (·.1)/\c∉ys.map (·.1))\/(c∉xs.map (·.1)/\c∈ys.map (·.1)))->wpAny (model prog w) A (ret (.ref s.heap.objs.size)) Q E {s with heap:=h'}):
  wpAny (model prog w) A (Builtin.«frozenset.__xor__» ⟨[.ref l,.ref r],[]⟩) Q E s:=by
 obtain⟨epl,maskl,movesl,pll,hol,okl⟩:=id hl
 obtain⟨epr,maskr,movesr,plr,hor,okr⟩:=id hr
 have hTl:s.TypeIs (.ref l) "set":=⟨_,hol,rfl⟩
 have hTr:s.TypeIs (.ref r) "set":=⟨_,hor,rfl⟩
 unfold Builtin.«frozenset.__xor__»
 show wpAny _ _ (Builtin.Frozenset.slot1 "__xor__" ⟨[.ref l,.ref r],[]⟩>>=_) _ _ _
 have e1:Builtin.Frozenset.slot1 "__xor__" ⟨[.ref l,.ref r],[]⟩=pure (.ref l,.ref r):=rfl
 rw [e1]
 refine zjZ (zjY ?_)
 simp only [Bool.false_eq_true,↓reduceIte]
 refine zjZ ?_
 unfold andM
 refine zjZ (oV hTl ?_)
 show wpAny _ _ (Builtin.Frozenset.isAnySet (.ref r)) _ _ _
 refine oV hTr ?_
 simp only [Bool.not_true,Bool.false_eq_true,↓reduceIte]
 refine zjZ (zjY ?_)
 refine zjZ ?_
 generalize (toString "frozenset." ++toString "__xor__")=nm
 show wpAny _ _ (Builtin.Frozenset.baseOf l>>=fun c=>Builtin.Frozenset.newFrom nm c (.ref r)>>=fun result=>Builtin.Frozenset.addrOf result>>=fun d=>holding [result] (Builtin.Frozenset.symmetricDifferenceUpdate nm d (.ref l))>>=fun _=>pure result) _ _ _
 have hb:∀{Q':Value->Shared->Prop},Q' (.type "set") s->wpAny (model prog w) A (Builtin.Frozenset.baseOf l) Q' E s:=fun q=>by
  unfold Builtin.Frozenset.baseOf
  have hsub:=PySem.sub_set_self
  wp_walk
  exact q
 refine zjZ (hb ?_)
 unfold Builtin.Frozenset.newFrom
 refine zjZ (zjZ ?_)
 unfold newSet setsByText
 refine zjZ (zjZ (wpAny_askSetting (zjY ?_)))
 dsimp only
 simp only [newObj]
 refine zjZ (wpAny_alloc (zjY ?_))
 show wpAny _ _ (Builtin.Frozenset.addrOf (.ref s.heap.objs.size)>>=fun d=>holding [Value.ref s.heap.objs.size] (Builtin.Frozenset.updateFrom nm d (.ref r))>>=fun _=>pure (Value.ref s.heap.objs.size)) _ _ {s with heap:=s.heap.push (cK kk.hs [] 0 7 0 (!byT w) [])}
 generalize hg:s.heap.push (cK kk.hs [] 0 7 0 (!byT w) [])=g
 have kg:∀b o,s.heap.get? b=some o->g.get? b=some o:=fun b o e=>by rw [←hg];exact zjX _ e
 have gD:g.get? s.heap.objs.size=some (cK kk.hs [] 0 7 0 (!byT w) []):=by rw [←hg];exact get?_push_size _ rfl
 have nel:s.heap.objs.size≠l:=ne_of_gt (zjT hol)
 have ner:s.heap.objs.size≠r:=ne_of_gt (zjT hor)
 have hr1:IsStG kk.hs g r xs (!byT w):=hr.at (kg r)
 have hdr:(cK kk.hs xs epr maskr movesr (!byT w) plr).data= .set (xs.map (entG kk.hs)).toArray epr (tb maskr movesr (!byT w) plr):=rfl
 refine zjZ (zjY (zjZ (wpAny_holding ?_)))
 unfold Builtin.Frozenset.updateFrom
 refine zjZ (oV (s:={s with heap:=g}) ⟨_,kg _ _ hor,rfl⟩ ?_)
 simp only [↓reduceIte]
 refine zjZ (zjY ?_)
 unfold Builtin.Frozenset.merge
 refine zjZ (wpAny_setEpoch_of (s:={s with heap:=g}) (kg _ _ hor) hdr (jU okr) ?_)
 refine A88 (s:={s with heap:=g}) k0 ner gD hr1 hz fun h1 xs1 sb1 S1 pm1=>zjY (zjZ (zjY (zjZ (wpAny_holding ?_))))
 have k1:∀b o,s.heap.get? b=some o->h1.get? b=some o:=fun b o e=>by
  rw [sb1.2 b (ne_of_lt (zjT e))];exact kg b o e
 have mk:∀y,y∈xs1\/y∈ys->y∈xs\/y∈ys:=fun y hy=>hy.imp_left pm1.mem_iff.mp
 have mm:∀c,c∈xs1.map (·.1)↔c∈xs.map (·.1):=fun c=>(pm1.map (·.1)).mem_iff
 have hfil:(ys.filter fun y=> !decide (y.1∈xs1.map (·.1)))=ys.filter fun y=> !decide (y.1∈xs.map (·.1)):=List.filter_congr fun y _=>by
  rw [decide_eq_decide.mpr (mm y.1)]
 refine A8x (s:={s with heap:=h1}) nm (xs:=xs1) (ys:=ys) nel hu (by rw [pm1.length_eq];exact S1) (hl.at (k1 l)) (fun y hy=>kk.mono (hK y (mk y hy)) k1) (fun h2 sb2 y hy=>kk.mono (hK y (mk y hy)) fun b o e=>by
   rw [sb2.2 b (ne_of_lt (zjT e))];exact k1 b o e) ((pm1.map (·.1)).nodup_iff.mpr ndx) ndy (by rw [hfil,pm1.length_eq];exact few) fun h2 zs fl sb2 S2 nd2 hc=> ?_
 refine zjY (h h2 zs fl (fun b o e=>by rw [sb2.2 b (ne_of_lt (zjT e))];exact k1 b o e) S2 nd2 fun c=> ?_)
 rw [hc c,mm c]
end
theorem A3a:entryFor table "set.__xor__" =some Builtin.«frozenset.__xor__»:=
 entryFor_alias (id':="frozenset.__xor__") (by kernel_rfl) rfl (by decide +kernel) (by kernel_rfl)
section
variable {prog:Program}{w:World}{A:Around}{E:Value->Shared->Prop}{s:Shared}{κ:Type} [DecidableEq κ]{kk:Kk prog w κ}
theorem xorOp {l r:Addr}{xs ys:List (κ×Addr)}(k0:κ×Addr){Q:Value->Shared->Prop}(hu:A.units+3<cLine)(hl:IsStG kk.hs s.heap l ys (!byT w))(hr:IsStG kk.hs s.heap r xs (!byT w))(hz:xs.length<=17)
  (hK:∀x,x∈xs\/x∈ys->kk.is s.heap x.1 x.2)(ndx:(xs.map (·.1)).Nodup)(ndy:(ys.map (·.1)).Nodup)(few:xs.length+(ys.filter fun y=> !decide (y.1∈xs.map (·.1))).length<=14)
  (h:∀h' zs fl,(∀b o,s.heap.get? b=some o->h'.get? b=some o)->IsStD kk.hs h' s.heap.objs.size zs (!byT w) fl->(zs.map (·.1)).Nodup->(∀c,c∈zs.map (·.1)↔(c∈xs.map (·.1)/\c∉ys.map (·.1))\/(c∉xs.map (·.1)/\c∈ys.map (·.1)))->Q (.ref s.heap.objs.size) {s with heap:=h'}):
  wpAny (model prog w) A (binaryOp .BitXor (.ref l) (.ref r)) Q E s:=by
 have hTl:s.TypeIs (.ref l) "set":=by obtain⟨_,_,_,_,ho,_⟩:=hl;exact⟨_,ho,rfl⟩
 have hTr:s.TypeIs (.ref r) "set":=by obtain⟨_,_,_,_,ho,_⟩:=hr;exact⟨_,ho,rfl⟩
 refine wpAny_binaryOp_same (op:=.BitXor) hTl hTr PySem.F.fills_set_xor PySem.F.slot_set_xor ?_
 refine wpAny_call (codeAny_call_builtin PySem.F.slot_set_xor.plain A3a (PySem.F.slot_set_xor.check _ _ _ _ _ _ _ _ hTl (PySem.F.args_set_xor_2 _ _) ?_))
 refine A51 k0 ?_ hl hr hz hK ndx ndy few fun h' zs fl k S nd hc=> ?_
 ·have e:A.in1.units=A.units+1:=rfl
  omega
 ·exact zjY ⟨by simp,h h' zs fl k S nd hc⟩
end
end Gs
namespace L2
open PySem PySem.Spec PyProof.Rows Srt Stb
def lM {κ:Type}(hf:κ->Int)(w:World)(a:Addr)(xs:List (κ×Addr))(fl:Nat):HO:=.ext fun h=>Gs.IsStD hf h a xs (!byT w) fl
section
variable {X:Cx}{κ:Type} [DecidableEq κ]{kk:Gs.Kk X.prog X.w κ}{Pz:Hp->Addr×κ->Prop}
def A8h (X:Cx)(hs:κ->Int)(Pz:Hp->Addr×κ->Prop):R2:=fun x y H Q=> ∃l r xs ys,x= .ref l/\y= .ref r/\H l=some (gK hs X.w l ys)/\H r=some (gK hs X.w r xs)/\(∀z,z∈xs\/z∈ys->Pz H (z.2,z.1))/\
 (xs.map (·.1)).Nodup/\(ys.map (·.1)).Nodup/\xs.length+(ys.filter fun y=> !decide (y.1∈xs.map (·.1))).length<=14/\
 ∀p zs fl,H p=none->(zs.map (·.1)).Nodup->(∀c,c∈zs.map (·.1)↔(c∈xs.map (·.1)/\c∉ys.map (·.1))\/(c∉xs.map (·.1)/\c∈ys.map (·.1)))->Q (.ref p) (upd H p (lM hs X.w p zs fl))
theorem A3t (k0:κ)(hu:X.A.units+3<cLine)(lift:∀{pins:List (Addr×Obj)}{σ:St}{H:Hp}{s:Shared}{z:Addr×κ},Inv X pins σ H s->Pz H z->kk.is s.heap z.2 z.1):OpR X (binaryOp .BitXor) (A8h X kk.hs Pz):=by
 intro pins s σ H x y v u Q I rx ry h
 obtain⟨l,r,xs,ys,rfl,rfl,hl,hr,hz,ndx,ndy,few,q⟩:=h
 cases rx
 cases ry
 obtain⟨hL,_,_⟩:=(show ObjOk X.prog X.w H s.heap l (gK kk.hs X.w l ys)from I.hok _ _ hl)
 obtain⟨hR,_,_⟩:=(show ObjOk X.prog X.w H s.heap r (gK kk.hs X.w r xs)from I.hok _ _ hr)
 refine Gs.xorOp (kk:=kk) (k0,0) hu hL hR (by omega) (fun x hx=>lift (z:=(x.2,x.1)) I (hz x hx)) ndx ndy few fun h' zs fl k S nd hc=> ?_
 obtain⟨ep,mask,moves,pl,dm,ho,_⟩:=id S
 exact⟨.ref s.heap.objs.size,_,I.laid (t':=s.toks) k (zjQ _) (o:=lM kk.hs X.w _ zs fl) ⟨S,⟨_,ho⟩,fun h1 h2 x e=>x.at e⟩,rfl,q _ zs fl (I.hok.fresh (zjQ _)) nd hc⟩
theorem A0l {hs:κ->Int}:fE X (.builtin "len") (fun as H Q=> ∃p zs fl,as=[.ref p]/\H p=some (lM hs X.w p (zs:List (κ×Addr)) fl)/\zs.length<=1000/\Q (.int zs.length) H):=by
 intro pins s σ H xs us Q I r h
 obtain⟨p,zs,fl,rfl,hp,hz,q⟩:=h
 obtain⟨u,rfl,rx⟩:=fT r
 cases rx
 obtain⟨⟨ep,mask,moves,pl,dm,ho,ok,_⟩,_,_⟩:=(show ObjOk X.prog X.w H s.heap p (lM hs X.w p zs fl)from I.hok _ _ hp)
 have sz:(zs.map (Gs.entG hs)).toArray.size=zs.length:=by simp
 exact PySem.call_len_set ho ⟨rfl,rfl,rfl⟩ rfl (Gs.fitsD ok) (by rw [sz];omega) ⟨.int zs.length,H,(I.tok _).tok _,⟨s.toks+1,by rw [sz]⟩,q⟩
end
end L2
namespace Wlk
open PySem PyProof.Rows Srt Cyc Grd L2
def PzW (H:Hp)(z:Addr×List (List Int)):Prop:=∃cs,z.2=lH cs/\SqA H z.1 cs
theorem PzW.same {H H':Hp}{z:Addr×List (List Int)}(h:PzW H z)(s:Same H H'):PzW H' z:=by
 obtain⟨cs,e,ps,h1,h2⟩:=h
 exact⟨cs,e,ps,s _ _ h1,Paired.mapP h2 fun _ _ x=>s _ _ x⟩
theorem vC {H:Hp}{qs:List Addr}{F:List aY}(h:StAt H qs F):∃zs:List (Addr×List (List Int)),zs.map (·.1)=qs/\zs.map (·.2)=F.map eF/\∀z∈zs,PzW H z:=by
 induction h with
 |nil=>exact⟨[],rfl,rfl,fun z h=>by cases h⟩
 |cons r t ih=>
  rename_i q s _ _
  obtain⟨zs,e1,e2,e3⟩:=ih
  obtain⟨a,b,h1,h2,h3⟩:=r
  refine⟨(q,eF s)::zs,by rw [map_cons,e1],by rw [map_cons,e2];rfl,fun z hz=> ?_⟩
  rcases mem_cons.mp hz with rfl|hz
  ·exact⟨[s.1,s.2],rfl,[a,b],h1,.cons h2 (.cons h3 .nil)⟩
  ·exact e3 z hz
theorem oF {κ:Type}{key:aY->κ}{zs:List (Addr×κ)}{xs:List (κ×Addr)}{F:List aY}(h:mF zs xs)(e:zs.map (·.2)=F.map key)(c:κ):c∈xs.map (·.1)↔c∈F.map key:=by
 rw [←e]
 constructor
 ·intro hc
  obtain⟨x,hx,rfl⟩:=mem_map.mp hc
  exact mem_map.mpr ⟨_,h.of x hx,rfl⟩
 ·intro hc
  obtain⟨z,hz,rfl⟩:=mem_map.mp hc
  exact h.all z hz
theorem A96 {κ:Type} [DecidableEq κ]{key:aY->κ}{zs zs':List (Addr×κ)}{xs ys:List (κ×Addr)}{F1 F2 S:List aY}(h1:mF zs ys)(e1:zs.map (·.2)=F1.map key)(h2:mF zs' xs)(e2:zs'.map (·.2)=F2.map key)(s1:∀x∈F1,x∈S)(s2:∀x∈F2,x∈S)(hS:S.length<=14):xs.length+(ys.filter fun y=> !decide (y.1∈xs.map (·.1))).length<=14:=by
 have nd:(xs.map (·.1)++(ys.filter fun y=> !decide (y.1∈xs.map (·.1))).map (·.1)).Nodup:=by
  refine nodup_append.mpr ⟨h2.nd,?_,fun a ha b hb e=> ?_⟩
  ·exact h1.nd.sublist ((List.filter_sublist (l:=ys) (p:=fun y=> !decide (y.1∈xs.map (·.1)))).map (·.1))
  ·subst e
   obtain⟨y,hy,rfl⟩:=mem_map.mp hb
   have:=(mem_filter.mp hy).2
   rw [zjV ha]at this
   cases this
 have:=nD (B:=S.map key) nd fun c hc=>by
  rcases mem_append.mp hc with hc|hc
  ·obtain⟨x,hx,rfl⟩:=mem_map.mp ((oF h2 e2 c).mp hc)
   exact mem_map_of_mem (s2 x hx)
  ·obtain⟨y,hy,rfl⟩:=mem_map.mp hc
   obtain⟨x,hx,e⟩:=mem_map.mp ((oF h1 e1 y.1).mp (mem_map_of_mem (mem_filter.mp hy).1))
   rw [←e]
   exact mem_map_of_mem (s1 x hx)
 rw [length_append,length_map,length_map,length_map]at this
 omega
end Wlk
namespace M46
open PySem L2 PyProof.Rows Grd Wlk Cyc Srt
abbrev nB:Stmt:=top 28
theorem zN {xs ys:List Int}(h:xs.map V.int=ys.map V.int):xs=ys:=by
 induction xs generalizing ys with
 |nil=>cases ys with|nil=>rfl|cons _ _=>cases h
 |cons x xs ih=>cases ys with
  |nil=>cases h
  |cons y ys=>
   rw [map_cons,map_cons]at h
   injection h with h1 h2
   rw [V.int.inj h1,ih h2]
theorem A0y {xs ys:List Addr}(h:xs.map V.ref=ys.map V.ref):xs=ys:=by
 induction xs generalizing ys with
 |nil=>cases ys with|nil=>rfl|cons _ _=>cases h
 |cons x xs ih=>cases ys with
  |nil=>cases h
  |cons y ys=>
   rw [map_cons,map_cons]at h
   injection h with h1 h2
   rw [V.ref.inj h1,ih h2]
theorem xK {H:Hp}:∀{bs:List Addr}{g k:bG},RowsG H bs g->RowsG H bs k->g=k
 | [],[],[],.nil,.nil=>rfl
 |b::bs,x::g,y::k,.cons r1 t1,.cons r2 t2=>by
  rw [r1]at r2
  injection r2 with r2
  injection r2 with r2
  rw [zN r2,xK t1 t2]
theorem GridAt.uniq {H:Hp}{a:Addr}{g k:bG}(h1:GridAt H a g)(h2:GridAt H a k):g=k:=by
 obtain⟨bs,e1,r1⟩:=h1
 obtain⟨cs,e2,r2⟩:=h2
 rw [e1]at e2
 injection e2 with e2
 injection e2 with e2
 rw [←A0y e2]at r2
 exact xK r1 r2
theorem DlA.uniq {H:Hp}{p:Addr}{g k:bG}{w w2:Nat}{ns ms:List Int}(h1:DlA H p g w ns)(h2:DlA H p k w2 ms):g=k/\ns=ms:=by
 obtain⟨a,n,e1,e2,e3⟩:=h1.ex
 obtain⟨a',n',f1,f2,f3⟩:=h2.ex
 rw [e1]at f1
 injection f1 with f1
 injection f1 with f1
 injection f1 with f1 f4
 injection f4 with f4
 cases f1
 cases f4
 rw [e3]at f3
 injection f3 with f3
 injection f3 with f3
 exact⟨GridAt.uniq e2 f2,zN f3⟩
def jV (C:Addr):Sp:=fun vs H Q E=> ∃v u,vs=[v,u]/\Kn H 4 v/\Kn H 4 u/\(dealtV H v=false->∀H',Same H H'->E (.ref C) none H')/\
 (dealtV H v=true->∀p g w ns,v= .ref p->DlA H p g w ns->(dealtV H u=false->∀H',Same H H'->E (.ref C) none H')/\
  (dealtV H u=true->∀p2 k w2 ms,u= .ref p2->DlA H p2 k w2 ms->k.map List.length=g.map List.length/\(k≠g->∀H',Same H H'->E (.ref C) none H')/\(k=g->∀H',Same H H'->Q (.int (gU (bY (bC pos g) ns) (bY (bC pos g) ms):Nat)) H')))
section
variable {P:Program}{w:World}{K:W.Frag}{mg:Str->Option Value}{base:Heap}
theorem A7x:bV ["one","other"] ["one","other"] (aK nB):=by ac_rfl
theorem A2y {f g1 g2 g3 C:Addr}{fd d1 d2 d3:FuncData}(F:Fun K "fences_moved" "fences_moved" nB f fd)(T:Txt mg)(T2:dY mg)(a1:At P w K mg base (CX1 P w) 8 "check_dealt" g1 d1 ["dealt"] (nH C))(a2:At P w K mg base (CX1 P w) 9 "check_dealt_of" g2 d2 ["mead","dealt"] (tQ C))(a3:At P w K mg base (CX1 P w) 9 "fences_of" g3 d3 ["dealt"] (jY C)):FnOk P w K mg base (CX1 P w) 10 f fd ["one","other"] (jV C):=by
 refine F.okX A7x (fun vs H Q E h=> ?_) (fun cdv A outer s H vs Q E hr h=> ?_)
 ·obtain⟨v,u,rfl,_⟩:=h;rfl
 ·obtain⟨v,u,rfl,kv,ku,qE,qQ⟩:=h
  have hu8:(A.deeper (envOfC "fences_moved" (aK nB) s.heap.objs.size f cdv)).units+8<cLine:=lt_of_le_of_lt (add_le_add_left (by decide:8<=64) _) hr.units
  have hu3:(A.deeper (envOfC "fences_moved" (aK nB) s.heap.objs.size f cdv)).units+3<cLine:=lt_of_le_of_lt (add_le_add_left (by decide:3<=64) _) hr.units
  refine⟨_,aU (gO (aX a1.ok (hr.mono (by decide)) rfl a1.nm a1.kp a1.bd .nil kX (aE (pv 0) aA)))<|
   aU (gO (aX a2.ok hr rfl a2.nm a2.kp a2.bd .nil kX (fM (bM cY (pv 0) aH (fun _ _=>rfl)) (aE (pv 1) aA))))<|
   aW (bB (bI (A0l (hs:=Gs.hN)) rfl T.len PySem.boot_len (fN (bF (A3t (kk:=Gs.kkN P w) (Pz:=PzW) [] hu3 (fun I h=>tG I h))
    (fW (vN (kk:=Gs.kkN P w) (Pz:=PzW) [] rfl hu8 (fun I h=>tG I h)) rfl T2.set PyProof.Rows.boot_set (cC (aX a3.ok hr rfl a3.nm a3.kp a3.bd .nil kX (aE (pv 0) aA)) aA))
    (fW (vN (kk:=Gs.kkN P w) (Pz:=PzW) [] rfl hu8 (fun I h=>tG I h)) rfl T2.set PyProof.Rows.boot_set (cC (aX a3.ok hr rfl a3.nm a3.kp a3.bd .nil kX (aE (pv 1) aA)) aA))) aA))),?_⟩
  refine⟨_,rfl,v,rfl,kv,fun hv H1 s1=> ?_,fun hv H1 s1=>qE hv H1 s1⟩
  obtain⟨p,g,w',ns,rfl,D⟩:=nF hv
  obtain⟨qE2,qQ2⟩:=qQ hv p g w' ns rfl D
  obtain⟨a,n,hp,hA,hn⟩:=D.ex
  have dv1:dealtV H1 u=dealtV H u:=Same.dealtV s1 (ku.le (by decide))
  refine⟨_,rfl,p,_,0,.ref a,rfl,rfl,SqT.of (s1 _ _ hp),bL (j:=0) rfl,_,rfl,a,g,w',u,rfl,hA.same s1,D.G,ku.ext s1.ext,fun hu' H2 s2=>qE2 (by rw [←dv1];exact hu') H2 (s1.trans s2),fun hu' p2 k w2 ms e2 D2'=> ?_⟩
  rw [dv1]at hu'
  obtain⟨p2',k',w2',ms',e2',D2⟩:=nF hu'
  subst e2
  cases e2'
  obtain⟨ek,em⟩:=DlA.uniq D2' (D2.same s1)
  subst ek
  subst em
  obtain⟨hsh,qNe,qEq⟩:=qQ2 hu' p2 k w2' ms rfl D2
  refine⟨hsh,fun e H2 s2=> ?_,fun e H2 s2=>qNe e H2 (s1.trans s2)⟩
  subst e
  have qZ:=qEq rfl
  clear qEq
  have hnd:=rY pos k
  have h10:(bC pos k).length<=10:=by rw [gH];exact D.G.c10
  have s12:=s1.trans s2
  have dA:dealtV H2 (.ref p)=true:=gJ (D.same s12)
  refine⟨_,rfl,.ref p,rfl,kv.ext s12.ext,fun hv'=>absurd (dA.symm.trans hv') (by decide),fun _ p' g' w3 ns' e3 D3=> ?_⟩
  cases e3
  obtain⟨eg,en⟩:=DlA.uniq D3 (D.same s12)
  subst eg
  subst en
  intro l1 q1 H3 f1 s3 e1 S1
  generalize hAA:bC pos g'=AA at*
  obtain⟨z1,m1,k1,P1⟩:=vC S1
  have sub1:∀x∈bY AA ns',x∈dH AA:=fun x hx=>(mem_filter.mp hx).1
  have sub2:∀x∈bY AA ms,x∈dH AA:=fun x hx=>(mem_filter.mp hx).1
  have few:=A7z (tX hnd) h10
  have mz:∀{zs:List (Addr×List (List Int))}{F:List aY},zs.map (·.2)=F.map eF->(∀x∈F,x∈dH AA)->∀z∈zs,z.2∈(dH AA).map eF:=fun{zs F} e hs z hz=>by
   have:z.2∈F.map eF:=by rw [←e];exact mem_map_of_mem hz
   obtain⟨x,hx,e'⟩:=mem_map.mp this
   rw [←e'];exact mem_map_of_mem (hs x hx)
  refine⟨l1,z1,(dH AA).map eF,rfl,SqL.of (by rw [e1,←m1,map_map];rfl),P1,by rw [length_map];omega,mz k1 sub1,fun la ya fa Da=> ?_⟩
  have s4:=aV (o:=gK (Gs.kkN P w).hs w la ya) fa
  have s14:=(s12.trans s3).trans s4
  have ea:(upd H3 la (gK (Gs.kkN P w).hs w la ya)) la=some (gK (Gs.kkN P w).hs w la ya):=aJ
  have P1a:∀z∈z1,PzW (upd H3 la (gK (Gs.kkN P w).hs w la ya)) z:=fun z hz=>(P1 z hz).same s4
  have dB:dealtV (upd H3 la (gK (Gs.kkN P w).hs w la ya)) (.ref p2)=true:=gJ (D2.same s14)
  refine⟨_,rfl,.ref p2,rfl,ku.ext s14.ext,fun hv'=>absurd (dB.symm.trans hv') (by decide),fun _ p' g2 w4 ms2 e3 D4=> ?_⟩
  cases e3
  obtain⟨eg,en⟩:=DlA.uniq D4 (D2.same s14)
  subst eg
  subst en
  intro l2 q2 H5 f2 s5 e5 S2
  rw [hAA]at S2
  obtain⟨z2,m2,k2,P2⟩:=vC S2
  refine⟨l2,z2,(dH AA).map eF,rfl,SqL.of (by rw [e5,←m2,map_map];rfl),P2,by rw [length_map];omega,mz k2 sub2,fun lb yb fb Db=> ?_⟩
  have s6:=aV (o:=gK (Gs.kkN P w).hs w lb yb) fb
  refine⟨la,lb,yb,ya,rfl,rfl,s6 _ _ (s5 _ _ ea),aJ,fun z hz=> ?_,Db.nd,Da.nd,A96 Da k1 Db k2 sub1 sub2 few,fun lz zs fl fz ndz hc=> ?_⟩
  ·rcases hz with hz|hz
   ·exact(P2 _ (Db.of z hz)).same s6
   ·exact((P1a _ (Da.of z hz)).same s5).same s6
  have s7:=aV (o:=lM (Gs.kkN P w).hs w lz zs fl) fz
  have hlen:=A9o (F1:=bY AA ns') (F2:=bY AA ms2) (rW hnd) (rW hnd) ndz fun c=>by
   rw [hc c,oF Db k2 c,oF Da k1 c]
  rw [length_map]at hlen
  have hl28:zs.length<=1000:=by
   rw [hlen]
   unfold gU
   have y1:=length_filter_le (fun s=> !decide (s∈bY AA ms2)) (bY AA ns')
   have y2:=length_filter_le (fun s=> !decide (s∈bY AA ns')) (bY AA ms2)
   have y3:=kM AA ns' h10
   have y4:=kM AA ms2 h10
   omega
  refine⟨lz,zs,fl,rfl,aJ,hl28,?_⟩
  rw [hlen]
  exact qZ _ (((s14.trans s5).trans s6).trans s7)
end
end M46
namespace L2
open PySem PySem.Spec PyProof.Rows
theorem kP {xs:List V}{lo hi:Option Int}{x:V}(h:x∈eG xs lo hi):x∈xs:=List.mem_of_mem_drop (List.mem_of_mem_take h)
theorem KnA.app {H:Hp}{xs ys:List V}(h1:∀x∈xs,KnA H x)(h2:∀x∈ys,KnA H x):∀x∈xs++ys,KnA H x:=fun x hx=>(mem_append.mp hx).elim (h1 x) (h2 x)
theorem KnA.one {H:Hp}{y:V}(h:KnA H y):∀x∈[y],KnA H x:=fun x hx=>by rw [mem_singleton.mp hx];exact h
theorem KnA.two {H:Hp}{x y:V}(h:KnA H x)(h2:KnA H y):∀z∈[x,y],KnA H z:=fun z hz=>by
 rcases mem_cons.mp hz with e|e
 ·rw [e];exact h
 ·rw [mem_singleton.mp e];exact h2
section
variable {X:Cx}{es:List Expr}{t:TA}{te:TE}
theorem A9m {a b pos}(he:PE X (.Subscript a b pos) te)(hr:PAq X es t):PAq X (.Subscript a b pos::es) (bZ te t):=by unfold PAq at*;exact fM he hr
end
end L2
namespace M46
open PySem L2 PyProof.Rows Grd Wlk Cyc Srt
abbrev cW:Stmt:=top 42
theorem kO {H:Hp}(ns:List Int):∀x∈ns.map V.int,KnA H x:=fun x hx=>by
 obtain⟨n,_,rfl⟩:=mem_map.mp hx
 exact KnA.int n
theorem wU {H:Hp}{bs:List Addr}{g:bG}{w:Nat}(h:RowsG H bs g)(G:dX g w):∀x∈bs.map V.ref,KnA H x:=fun x hx=>by
 obtain⟨b,hb,rfl⟩:=mem_map.mp hx
 obtain⟨i,hi⟩:=mem_iff_getElem?.mp hb
 obtain⟨xs,e1,e2⟩:=h.row hi
 have:=G.len xs (mem_of_getElem? e1)
 have:=G.w5
 exact KnA.tup e2 (by rw [length_map];omega) (kO _)
def rX:Sp:=fun vs H Q _=> ∃p d g w ns,vs=[.ref p,.ref d]/\PenAt H p/\DlA H d g w ns/\∀v' H',Stp p H H'->KnA H' v'->Q v' H'
section
variable {P:Program}{w:World}{K:W.Frag}{mg:Str->Option Value}{base:Heap}
abbrev wL:List Str:=["_law_pen_here","_law_dealt_here","_law_mead_here","_law_numbers","_law_at","_law_way","_law_odd"]
theorem scBent:bV wL ["_law_pen_here","_law_dealt_here"] (aK cW):=by ac_rfl
abbrev pas:Stmt:=.Pass ⟨0,0,0,0⟩
abbrev cxB (P:Program)(w:World)(K:W.Frag)(mg:Str->Option Value)(base:Heap)(f:Addr)(cdv:Value)(A:Around)(outer:List Env)(s:Shared)(H:Hp)(E:XK):Cx:=(cV CX0 P w K mg base wL "_law_bent" (aK cW) f cdv A outer s H E).nox
variable {f:Addr}{cdv:Value}{A:Around}{outer:List Env}{s:Shared}{H0:Hp}{E:XK}
theorem A37:∃tt,PS (cxB P w K mg base f cdv A outer s H0 E) ((bJ cW).getD 0 pas) tt/\∀(D:bK)(p d a n:Addr)(H:Hp),H d=some (.tup [.ref a,.ref n])->
  D.nx [some (.ref p),some (.ref d),some (.ref a),some (.ref n),none,none,none] H->tt D [some (.ref p),some (.ref d),none,none,none,none,none] H:=by
 have nd:=scBent.nd
 refine⟨_,iQ (pv 1) (eQ rfl (cB (bE (i:=2) nd rfl (Or.inl rfl)) (cB (bE (i:=3) nd rfl (Or.inl rfl)) eP))),?_⟩
 intro D p d a n H hd q
 exact⟨_,rfl,d,_,rfl,SqT.of hd,rfl,_,_,rfl,_,_,rfl,rfl,q⟩
theorem A6x {g1:Addr}{d1:FuncData}(hr:Room 1 (cxB P w K mg base f cdv A outer s H0 E).A)(T:Txt mg)(aD:At P w K mg base CX0 1 "_law_draw" g1 d1 ["_law_pen_here","_law_many"] iA):∃tt,PS (cxB P w K mg base f cdv A outer s H0 E) ((bJ cW).getD 1 pas) tt/\∀(D:bK)(p d a n:Addr)(xs:List V)(H:Hp),PenAt H p->H n=some (.tup xs)->xs.length<=1000->
  (∀at' way H',Stp p H H'->0<=at'->D.nx [some (.ref p),some (.ref d),some (.ref a),some (.ref n),some (.int at'),some (.int way),none] H')->
  tt D [some (.ref p),some (.ref d),some (.ref a),some (.ref n),none,none,none] H:=by
 have nd:=scBent.nd
 refine⟨_,nC (i:=4) (j:=5) rfl nd rfl rfl (by decide) rfl rfl (cC (aX aD.ok hr rfl aD.nm aD.kp aD.bd .nil bA (aE (pv 0) (fN (bF eU (bI eN rfl T.len PySem.boot_len (aE (pv 3) aA)) aH) aA))) (cC (aX aD.ok hr rfl aD.nm aD.kp aD.bd .nil bA (aE (pv 0) (bU aH aA))) aA)) rfl,?_⟩
 intro D p d a n xs H hp ht hz q
 refine⟨_,rfl,_,rfl,n,_,rfl,.inr (SqT.of ht),_,_,rfl,rfl,p,_,rfl,hp,by omega,by omega,fun at' H1 a0 a1 st1=> ?_⟩
 refine⟨_,rfl,p,6,rfl,st1.pen,by decide,by decide,fun way H2 w0 w1 st2=> ?_⟩
 exact⟨_,_,rfl,q at' way H2 (st1.trans st2) a0⟩
theorem A3v {g1:Addr}{d1:FuncData}(hr:Room 1 (cxB P w K mg base f cdv A outer s H0 E).A)(aD:At P w K mg base CX0 1 "_law_draw" g1 d1 ["_law_pen_here","_law_many"] iA):∃tt,PSq (cxB P w K mg base f cdv A outer s H0 E) ((bJ cW).getD 2 pas) tt/\∀(D:bK)(p:Addr)(o1 o2 o3 o4 o5:Option V)(H:Hp),PenAt H p->
  (∀odd H',Stp p H H'->KnA H' odd->D.nx [some (.ref p),o1,o2,o3,o4,o5,some odd] H')->
  tt D [some (.ref p),o1,o2,o3,o4,o5,none] H:=by
 have nd:=scBent.nd
 refine⟨_,A2b (i:=6) nd rfl (Or.inl rfl) (qY (yY (iG hZ aH) (qK (xR (hX (lY (tupq (qY hJ)) (qY hJ))))))) (aX aD.ok hr rfl aD.nm aD.kp aD.bd .nil bA (aE (pv 0) (bU aH aA))) (fun _ _=>rfl),?_⟩
 intro D p o1 o2 o3 o4 o5 H hp q
 refine⟨_,rfl,by show 1<=sizeLine;decide,fun t0 ht0=> ⟨by show 7<=sizeLine;decide,fun l hl=> ?_⟩⟩
 have s0:=aV (o:=.tup [.int 0]) ht0
 have s1:=aV (o:=.lst [.int 4,.int (-1),.bl true,.non,.str "0",.ref t0,.int 3]) hl
 have k0:=(KnA.tup (aJ (H:=H) (a:=t0)) (by decide) (KnA.one (KnA.int 0))).ext s1.ext
 have pen:PenAt _ p:=let ⟨x,y,e⟩:=hp;⟨x,y,s0 _ _ e⟩
 have st0:=(Stp.refl hp).same (s0.trans s1)
 refine⟨_,rfl,p,7,rfl,st0.pen,by decide,by decide,fun ix H2 i0 i1 st=> ?_⟩
 have ex:=st.ext st0.pen
 obtain⟨odd,hodd,kodd⟩:=pick (H:=H2) (xs:=[.int 4,.int (-1),.bl true,.non,.str "0",.ref t0,.int 3]) i0 (by exact i1) fun x hx=>by
  simp only [mem_cons,not_mem_nil,or_false]at hx
  rcases hx with rfl|rfl|rfl|rfl|rfl|rfl|rfl
  ·exact KnA.int _
  ·exact KnA.int _
  ·exact KnA.bl _
  ·exact KnA.non
  ·exact KnA.str _
  ·exact k0.ext ex
  ·exact KnA.int _
 exact⟨l,_,ix,odd,rfl,rfl,SqL.of (st.keep l _ (pen.fresh hl) aJ),hodd,q odd H2 (st0.trans st) kodd⟩
theorem A2q {g1:Addr}{d1:FuncData}(hr:Room 1 (cxB P w K mg base f cdv A outer s H0 E).A)(T2:dY mg)(aD:At P w K mg base CX0 1 "_law_draw" g1 d1 ["_law_pen_here","_law_many"] iA):∃tt,PS (cxB P w K mg base f cdv A outer s H0 E) ((bJ cW).getD 5 pas) tt/\∀(D:bK)(p d a n:Addr)(at' way:Int)(odd:V)(H:Hp),PenAt H p->H d=some (.tup [.ref a,.ref n])->KnA H (.ref a)->KnA H (.ref n)->
  (∀v H',Stp p H H'->KnA H' v->D.rt v H')->D.nx [some (.ref p),some (.ref d),some (.ref a),some (.ref n),some (.int at'),some (.int way),some odd] H->
  tt D [some (.ref p),some (.ref d),some (.ref a),some (.ref n),some (.int at'),some (.int way),some odd] H:=by
 refine⟨_,vD (bN eZ (pv 5) aH (nomark _)) (retq (A9j (fW yX rfl T2.list boot_list (aE (pv 1) aA)) (A9m (iJ iV (pv 1) jH (iD aH)) (hU (bF iK (pv 1) (cZ (lG (cZ aA) aA))) (A1v (cZ (aE (pv 3) (aE (pv 2) aA))) hJ)))) (aX aD.ok hr rfl aD.nm aD.kp aD.bd .nil bA (aE (pv 0) (bU aH aA))) (fun _ _=>rfl)) (by unfold fY;exact bO),?_⟩
 intro D p d a n at' way odd H hp hd ka kn q q2
 refine⟨_,rfl,rfl,_,rfl,dJ (fun _=> ?_) fun _=>q2⟩
 refine⟨_,rfl,d,_,rfl,.inr (SqT.of hd),fun l1 hl1=> ?_⟩
 have s1:=aV (o:=.lst [.ref a,.ref n]) hl1
 refine⟨_,rfl,_,rfl,d,_,rfl,s1 _ _ hd,fun c2 H2 s2 hc2=> ?_⟩
 have s12:=s1.trans s2
 refine⟨_,rfl,by show 0<=sizeLine;decide,fun t3 ht3=> ⟨by show 1<=sizeLine;decide,fun t4 ht4=> ?_⟩⟩
 have s3:=aV (o:=.tup []) ht3
 have s4:=aV (o:=.tup [.ref t3]) ht4
 have s14:=(s12.trans s3).trans s4
 refine⟨d,t4,_,_,rfl,rfl,s14 _ _ hd,aJ,by show 2+1<=sizeLine;decide,fun c5 H5 s5 hc5=> ?_⟩
 refine⟨_,rfl,_,rfl,by show 2<=sizeLine;decide,fun t6 ht6=> ⟨by show 4<=sizeLine;decide,fun l hl=> ?_⟩⟩
 have s6:=aV (o:=.tup [.ref n,.ref a]) ht6
 have s7:=aV (o:=.lst [.ref l1,.ref c2,.ref c5,.ref t6]) hl
 have sA:=(s14.trans s5).trans s6
 have st0:=(Stp.refl hp).same (sA.trans s7)
 have pen:=((Stp.refl hp).same sA).pen
 refine⟨_,rfl,p,4,rfl,st0.pen,by decide,by decide,fun ix H8 i0 i1 st=> ?_⟩
 have ex:=st.ext st0.pen
 have exA:=((sA.trans s7).ext).trans ex
 have kk1:KnA H8 (.ref l1):=(KnA.lst (aJ (H:=H) (a:=l1))).ext (((((((s2.trans s3).trans s4).trans s5).trans s6).trans s7).ext).trans ex)
 have kk2:KnA H8 (.ref c2):=(KnA.tup hc2 (by have:=jA [V.ref a,V.ref n] none (some 1);have:([V.ref a,V.ref n]:List V).length=2:=rfl;omega) fun x hx=>by
  have:=kP hx
  exact(KnA.two ka kn x this).ext s12.ext).ext ((((((s3.trans s4).trans s5).trans s6).trans s7).ext).trans ex)
 have kk3:KnA H8 (.ref t3):=(KnA.tup (aJ (a:=t3)) (by decide) fun x hx=>by cases hx).ext (((((s4.trans s5).trans s6).trans s7).ext).trans ex)
 have kk5:KnA H8 (.ref c5):=KnA.tup (ex.tup _ _ ((s6.trans s7) _ _ hc5)) (by show 3<=1000;decide) (KnA.app (KnA.two (ka.ext exA) (kn.ext exA)) (KnA.one kk3))
 have kk6:KnA H8 (.ref t6):=KnA.tup (ex.tup _ _ (s7 _ _ aJ)) (by show 2<=1000;decide) (KnA.two (kn.ext exA) (ka.ext exA))
 obtain⟨v,hv,kv⟩:=pick (H:=H8) (xs:=[.ref l1,.ref c2,.ref c5,.ref t6]) i0 (by exact i1) fun x hx=>by
  simp only [mem_cons,not_mem_nil,or_false]at hx
  rcases hx with rfl|rfl|rfl|rfl
  ·exact kk1
  ·exact kk2
  ·exact kk5
  ·exact kk6
 exact⟨l,_,ix,v,rfl,rfl,SqL.of (st.keep l _ (pen.fresh hl) aJ),hv,q v H8 (st0.trans st) kv⟩
theorem A78:∃tt,PS (cxB P w K mg base f cdv A outer s H0 E) ((bJ cW).getD 3 pas) tt/\∀(D:bK)(p d a n:Addr)(at' way:Int)(odd:V)(ns:List Int)(H:Hp),PenAt H p->KnA H (.ref a)->H n=some (.tup (ns.map V.int))->ns.length<=10->KnA H odd->
  (∀v H',Stp p H H'->KnA H' v->D.rt v H')->D.nx [some (.ref p),some (.ref d),some (.ref a),some (.ref n),some (.int at'),some (.int way),some odd] H->
  tt D [some (.ref p),some (.ref d),some (.ref a),some (.ref n),some (.int at'),some (.int way),some odd] H:=by
 refine⟨_,bQ (bN lE (pv 5) aH (nomark _)) (aW (bB (cZ (aE (pv 2) (fN (bF iK (bF iK (iJ iV (pv 3) jH (iD (pv 4))) (cZ (aE (pv 6) aA))) (iJ iV (pv 3) (iD (bF eU (pv 4) (pv 5))) jH)) aA))))) bO,?_⟩
 intro D p d a n at' way odd ns H hp ka ht h10 ko q q2
 have refl:=Stp.refl hp
 have hkx:∀x∈ns.map V.int,∀H',KnA H' x:=fun x hx H'=>kO ns x hx
 have hzx:(ns.map V.int).length<=10:=by rw [length_map];exact h10
 generalize ns.map V.int=xs at ht hkx hzx
 refine⟨_,rfl,_,_,rfl,rfl,_,rfl,dJ (fun _=> ?_) fun _=>q2⟩
 ·refine⟨_,rfl,_,rfl,_,rfl,_,rfl,n,xs,rfl,ht,fun c1 H5 s2 hc1=> ?_⟩
  refine⟨_,rfl,by show 1<=sizeLine;decide,fun c2 hc2=> ?_⟩
  have s3:=aV (o:=.tup [odd]) hc2
  have l1:=jA xs none (some at')
  have l2:=jA xs (some (at'+way)) none
  refine⟨c1,c2,_,_,rfl,rfl,s3 _ _ hc1,aJ,by rw [sizeLine_eq];show _+1<=_;omega,fun c3 H6 s4 hc3=> ?_⟩
  have s14:=(s2.trans s3).trans s4
  refine⟨_,rfl,_,rfl,_,rfl,_,_,rfl,rfl,_,rfl,n,xs,rfl,s14 _ _ ht,fun c4 H7 s5 hc4=> ?_⟩
  refine⟨c3,c4,_,_,rfl,rfl,s5 _ _ hc3,hc4,by rw [sizeLine_eq,length_append];show _+1+_<=_;omega,fun c5 H8 s6 hc5=> ?_⟩
  have sA:=(s14.trans s5).trans s6
  refine⟨by show 2<=sizeLine;decide,fun t6 ht6=> ?_⟩
  have s7:=aV (o:=.tup [.ref a,.ref c5]) ht6
  have sB:=sA.trans s7
  refine q _ _ (refl.same sB) (KnA.tup aJ (by show 2<=1000;decide) (KnA.two (ka.ext sB.ext) (KnA.tup (s7 _ _ hc5) ?_ (KnA.app (KnA.app (fun x hx=>hkx x (kP hx) _) (KnA.one (ko.ext sB.ext))) fun x hx=>hkx x (kP hx) _))))
  rw [length_append,length_append];show _+1+_<=_;omega
theorem A4s:∃tt,PS (cxB P w K mg base f cdv A outer s H0 E) ((bJ cW).getD 4 pas) tt/\∀(D:bK)(p d a n:Addr)(at' way:Int)(odd:V)(ns:List Int)(H:Hp),PenAt H p->KnA H (.ref a)->H n=some (.tup (ns.map V.int))->ns.length<=10->KnA H odd->
  (∀v H',Stp p H H'->KnA H' v->D.rt v H')->D.nx [some (.ref p),some (.ref d),some (.ref a),some (.ref n),some (.int at'),some (.int way),some odd] H->
  tt D [some (.ref p),some (.ref d),some (.ref a),some (.ref n),some (.int at'),some (.int way),some odd] H:=by
 refine⟨_,bQ (bN eZ (pv 5) aH (nomark _)) (aW (bB (cZ (aE (pv 2) (fN (bF iK (iJ iV (pv 3) jH (iD (pv 4))) (iJ iV (pv 3) (iD (bF eU (pv 4) aH)) jH)) aA))))) bO,?_⟩
 intro D p d a n at' way odd ns H hp ka ht h10 ko q q2
 have refl:=Stp.refl hp
 have hkx:∀x∈ns.map V.int,∀H',KnA H' x:=fun x hx H'=>kO ns x hx
 have hzx:(ns.map V.int).length<=10:=by rw [length_map];exact h10
 generalize ns.map V.int=xs at ht hkx hzx
 refine⟨_,rfl,rfl,_,rfl,dJ (fun _=> ?_) fun _=>q2⟩
 refine⟨_,rfl,_,rfl,_,rfl,_,rfl,n,xs,rfl,ht,fun c1 H5 s2 hc1=> ?_⟩
 refine⟨_,rfl,_,rfl,_,_,rfl,rfl,_,rfl,n,xs,rfl,s2 _ _ ht,fun c4 H7 s5 hc4=> ?_⟩
 have l1:=jA xs none (some at')
 have l2:=jA xs (some (at'+1)) none
 refine⟨c1,c4,_,_,rfl,rfl,s5 _ _ hc1,hc4,by rw [sizeLine_eq];omega,fun c5 H8 s6 hc5=> ?_⟩
 have sA:=(s2.trans s5).trans s6
 refine⟨by show 2<=sizeLine;decide,fun t6 ht6=> ?_⟩
 have s7:=aV (o:=.tup [.ref a,.ref c5]) ht6
 have sB:=sA.trans s7
 refine q _ _ (refl.same sB) (KnA.tup aJ (by show 2<=1000;decide) (KnA.two (ka.ext sB.ext) (KnA.tup (s7 _ _ hc5) ?_ (KnA.app (fun x hx=>hkx x (kP hx) _) fun x hx=>hkx x (kP hx) _))))
 rw [length_append];omega
theorem A4w (T2:dY mg):∃tt,PSs (cxB P w K mg base f cdv A outer s H0 E) ((bJ cW).drop 6) tt/\∀(D:bK)(p d a n:Addr)(at' way:Int)(odd:V)(bs:List Addr)(ns:List Int)(H:Hp),PenAt H p->H a=some (.tup (bs.map V.ref))->(∀x∈bs.map V.ref,KnA H x)->bs.length<=4->H n=some (.tup (ns.map V.int))->ns.length<=10->
  (∀v H',Stp p H H'->KnA H' v->D.rt v H')->
  tt D [some (.ref p),some (.ref d),some (.ref a),some (.ref n),some (.int at'),some (.int way),some odd] H:=by
 refine⟨_,aU (bQ (bN eZ (pv 5) aH (nomark _)) (aW (bB (cZ (aE (pv 2) (cC (fW yX rfl T2.list boot_list (aE (pv 3) aA)) aA))))) bO)<|
   aW (bB (cZ (fN (bF iK (pv 2) (pv 2)) (fN (bF iK (pv 3) (pv 3)) aA)))),?_⟩
 intro D p d a n at' way odd bs ns H hp ha kb h4 ht h10 q
 have refl:=Stp.refl hp
 have hkx:∀x∈ns.map V.int,∀H',KnA H' x:=fun x hx H'=>kO ns x hx
 have hzx:(ns.map V.int).length<=10:=by rw [length_map];exact h10
 have hzb:(bs.map V.ref).length<=4:=by rw [length_map];exact h4
 generalize ns.map V.int=xs at ht hkx hzx
 generalize bs.map V.ref=ys at ha kb hzb
 have ka:KnA H (.ref a):=KnA.tup ha (by omega) kb
 refine⟨_,rfl,rfl,_,rfl,dJ (fun _=> ?_) fun _=> ?_⟩
 ·refine⟨_,rfl,_,rfl,n,xs,rfl,.inr (SqT.of ht),fun l2 hl2=> ?_⟩
  have s1:=aV (o:=.lst xs) hl2
  refine⟨by show 2<=sizeLine;decide,fun t6 ht6=> ?_⟩
  have s2:=aV (o:=.tup [.ref a,.ref l2]) ht6
  exact q _ _ (refl.same (s1.trans s2)) (KnA.tup aJ (by show 2<=1000;decide) (KnA.two (ka.ext (s1.trans s2).ext) (KnA.lst (s2 _ _ aJ))))
 refine⟨_,rfl,_,rfl,a,a,_,_,rfl,rfl,ha,ha,by rw [sizeLine_eq];omega,fun c1 H1 s1 hc1=> ?_⟩
 refine⟨_,rfl,_,rfl,n,n,_,_,rfl,rfl,s1 _ _ ht,s1 _ _ ht,by rw [sizeLine_eq];omega,fun c2 H2 s2 hc2=> ?_⟩
 refine⟨by show 2<=sizeLine;decide,fun t6 ht6=> ?_⟩
 have s3:=aV (o:=.tup [.ref c1,.ref c2]) ht6
 have sA:=(s1.trans s2).trans s3
 refine q _ _ (refl.same sA) (KnA.tup aJ (by show 2<=1000;decide) (KnA.two (KnA.tup ((s2.trans s3) _ _ hc1) (by rw [length_append];omega) (KnA.app (fun x hx=>(kb x hx).ext sA.ext) fun x hx=>(kb x hx).ext sA.ext)) (KnA.tup (s3 _ _ hc2) (by rw [length_append];omega) (KnA.app (fun x hx=>hkx x hx _) fun x hx=>hkx x hx _))))
theorem A54 {f g1:Addr}{fd d1:FuncData}(F:Fun K "_law_bent" "_law_bent" cW f fd)(T:Txt mg)(T2:dY mg)(aD:At P w K mg base CX0 1 "_law_draw" g1 d1 ["_law_pen_here","_law_many"] iA):FnOk P w K mg base CX0 2 f fd ["_law_pen_here","_law_dealt_here"] rX:=by
 refine F.ok scBent (fun vs H Q E h=> ?_) (fun cdv A outer s H vs Q E hr h=> ?_)
 ·obtain⟨p,d,g,w',ns,rfl,_⟩:=h;rfl
 ·obtain⟨p,d,g,w',ns,rfl,hp,D,q⟩:=h
  have nd:=scBent.nd
  have G:=D.G
  obtain⟨a,n,hd,⟨bs,ha,hG⟩,hn⟩:=D.ex
  have hbs:bs.length=g.length:=Paired.length hG
  have h4:=G.h4
  have h10:ns.length<=10:=by rw [D.len,gH];exact G.c10
  obtain⟨u1,g1',j1⟩:=A6x (P:=P) (w:=w) (K:=K) (mg:=mg) (base:=base) (f:=f) (cdv:=cdv) (A:=A) (outer:=outer) (s:=s) (H0:=H) (E:=E) hr T aD
  obtain⟨u2,g2,j2⟩:=A3v (P:=P) (w:=w) (K:=K) (mg:=mg) (base:=base) (f:=f) (cdv:=cdv) (A:=A) (outer:=outer) (s:=s) (H0:=H) (E:=E) hr aD
  obtain⟨u3,g3,j3⟩:=A78 (P:=P) (w:=w) (K:=K) (mg:=mg) (base:=base) (f:=f) (cdv:=cdv) (A:=A) (outer:=outer) (s:=s) (H0:=H) (E:=E)
  obtain⟨u5,g5,j5⟩:=A2q (P:=P) (w:=w) (K:=K) (mg:=mg) (base:=base) (f:=f) (cdv:=cdv) (A:=A) (outer:=outer) (s:=s) (H0:=H) (E:=E) hr T2 aD
  obtain⟨u6,g6,j6⟩:=A4w (P:=P) (w:=w) (K:=K) (mg:=mg) (base:=base) (f:=f) (cdv:=cdv) (A:=A) (outer:=outer) (s:=s) (H0:=H) (E:=E) T2
  have e:bJ cW=(bJ cW).getD 0 pas::(bJ cW).getD 1 pas::(bJ cW).getD 2 pas::(bJ cW).getD 3 pas::(bJ cW).getD 4 pas::(bJ cW).getD 5 pas::(bJ cW).drop 6:=rfl
  obtain⟨u0,g0,j0⟩:=A37 (P:=P) (w:=w) (K:=K) (mg:=mg) (base:=base) (f:=f) (cdv:=cdv) (A:=A) (outer:=outer) (s:=s) (H0:=H) (E:=E)
  obtain⟨u4,g4,j4⟩:=A4s (P:=P) (w:=w) (K:=K) (mg:=mg) (base:=base) (f:=f) (cdv:=cdv) (A:=A) (outer:=outer) (s:=s) (H0:=H) (E:=E)
  generalize (bJ cW).getD 0 pas=st0 at g0 e
  generalize (bJ cW).getD 1 pas=st1 at g1' e
  generalize (bJ cW).getD 2 pas=st2 at g2 e
  generalize (bJ cW).getD 3 pas=st3 at g3 e
  generalize (bJ cW).getD 4 pas=st4 at g4 e
  generalize (bJ cW).getD 5 pas=st5 at g5 e
  generalize (bJ cW).drop 6=rest at g6 e
  rw [e]
  refine⟨_,aU g0 (aU g1' (A9z g2 (aU g3 (aU g4 (aU g5 g6))))),?_⟩
  refine j0 _ p d a n H hd ?_
  refine j1 _ p d a n _ H hp hn (by rw [length_map];omega) fun at' way H1 st1 a0=> ?_
  refine j2 _ p _ _ _ _ _ H1 st1.pen fun odd H2 st2 ko=> ?_
  have st12:=st1.trans st2
  have ex:=st12.ext hp
  have hG2:=hG.ext ex
  have ha2:=ex.tup _ _ ha
  have hn2:=ex.tup _ _ hn
  have kb:=wU hG2 G
  have ka:KnA H2 (.ref a):=KnA.tup ha2 (by rw [length_map];omega) kb
  have kn:KnA H2 (.ref n):=KnA.tup hn2 (by rw [length_map];omega) (kO _)
  have qq:∀v H',Stp p H2 H'->KnA H' v->Q v H':=fun v H' st kv=>q v H' (st12.trans st) kv
  refine j3 _ p d a n at' way odd ns H2 st2.pen ka hn2 h10 ko qq ?_
  refine j4 _ p d a n at' way odd ns H2 st2.pen ka hn2 h10 ko qq ?_
  refine j5 _ p d a n at' way odd H2 st2.pen (ex.tup _ _ hd) ka kn qq ?_
  exact j6 _ p d a n at' way odd bs ns H2 st2.pen ha2 kb (by omega) hn2 h10 qq
end
end M46
namespace L2
open PySem PySem.Spec PyProof.Rows PySem.W
def kA (P:Program)(w:World)(K:W.Frag)(mg:Str->Option Value)(base:Heap)(N:List Str)(qual:Str)(scope:Scope)(f:Addr)(cd:Value)(cl:List (Str×Addr))(A:Around)(outer:List Env)(s:Shared)(H:Hp)(E:XK):Cx where
 prog:=P
 w:=w
 K:=K
 mg:=mg
 base:=base
 A:=A.deeper (envX qual scope s.heap.objs.size f cd cl)
 N:=N
 s₀:=s
 H₀:=H
 env:=envX qual scope s.heap.objs.size f cd cl
 outer:=outer
 stack:=envX qual scope s.heap.objs.size f cd cl::outer
 ex:=[]
 calm:=true
 fn:=fun _=>false
 pn:=[]
 xe:=fun e s'=>wpAny (model P w) (A.deeper (envX qual scope s.heap.objs.size f cd cl)) (leaving (envX qual scope s.heap.objs.size f cd cl) e) (fun _ s''=>CX1 P w outer H s E e s'') (fun e' s''=>CX1 P w outer H s E e' s'') s'
structure A6r (h:Heap)(H:Hp)(f:Addr)(qual:Str)(params:Arguments)(body:Expr)(scope:Scope)(cl:List (Str×Addr))(pm ctv:Value)(c':Addr):Prop where
 fn:h.get? f=some (kla_obj "<lambda>" qual params body scope cl pm c' ctv)
 code:h.CodeRec (.ref c') qual
 cells:∀x c,cl.lookup x=some c->(∃v,h.IsCell c v)/\H c=none
section
variable {P:Program}{w:World}{K:W.Frag}{mg:Str->Option Value}{base:Heap}{N:List Str}{qual:Str}{scope:Scope}{f c':Addr}{cl:List (Str×Addr)}{A:Around}{outer:List Env}{s:Shared}{H:Hp}{E:XK}{Q:VK}{params:Arguments}{body:Expr}{pm ctv:Value}
theorem jF {cd:Value}:jR (CX1 P w) (kA P w K mg base N qual scope f cd cl A outer s H E) E:=by
 intro pins σ H1 s1 e s2 I h
 obtain⟨a,cls,H',rfl,F,q⟩:=h
 exact xX (X:=kA P w K mg base N qual scope f cd cl A outer s H E) I rfl rfl rfl F fun h' F'=> ⟨a,cls,H',rfl,F',q⟩
theorem A6t {k:Nat}{σ:St}(hr:Room (k+1) A)(e0:jG P w K mg base A outer s H)(L:A6r s.heap H f qual params body scope cl pm ctv c')
  (hbind:bindArgs (kla_fn "<lambda>" qual params body scope cl pm (.ref c') ctv) ⟨[],[]⟩=pure [])(hco:scope.isCoroutine=false)(hgen:scope.isGenerator=false)(hk:scope.kind= .function)(hcell:∀x∈scope.names,x.2≠ .cell)
  (hhas:∀x,scope.names.lookup x=some .free->∃c,cl.lookup x=some c)(hinj:∀x y c,cl.lookup x=some c->cl.lookup y=some c->x=y)
  (hσ:∀(i:Nat)(x:Str)(v:V),N[i]?=some x->σ[i]?=some (some v)->∃c u,scope.names.lookup x=some .free/\cl.lookup x=some c/\s.heap.IsCell c (some u)/\RelV v u)(hlen:σ.length=N.length)
  (hbody:∃t,PE (kA P w K mg base N qual scope f (.ref c') cl A outer s H E) body t/\t σ H Q):
  codeAny (model P w) A (.call (.ref f) ⟨[],[]⟩) (CR (CX1 P w) outer P w H s Q E) s:=by
 have lim:s.heap.NoLimit:=e0.mod.nolimit.keeps fun b o e=>(e0.bs b o e).1
 obtain⟨t,ht,hq⟩:=hbody
 refine kla_callFunE hr.depth L.fn rfl hco hgen rfl L.code ?_
 rw [hbind]
 refine zjY (wpAny_newFunctionEnv hcell (by intro y hy;simp at hy) (fun h₁ hns hsb=> ⟨lim.fresh _ hsb,?_⟩) hk)
 show codeAny _ _ (.expr body (envX qual scope s.heap.objs.size f (.ref c') cl)) _ _
 have keep:∀b o,s.heap.get? b=some o->h₁.get? b=some o:=fun b o e=>hsb.extBut b o (ne_of_lt (zjT e)) (zjX _ e)
 have noA:∀b:Addr,b∉(kA P w K mg base N qual scope f (.ref c') cl A outer s H E).ex:=fun b z=>absurd (show b∈([]:List Addr)from z) (by simp)
 have I:Inv (kA P w K mg base N qual scope f (.ref c') cl A outer s H E) [] σ H {s with heap:=h₁,toks:=s.toks+([]:List (Str×Value)).length}:=by
  refine⟨⟨e0.mod,hk,rfl,rfl,zjQ _,fun x y c h1 h2=>hinj x y c h1 h2,fun x hx=> ?_,fun x c z=>(Bool.false_ne_true z).elim,fun _=>hr.hd,Around.frames_deeper e0.frames,.inr ⟨rfl,rfl⟩,fun b z=>absurd z (noA b),e0.bs,e0.bsz,fun b _ _=>noA b,fun b z=>absurd z (noA b),e0.funs,e0.frf⟩,
   rfl,e0.bare,Un.kept keep,⟨_,hns,fun i x v h1 h2 h3=> ?_⟩,fun x c e=> ?_,e0.hok.fresh (zjQ _),fun x c e=>(L.cells x c e).2,fun p hp=>absurd (show p∈([]:List (Addr×Obj))from hp) (by simp),e0.hok.kept keep,hlen⟩
  ·have hx:scope.names.lookup x=some .cell\/scope.names.lookup x=some .free:=hx
   rcases hx with hx|hx
   ·exact absurd rfl (hcell _ (PySem.mem_of_lookup hx))
   ·exact hhas x hx
  ·obtain⟨c,u,e1,e2,⟨o,ho,hd⟩,r⟩:=hσ i x v h1 h2
   exact⟨u,r,.inr ⟨.inr e1,c,e2,o,keep _ _ ho,hd⟩⟩
  ·obtain⟨⟨v,o,ho,hd⟩,_⟩:=L.cells x c e
   exact⟨v,o,keep _ _ ho,hd⟩
 refine kla_codeExpr (wpAny_mono (ht [] _ σ H Q I hq) (fun u s' hs=> ?_) fun e s' hs=>hs)
 obtain⟨v,H',J,rv,q⟩:=hs
 exact⟨v,H',J.os,J.bare,J.base,J.hok,rv,q⟩
end
structure gW (P:Program)(w:World)(K:W.Frag)(mg:Str->Option Value)(base:Heap)(k:Nat)(f:Addr)(fd:FuncData)(ps:List Str)(sp:List Env->List V->Hp->Heap->VK->Prop):Prop where
 len:∀o vs H h Q,sp o vs H h Q->vs.length=ps.length
 run:∀(A:Around)(outer:List Env)(s:Shared)(H:Hp)(args:Args)(us:List Value)(vs:List V)(Q:VK)(E:XK),Room k A->jG P w K mg base A outer s H->BindsTo s fd args (ps.zip us)->Vals vs us->sp outer vs H s.heap Q->
  codeAny (model P w) A (.call (.ref f) args) (CR CX0 outer P w H s Q E) s
section
variable {P:Program}{w:World}{K:W.Frag}{mg:Str->Option Value}{base:Heap}
theorem Fun.okTryS {x qual:Str}{st:Stmt}{f:Addr}{fd:FuncData}{N ps:List Str}{k:Nat}{sp:List Env->List V->Hp->Heap->VK->Prop}{body:List Stmt}{y n:Str}{i:Nat}{Cy:Addr}{b₀:Stmt}{suite:List Stmt}{np hp pos:Pos}(F:Fun K x qual st f fd)(S:bV N ps (aK st))(len:∀o vs H h Q,sp o vs H h Q->vs.length=ps.length)
  (hst:bJ st=[.Try body [.ExceptHandler (some (.Name y np)) (some n) (b₀::suite) hp] [] [] pos])(hy:(aK st).names.lookup y=some .globalImplicit)(hm:mg y=some (.ref Cy))(hi:N[i]?=some n)(hn:(aK st).names.lookup n=some .local)(hdb:(y==("__debug__":Str))=false)
  (hbody:∀(cdv:Value)(A:Around)(outer:List Env)(s:Shared)(H:Hp)(vs:List V)(Q:VK)(E:XK),Room k (A.deeper (envOfC qual (aK st) s.heap.objs.size f cdv))->sp outer vs H s.heap Q->
   ∃(EX:XK)(t:TS)(tS:Addr->Obj->TS),PSs ((cV CX0 P w K mg base N qual (aK st) f cdv A outer s H E).nox.wish (rD (cV CX0 P w K mg base N qual (aK st) f cdv A outer s H E).nox EX)) body t/\
    (∀e oe,PSs ((cV CX0 P w K mg base N qual (aK st) f cdv A outer s H E).nox.within e oe) (b₀::suite) (tS e oe))/\t {nx:=fun _ H'=>Q .non H',rt:=Q} (start N vs) H/\
    (∀cls H',EX cls none H'->W.exmOne K cls (.ref Cy)=some true)/\∀e oe cls H',oe.cls=cls->EX cls none H'->tS e oe {nx:=fun _ _=>False,rt:=Q} ((replicate N.length none).set i (some (.ref e))) H'):gW P w K mg base (k+1) f fd ps sp:=by
 refine⟨len,fun A outer s H args us vs Q E hr e0 hb r hsp=> ?_⟩
 have key:FnOk P w K mg base CX0 (k+1) f fd ps (fun vs' H' Q' _=>vs'=vs/\False):=⟨fun _ _ _ _ h=>h.2.elim,fun _ _ _ _ _ _ _ _ _ _ _ _ _ h=>h.2.elim⟩
 obtain⟨oc,od,kV,doc,pm,an,cdv,ct,osl,rfl,lk,hcd⟩:=F.ex
 obtain⟨EX,t,tS,h1,h2,h3,h4,h5⟩:=hbody cdv A outer s H vs Q E (hr.deeper _) hsp
 have key:∀(s1:Shared),Inv (cV CX0 P w K mg base N qual (aK st) f cdv A outer s H E).nox [] (start N vs) H s1->
   wpAny (model P w) (A.deeper (envOfC qual (aK st) s.heap.objs.size f cdv)) (execs (bJ st) (envOfC qual (aK st) s.heap.objs.size f cdv)) (SP (cV CX0 P w K mg base N qual (aK st) f cdv A outer s H E).nox [] {nx:=fun _ H'=>Q .non H',rt:=Q}) (fun _ _=>False) s1:=fun s1 I=>by
  rw [hst]
  refine wpAny_execs_cons (thn (Q:=SP (cV CX0 P w K mg base N qual (aK st) f cdv A outer s H E).nox [] {nx:=fun _ H'=>Q .non H',rt:=Q}) (wpAny_Try_except (wpAny_mono (h1 [] s1 (start N vs) H {nx:=fun _ H'=>Q .non H',rt:=Q} (I.wish _) h3) (fun fl s2 q2=> ?_) fun v s2 q2=> ?_)) fun fl s2 q2=> ?_)
  ·have q3:=SP.unwish q2
   cases fl with
   |next=>exact wpAny_execs_nil q3
   |ret u=>exact q3
   |brk=>exact q3
   |cont=>exact q3
  ·exact A0p (X:=(cV CX0 P w K mg base N qual (aK st) f cdv A outer s H E).nox) (R:=Q) rfl rfl rfl rfl hy hm S.nd hi hn h4 h2 h5 hdb rfl q2
  ·cases fl with
   |next=>exact wpAny_execs_nil q2
   |ret u=>exact q2
   |brk=>exact q2
   |cont=>exact q2
 have hl:=len _ _ _ _ _ hsp
 have KX:K.In s.heap:=e0.mod.kin.keeps fun b o e=>(e0.bs b o e).1
 have lim:s.heap.NoLimit:=e0.mod.nolimit.keeps fun b o e=>(e0.bs b o e).1
 have hkind:∀z∈ps.zip us,(aK st).names.lookup z.1=some .local\/((aK st).names.lookup z.1=some .cell/\((cellsFrom (s.heap.objs.size+1) (aK st).names []).lookup z.1).isSome=true):=fun⟨n,v⟩ hy=>by
  rcases S.par n (of_mem_zip hy).1 with q|q
  ·exact .inl q
  ·exact .inr ⟨q,W.cellsFrom_some _ _ _ (.inl q)⟩
 refine codeAny_call_function hr.depth (KX _ _ lk) rfl S.co S.gen rfl (W.codeRec_of KX hcd) (hb _ _ _ _ ?_)
 refine wpAny_newFunctionEnv_cells S.kind hkind fun env he s1 x=> ?_
 subst he
 refine⟨lim.keeps x.toInCall.keep,codeAny_func ?_⟩
 have I:Inv (cV CX0 P w K mg base N qual (aK st) f cdv A outer s H E) [] (start N vs) H s1:=wA S hr.hd e0 hl r x
 refine wpAny_mono (key s1 (I.wish _)) (fun fl s' hs=> ?_) fun e s' hs=>hs.elim
 have fin:∀{σ':St}{H':Hp}{v:V}{u:Value},Inv (cV CX0 P w K mg base N qual (aK st) f cdv A outer s H E).nox [] σ' H' s'->RelV v u->Q v H'->CE outer P w H s Q u s':=
  fun{σ' H' v u} J rv q=> ⟨v,H',J.os,J.bare,J.base,J.hok,rv,q⟩
 cases fl with
 |ret u=>
  obtain⟨v,σ',H',J,rv,q⟩:=hs
  exact fin J rv q
 |next=>
  obtain⟨σ',H',J,q⟩:=hs
  exact fin (v:=V.non) (u:=Value.none) J rfl q
 |brk=>
  obtain⟨_,_,_,q⟩:=hs
  exact False.elim q
 |cont=>
  obtain⟨_,_,_,q⟩:=hs
  exact False.elim q
end
theorem A77 {X:Cx}{CX:CXT}{E:XK}{i:Nat}{x:Str}{p pos:Pos}(hN:X.N[i]?=some x)(hv:Vis X.env.scope x)(hp:jR CX X E)(hd:(x==("__debug__":Str))=false:=by decide)(hcd:(x==("__classdict__":Str))=false:=by decide):
  PE X (.Call (.Name x p) [] [] pos) (fun σ H Q=> ∃f,σ[i]?=some (some (.ref f))/\∀(pins:List (Addr×Obj))(s:Shared),Inv X pins σ H s->FnAt f s.heap/\codeAny (model X.prog X.w) X.A (.call (.ref f) ⟨[],[]⟩) (CR CX X.stack X.prog X.w H s Q E) s):=by
 intro pins s σ H Q I h
 obtain⟨f,e,h⟩:=h
 refine wpAny_Call_Name_kw (thn (xZ (pos:=p) hN hv hd hcd pins s σ H (fun v H'=>v= .ref f/\H'=H) I ⟨.ref f,e,rfl,rfl⟩) fun u s1 ⟨v,H1,I1,r,ev,eH⟩=> ?_)
 subst ev eH
 cases (show u=Value.ref f from r)
 obtain⟨hF,hc⟩:=h pins s1 I1
 refine callWith_F0 hF (wpAny_call (codeAny_mono hc fun r s' hq=> ?_))
 cases r with
 |error e=>exact hp pins σ _ s1 e s' I1 hq
 |ok fl=>
  cases fl with
  |ret u=>exact I1.after hq
  |next=>exact False.elim hq
  |brk=>exact False.elim hq
  |cont=>exact False.elim hq
def cdO (c':Addr)(qual:Str):HO:=.ext fun h=> ∃o vs t,h.get? c'=some o/\o.data= .fields vs/\vs[1]?=some (.str qual t)
structure TabI (H:Hp)(P:Addr)(ps:Array Value)(qual:Str)(poss:List Pos):Prop where
 at':H P=some (.tbl ps)
 tr:TriplesOk ps.toList
 cd:∀pos∈poss,codeAmong pos ps.toList=none\/ ∃c',codeAmong pos ps.toList=some (.ref c')/\H c'=some (cdO c' qual)
def Grow (P:Addr)(H H1:Hp):Prop:=∀b u,b≠P->H b=some u->H1 b=some u
def cU (mg:Str->Option Value)(h:Heap):Prop:=∃bm ob,mg "__builtins__" =some (.ref bm)/\bm≠builtinsNs/\h.get? bm=some ob/\ob.cls= .type "module"/\ob.dict=some builtinsNs/\ob.data= .plain
theorem yW {pos pos':Pos}{c:Value}{t1 t2:Tok}:∀{l:List Value},TriplesOk l->codeAmong pos (l++[.int pos'.line t1,.int pos'.col t2,c])=match codeAmong pos l with|some d=>some d|none=>if (((pos'.line:Int)==(pos.line:Int)&&(pos'.col:Int)==(pos.col:Int)):Bool)=true then some c else none
 | [],_=>rfl
 | .int a ta:: .int b tb::d::r,h=>by
  have ih:=yW (pos:=pos) (pos':=pos') (c:=c) (t1:=t1) (t2:=t2) (l:=r) h
  show(if (a==(pos.line:Int)&&b==(pos.col:Int))=true then some d else codeAmong pos (r++[.int pos'.line t1,.int pos'.col t2,c]))=match (if (a==(pos.line:Int)&&b==(pos.col:Int))=true then some d else codeAmong pos r)with|some d=>some d|none=>_
  by_cases hh:(a==(pos.line:Int)&&b==(pos.col:Int))=true
  ·rw [if_pos hh,if_pos hh]
  ·rw [if_neg hh,if_neg hh];exact ih
theorem uJ {l:List Value}{a b:Int}{t1 t2:Tok}{c:Value}:TriplesOk l->TriplesOk (l++[.int a t1,.int b t2,c]):=by
 intro h
 match l,h with
 | [],_=>trivial
 | .int _ _:: .int _ _::d::r,h=>exact uJ (l:=r) h
section
variable {X:Cx}{pins:List (Addr×Obj)}{σ:St}{H:Hp}{s:Shared}{P c:Addr}{ps:Array Value}{qual:Str}{poss:List Pos}{params:Arguments}{body:Expr}{scope:Scope}{pos:Pos}{Q:Value->Shared->Prop}
end
section
variable {X:Cx}{g P c:Addr}{gd:FuncData}{k i:Nat}{pn x y:Str}{sp:List Env->List V->Hp->Heap->VK->Prop}{qual:Str}{poss:List Pos}{params:Arguments}{body:Expr}{scope:Scope}{pos p cpos:Pos}
end
section
variable {X:Cx}{pins:List (Addr×Obj)}{σ:St}{H:Hp}{s:Shared}{P c:Addr}{ps:Array Value}{qual:Str}{poss:List Pos}{params:Arguments}{body:Expr}{scope:Scope}{pos:Pos}{Q:Value->Shared->Prop}
def pK (X:Cx)(qual:Str)(params:Arguments)(body:Expr)(scope:Scope)(ys:List Str)(f:Addr)(H1:Hp)(h:Heap)(vs:List V):Prop:=
 FnAt f h/\H1 f=none/\f∉frs X.stack/\∃c' cl,∀(A:Around)(outer:List Env)(s':Shared)(Q:VK)(E:XK)(kk:Nat),Room (kk+1) A->jG X.prog X.w X.K X.mg X.base A outer s' H1->
  (∀b o,h.get? b=some o->H1 b=none->b∉frs X.stack->s'.heap.get? b=some o)->(∃t,PE (kA X.prog X.w X.K X.mg X.base ys qual scope f (.ref c') cl A outer s' H1 E) body t/\t (vs.map some) H1 Q)->
  codeAny (model X.prog X.w) A (.call (.ref f) ⟨[],[]⟩) (CR (CX1 X.prog X.w) outer X.prog X.w H1 s' Q E) s'
theorem A2f {ys:List Str}{vs:List V}(I:Inv X pins σ H s)(hs:X.stack=X.env::X.outer)(hf:X.env.frame=some X.env.locals)(hfn:X.fn=fun _=>true)(hcode:X.env.code= .ref c)(C:CodeHd X.base c P)(bm:cU X.mg X.base)(T:TabI H P ps qual poss)(hpos:pos∈poss)(hap:∀q∈poss,q≠pos->((((pos.line:Nat):Int)==((q.line:Nat):Int)&&((pos.col:Nat):Int)==((q.col:Nat):Int)):Bool)=false)(hq:X.env.qual++ "<lambda>" =qual)
  (hdef:defaultsOf params X.env=([],[]))(hbind:∀cl pm c' ctv,bindArgs (kla_fn "<lambda>" qual params body scope cl pm (.ref c') ctv) ⟨[],[]⟩=pure [])(hco:scope.isCoroutine=false)(hgen:scope.isGenerator=false)(hk:scope.kind= .function)(hcell:∀x∈scope.names,x.2≠ .cell)
  (hfree:∀x∈scope.names,x.2= .free->x.1∈ys)(hys:∀y∈ys,scope.names.lookup y=some .free/\X.env.scope.names.lookup y=some .cell)(hlen:vs.length=ys.length)(hv:∀(j:Nat)(y:Str)(v:V),ys[j]?=some y->vs[j]?=some v->∃i:Nat,X.N[i]?=some y/\σ[i]?=some (some v))
  (k:∀f ps' H1 s1,Inv X pins σ H1 s1->Grow P H H1->TabI H1 P ps' qual poss->pK X qual params body scope ys f H1 s1.heap vs->Q (.ref f) s1):wpAny (model X.prog X.w) X.A (eval (.Lambda params body scope pos) X.env) Q X.xe s:=by
 obtain⟨cl,hclos,hc1,hc2⟩:=rE (env:=X.env) (scope:=scope) fun x hx hf=>by
  exact I.ok.has _ (.inl (hys _ (hfree x hx hf)).2)
 have hP:s.heap.get? P=some (tabObj ps):=I.hok P _ T.at'
 have hg:s.heap.Ns mainGlobals X.mg:=I.mod.glob.keeps I.bk
 have CS:CodeHd s.heap c P:=C.keeps I.bk
 obtain⟨b,ob,b1,b2,b3,b4,b5,b6⟩:=bm
 have hgP:mainGlobals≠P:=fun z=>by
  obtain⟨o,es,ep,e,hd,_⟩:=hg
  rw [z,hP]at e;cases e;cases hd
 have hbP:b≠P:=fun z=>by
  have:=I.bk _ _ b3
  rw [z,hP]at this;cases this;cases b4
 have hbG:b≠mainGlobals:=fun z=>by
  obtain⟨o,es,ep,e,hd,_⟩:=hg
  have:=I.bk _ _ b3
  rw [z,e]at this;cases this;rw [hd]at b6;cases b6
 have hb:s.heap.BuiltinsAt X.mg P:=⟨b,ob,b1,b2,hbG,hbP,I.bk _ _ b3,b4,b5,b6⟩
 obtain⟨m,hm,hl⟩:=I.loc
 have nm:∀(j:Nat)(y:Str)(v:V),ys[j]?=some y->vs[j]?=some v->∃cc u,X.env.cells.lookup y=some cc/\s.heap.IsCell cc (some u)/\RelV v u/\cl.lookup y=some cc:=fun j y v e1 e2=>by
  obtain⟨i,hN,hσ⟩:=hv j y v e1 e2
  obtain⟨hy,hyX⟩:=hys y (mem_of_getElem? e1)
  obtain⟨u,ru,lk⟩:=hl i y v hN hσ (.inr (.inl hyX))
  obtain⟨cc,hcc,hcellv⟩:∃cc,X.env.cells.lookup y=some cc/\s.heap.IsCell cc (some u):=by
   rcases lk with⟨z,_⟩| ⟨_,cc,e1,e2⟩
   ·have z':X.env.scope.names.lookup y=some .local:=z
    rw [hyX]at z';cases z'
   ·exact⟨cc,e1,e2⟩
  refine⟨cc,u,hcc,hcellv,ru,?_⟩
  obtain⟨d,hd⟩:=hc2 y (PySem.mem_of_lookup hy)
  have:=hc1 y d hd
  rw [hcc]at this;rw [hd,this]
 have cabove:∀x d,X.env.cells.lookup x=some d->d∉frs X.stack:=fun x d e hb=>by
  rcases mem_cons.mp (I.stkSub d hb)with z|z
  ·exact I.cne x d e z
  ·have:=I.ok.cab x d (by rw [hfn]) e
   obtain⟨_,o,ho,_⟩:=I.ok.funs.mem z
   exact absurd (lt_of_lt_of_le (zjT ho) this) (lt_irrefl _)
 have fresh:∀d,s.heap.objs.size<=d->d∉frs X.stack:=fun d hd hb=>by
  obtain⟨_,o,ho,_⟩:=I.stack.mem hb
  exact absurd (lt_of_lt_of_le (zjT ho) hd) (lt_irrefl _)
 have runs:∀(f c':Addr)(ctv:Value)(H1:Hp)(h1:Heap),h1.get? f=some (kla_obj "<lambda>" qual params body scope cl ((X.mg "__name__").getD .none) c' ctv)->H1 f=none->s.heap.objs.size<=f->H1 c'=some (cdO c' qual)->(∀x d,X.env.cells.lookup x=some d->(∃w',h1.IsCell d w')/\H1 d=none)->(∀x d u,X.env.cells.lookup x=some d->s.heap.IsCell d (some u)->h1.IsCell d (some u))->pK X qual params body scope ys f H1 h1 vs:=by
  intro f c' ctv H1 h1 e1 e2 e3 e4 e5 e6
  refine⟨⟨_,_,_,_,e1⟩,e2,fresh f e3,c',cl,fun A outer s' Q' E kk hr e0 kept hbody=> ?_⟩
  have hcd:s'.heap.CodeRec (.ref c') qual:=by
   obtain⟨⟨o,vs,t,x1,x2,x3⟩,_⟩:=e0.hok c' _ e4
   exact⟨c',o,vs,t,rfl,x1,x2,x3⟩
  have kc:∀{d:Addr}{w':Option Value},H1 d=none->d∉frs X.stack->h1.IsCell d w'->s'.heap.IsCell d w':=fun h1' h2' ⟨o,ho,hd⟩=> ⟨o,kept _ _ ho h1' h2',hd⟩
  refine A6t hr e0 ⟨kept _ _ e1 e2 (fresh f e3),hcd,fun x d e=> ?_⟩ (hbind _ _ _ _) hco hgen hk hcell (fun x hx=>hc2 x (PySem.mem_of_lookup hx)) (fun x y' d z1 z2=>I.ok.inj x y' d (hc1 x d z1) (hc1 y' d z2)) (fun j x w' h1' h2'=> ?_) (by rw [length_map];exact hlen) hbody
  ·obtain⟨⟨w',x1⟩,x2⟩:=e5 x d (hc1 x d e)
   exact⟨⟨w',kc x2 (cabove x d (hc1 x d e)) x1⟩,x2⟩
  ·rw [getElem?_map]at h2'
   cases hvj:vs[j]? with
   |none=>rw [hvj]at h2';cases h2'
   |some v'=>
    rw [hvj]at h2'
    cases h2'
    obtain⟨cc,u,hcc,hcv,ru,hclY⟩:=nm j x _ h1' hvj
    exact⟨cc,u,(hys x (mem_of_getElem? h1')).1,hclY,kc (e5 x cc hcc).2 (cabove x cc hcc) (e6 x cc u hcc hcv),ru⟩
 refine kla_eval hdef ?_
 rw [hq]
 rcases T.cd pos hpos with hnf| ⟨c',hhit,hc'⟩
 ·refine kla_makeFunction (mg:=X.mg) hclos I.ok.glob hg hcode CS hP T.tr hnf hgP hb fun c' ctv h' tk hx hge hlt hrec htb=> ?_
  have hsz:s.heap.objs.size<=h'.objs.size:=le_of_lt (lt_of_le_of_lt hge hlt)
  have hPlt:P<s.heap.objs.size:=zjT hP
  have hcP:c'≠P:=fun z=>by rw [z]at hge;exact absurd (lt_of_lt_of_le hPlt hge) (lt_irrefl _)
  have keep:∀b o,b≠P->s.heap.get? b=some o->(h'.push (kla_obj "<lambda>" qual params body scope cl ((X.mg "__name__").getD .none) c' ctv)).get? b=some o:=fun b o hb e=>zjX _ (hx b o hb e)
  have nP:∀b,H b=none->b≠P:=fun b n z=>by rw [z,T.at']at n;cases n
  have hcn:H c'=none:=I.hok.fresh hge
  have hfn':H h'.objs.size=none:=I.hok.fresh hsz
  generalize hnew:ps++ #[rawInt pos.line,rawInt pos.col,.ref c']=ps' at htb
  generalize hH1:upd (upd H P (.tbl ps')) c' (cdO c' qual)=H1
  have g1:Grow P H H1:=fun b w' hb e=>by
   rw [←hH1,aQ (bW e hcn),aQ hb];exact e
  have gP:H1 P=some (.tbl ps'):=by rw [←hH1,aQ hcP.symm,aJ]
  have gc:H1 c'=some (cdO c' qual):=by rw [←hH1,aJ]
  have gn:∀b,H b=none->b≠c'->H1 b=none:=fun b n hb=>by rw [←hH1,aQ hb,aQ (nP b n)];exact n
  have gof:∀b w',H1 b=some w'->b≠P->b≠c'->H b=some w':=fun b w' e h1 h2=>by rw [←hH1,aQ h2,aQ h1]at e;exact e
  obtain⟨c2,oc,vs,tt,e2,hoc,hdc,hvc⟩:=hrec
  cases e2
  have hokF:HOk X.prog X.w H1 (h'.push (kla_obj "<lambda>" qual params body scope cl ((X.mg "__name__").getD .none) c' ctv)):=fun b w' e=>by
   by_cases hbP':b=P
   ·rw [hbP',gP]at e;cases e
    rw [hbP']
    show(h'.push _).get? P=some _
    exact zjX _ htb
   ·by_cases hbc:b=c'
    ·rw [hbc,gc]at e;cases e
     rw [hbc]
     refine⟨⟨oc,vs,tt,zjX _ hoc,hdc,hvc⟩,⟨oc,zjX _ hoc⟩,fun h1 h2 ⟨o,vs',t',x1,x2,x3⟩ kk=> ⟨o,vs',t',kk o x1,x2,x3⟩⟩
    ·have e':=gof b w' e hbP' hbc
     refine(I.hok b w' e').stay (fun d w'' hd q=>keep d w'' (fun z=> ?_) q) (fun d q=> ?_) fun d xs q=> ?_
     ·rcases hd with z'|z'
      ·exact hbP' (z'.symm.trans z)
      ·rw [z,T.at']at z';cases z'
     ·refine g1 d _ (fun z=> ?_) q
      rw [z,T.at']at q;cases q
     ·refine g1 d _ (fun z=> ?_) q
      rw [z,T.at']at q;cases q
  have I1:Inv X pins σ H1 {s with heap:=h'.push (kla_obj "<lambda>" qual params body scope cl ((X.mg "__name__").getD .none) c' ctv),toks:=tk}:=by
   refine I.un (t':=tk) ⟨fun b o q n _ _=>keep b o (nP b n) q,fun b o q n _ _=> ⟨o.slots,keep b o (nP b n) q⟩,fun b o q n _=>gn b n (fun z=> ?_),fun b o q _=> ?_,fun b xs q=>g1 b _ (fun z=> ?_) q,fun b o w' q=>g1 b _ (fun z=> ?_) q,fun b qs q=> ?_⟩ hokF
   ·have:=zjT q
    rw [z]at this;exact absurd (lt_of_lt_of_le this hge) (lt_irrefl _)
   ·by_cases hbP':b=P
    ·exact⟨_,by rw [hbP'];exact zjX _ htb⟩
    ·exact⟨o,keep b o hbP' q⟩
   ·rw [z,T.at']at q;cases q
   ·rw [z,T.at']at q;cases q
   ·by_cases hbP':b=P
    ·rw [hbP',T.at']at q;cases q
     exact⟨#[rawInt pos.line,rawInt pos.col,.ref c'],by rw [hbP',gP,hnew]⟩
    ·exact⟨#[],by rw [g1 b _ hbP' q];simp⟩
  refine k _ ps' H1 _ I1 g1 ⟨gP,?_,fun q hq'=> ?_⟩ (runs _ c' ctv H1 _ (get?_push_size _ rfl) (gn _ hfn' (ne_of_gt hlt)) hsz gc (fun x d e=> ?_) fun x d u e hcv=> ?_)
  ·rw [←hnew,Array.toList_append]
   exact uJ T.tr
  ·rw [←hnew,Array.toList_append]
   have eqA:codeAmong q (ps.toList++ #[rawInt pos.line,rawInt pos.col,Value.ref c'].toList)=_:=yW (pos:=q) (pos':=pos) (c:=.ref c') T.tr
   rw [eqA]
   by_cases hqp:q=pos
   ·subst hqp
    rw [hnf]
    refine .inr ⟨c',?_,gc⟩
    dsimp only
    rw [if_pos (by simp)]
   ·rcases T.cd q hq' with z| ⟨d,z1,z2⟩
    ·rw [z]
     refine .inl ?_
     dsimp only
     rw [if_neg (by rw [hap q hq' hqp];decide)]
    ·rw [z1]
     refine .inr ⟨d,rfl,g1 d _ (fun z=> ?_) z2⟩
     rw [z,T.at']at z2;cases z2
  ·obtain⟨w',o,ho,hd⟩:=I.cell x d e
   have hdn:=I.freeC x d e
   refine⟨⟨w',o,keep d o (nP d hdn) ho,hd⟩,gn d hdn fun z=> ?_⟩
   have:=zjT ho
   rw [z]at this;exact absurd (lt_of_lt_of_le this hge) (lt_irrefl _)
  ·obtain⟨o,ho,hd⟩:=hcv
   exact⟨o,keep d o (nP d (I.freeC x d e)) ho,hd⟩
 ·refine kla_makeFunctionHit (mg:=X.mg) hclos I.ok.glob hg hcode CS hP T.tr hhit hb fun ctv h' tk hkp hsz=> ?_
  have hfn':H h'.objs.size=none:=I.hok.fresh hsz
  have I1:Inv X pins σ H {s with heap:=h'.push {cls:=.type "function",data:=.func (kla_fn "<lambda>" qual params body scope cl ((X.mg "__name__").getD .none) (.ref c') ctv)},toks:=tk}:=I.kept (t':=tk) fun b o e=>zjX _ (hkp b o e)
  refine k _ ps H _ I1 (fun b w' _ e=>e) T (runs _ c' ctv H _ (get?_push_size _ rfl) hfn' hsz hc' (fun x d e=> ?_) fun x d u e hcv=> ?_)
  ·obtain⟨w',o,ho,hd⟩:=I.cell x d e
   exact⟨⟨w',o,zjX _ (hkp _ _ ho),hd⟩,I.freeC x d e⟩
  ·obtain⟨o,ho,hd⟩:=hcv
   exact⟨o,zjX _ (hkp _ _ ho),hd⟩
end
structure iH (X:Cx)(c P:Addr)(qual:Str)(poss:List Pos)(params:Arguments)(body:Expr)(scope:Scope)(pos:Pos)(ys:List Str):Prop where
 hs:X.stack=X.env::X.outer
 hf:X.env.frame=some X.env.locals
 hfn:X.fn=fun _=>true
 hcode:X.env.code= .ref c
 C:CodeHd X.base c P
 bm:cU X.mg X.base
 hpos:pos∈poss
 hap:∀q∈poss,q≠pos->((((pos.line:Nat):Int)==((q.line:Nat):Int)&&((pos.col:Nat):Int)==((q.col:Nat):Int)):Bool)=false
 hq:X.env.qual++ "<lambda>" =qual
 hdef:defaultsOf params X.env=([],[])
 hbind:∀cl pm c' ctv,bindArgs (kla_fn "<lambda>" qual params body scope cl pm (.ref c') ctv) ⟨[],[]⟩=pure []
 hco:scope.isCoroutine=false
 hgen:scope.isGenerator=false
 hk:scope.kind= .function
 hcell:∀x∈scope.names,x.2≠ .cell
 hfree:∀x∈scope.names,x.2= .free->x.1∈ys
 hys:∀y∈ys,scope.names.lookup y=some .free/\X.env.scope.names.lookup y=some .cell
section
variable {X:Cx}{g P c:Addr}{gd:FuncData}{k:Nat}{pn x:Str}{ys:List Str}{sp:List Env->List V->Hp->Heap->VK->Prop}{qual:Str}{poss:List Pos}{params:Arguments}{body:Expr}{scope:Scope}{pos p cpos:Pos}
theorem iU (F:gW X.prog X.w X.K X.mg X.base k g gd [pn] sp)(hr:Room k X.A)(hg:Gl X x)(hm:X.mg x=some (.ref g))(hkp:keepIn X.K (.ref g)=true)(hb:Binds X.K gd [pn] [])(L:iH X c P qual poss params body scope pos ys)(hdb:(x==("__debug__":Str))=false:=by decide)
  (he:starEach [.Lambda params body scope pos] X.env=[(false,eval (.Lambda params body scope pos) X.env)]:=by rfl):
  PE X (.Call (.Name x p) [.Lambda params body scope pos] [] cpos) (fun σ H Q=> ∃(ps:Array Value)(vs:List V),TabI H P ps qual poss/\vs.length=ys.length/\(∀(j:Nat)(y:Str)(v:V),ys[j]?=some y->vs[j]?=some v->∃i:Nat,X.N[i]?=some y/\σ[i]?=some (some v))/\∀f ps' H1 h,Grow P H H1->TabI H1 P ps' qual poss->pK X qual params body scope ys f H1 h vs->sp X.stack [.ref f] H1 h Q):=by
 intro pins s σ H Q I h
 obtain⟨ps,vs,T,hlen,hv,h⟩:=h
 refine wpAny_Call_Name_kw (mG I hg hm ?_ hdb)
 refine W.callWith_K (h₀:=X.base) I.ok.mod.kin hkp ?_ (by rw [he];rfl) rfl
 rw [he]
 show wpAny _ _ (spliced ((false,eval (.Lambda params body scope pos) X.env)::backTo cpos (starEach [] X.env))) _ _ s
 refine Calls.spliced_cons (A2f I L.hs L.hf L.hfn L.hcode L.C L.bm T L.hpos L.hap L.hq L.hdef L.hbind L.hco L.hgen L.hk L.hcell L.hfree L.hys hlen hv fun f ps' H1 s1 I1 g1 T1 R=> ?_)
 refine Calls.spliced_nil ⟨I1.kIn,?_⟩
 have q:=h f ps' H1 s1.heap g1 T1 R
 refine wpAny_call (codeAny_mono (F.run X.A X.stack s1 H1 ⟨[.ref f],[]⟩ [.ref f] [.ref f] Q E0 hr I1.env0 (by have:=hb s1 [.ref f] I1.kIn rfl;exact this) (.cons rfl .nil) q) fun r s' hq=> ?_)
 cases r with
 |error e=>exact False.elim hq
 |ok fl=>
  cases fl with
  |ret u=>exact I1.after hq
  |next=>exact False.elim hq
  |brk=>exact False.elim hq
  |cont=>exact False.elim hq
end
end L2
namespace M46
open PySem L2 PyProof.Rows
abbrev kU:Stmt:=top 43
structure Cls (K:W.Frag)(mg:Str->Option Value)(cE cM cP cD:Addr):Prop where
 mE:mg "MeadError" =some (.ref cE)
 mM:mg "NoMead" =some (.ref cM)
 mP:mg "NoParting" =some (.ref cP)
 mD:mg "NoDealt" =some (.ref cD)
 mV:mg "ValueError" =none
 eD:ExcC K cD
 d:lF K cD
 x:W.exmOne K (.ref cD) (.ref cE)=some true
 k1:W.kitOne K (.ref cD) (.ref cD)=some true
 k2:W.kitOne K (.ref cD) (.ref cM)=some false
 k3:W.kitOne K (.ref cD) (.ref cP)=some false
 k4:W.kitOne K (.ref cD) (.type "ValueError")=some true
def A2h (P:Program)(w:World)(K:W.Frag)(mg:Str->Option Value)(base:Heap)(o:List Env)(f D:Addr)(H:Hp)(h:Heap)(R:V->Hp->Prop)(X:Hp->Prop):Prop:=
 ∀(A:Around)(outer:List Env)(s':Shared)(Q:VK)(E:XK),Room 11 A->jG P w K mg base A outer s' H->(∀b o',h.get? b=some o'->H b=none->b∉frs o->s'.heap.get? b=some o')->(∀v H',R v H'->Q v H')->(∀H',X H'->E (.ref D) none H')->
  codeAny (model P w) A (.call (.ref f) ⟨[],[]⟩) (CR (CX1 P w) outer P w H s' Q E) s'
def iE (P:Program)(w:World)(K:W.Frag)(mg:Str->Option Value)(base:Heap)(cD:Addr):List Env->List V->Hp->Heap->VK->Prop:=fun o vs H h Q=> ∃f R X,vs=[.ref f]/\W.FnAt f h/\H f=none/\f∉frs o/\A2h P w K mg base o f cD H h R X/\(∀v H',R v H'->Q v H')/\∀H',X H'->∀H2,Same H' H2->Q (.str "none") H2
section
variable {P:Program}{w:World}{K:W.Frag}{mg:Str->Option Value}{base:Heap}
abbrev wB:List Str:=["_law_call","e","_law_marks"]
theorem scTold:bV wB ["_law_call"] (aK kU):=by ac_rfl
theorem A5z:bootBuiltins "ValueError" =some (.type "ValueError"):=by decide +kernel
def A66 (s:Stmt):List Stmt:=match bJ s with| [.Try _ [.ExceptHandler _ _ b _] _ _ _]=>b|_=> []
theorem A1p {f cE cM cP cD:Addr}{fd:FuncData}(F:Fun K "_law_told" "_law_told" kU f fd)(T:Txt mg)(C:Cls K mg cE cM cP cD):gW P w K mg base 12 f fd ["_law_call"] (iE P w K mg base cD):=by
 have nd:=scTold.nd
 refine F.okTryS (i:=1) (Cy:=cE) scTold (fun o vs H h Q z=> ?_) rfl rfl C.mE rfl rfl (by decide) (fun cdv A outer s H vs Q E hr h=> ?_)
 ·obtain⟨g,R,X,rfl,_⟩:=z;rfl
 ·obtain⟨g,R,X,rfl,hF,hH,hfr,hR,qv,qx⟩:=h
  have hu:(A.deeper (envOfC "_law_told" (aK kU) s.heap.objs.size f cdv)).units<cLine:=by have:=hr.un;omega
  have hS:∀(e:Addr)(oe:Obj),∃tt,PSs ((cV CX0 P w K mg base wB "_law_told" (aK kU) f cdv A outer s H E).nox.within e oe) (A66 kU) tt/\
    ∀H',oe.cls= .ref cD->(∀H2,Same H' H2->Q (.str "none") H2)->tt {nx:=fun _ _=>False,rt:=Q} [none,some (.ref e),none] H':=fun e oe=>by
   refine⟨_,aU (cJ (i:=2) nd rfl (Or.inl rfl) (dU (cC (bI (pI C.d) rfl T.isinstance boot_isinstance (aE (pv 1) (aE (iM (v:=.ref cD) rfl C.mD rfl) aA)))
     (cC (bI (pI C.d) rfl T.isinstance boot_isinstance (aE (pv 1) (aE (iM (v:=.ref cM) rfl C.mM rfl) aA))) aA))))<|
    aU (cJ (i:=2) nd rfl (Or.inl rfl) (bF pT (pv 2) (dU (cC (bI (pI C.d) rfl T.isinstance boot_isinstance (aE (pv 1) (aE (iM (v:=.ref cP) rfl C.mP rfl) aA)))
     (cC (bI (pI C.d) rfl T.isinstance boot_isinstance (aE (pv 1) (aE (dQ (v:=.ty "ValueError") rfl C.mV A5z rfl) aA))) aA)))))<|
    aW (bB (oU (bN (A6e hu) (pv 2) (dU (bU cT (bU cT (bU cT (bU cT aA))))) (nomark _)) iI iI)),fun H' hc qq=> ?_⟩
   refine⟨_,rfl,hc,.inl ⟨cD,true,rfl,C.k1,?_⟩⟩
   refine⟨_,rfl,hc,.inl ⟨cM,false,rfl,C.k2,?_⟩⟩
   refine⟨by show 2<=sizeLine;decide,fun l hl=> ?_⟩
   have s1:=aV (o:=.lst [.bl true,.bl false]) hl
   refine⟨_,rfl,_,rfl,hc,.inl ⟨cP,false,rfl,C.k3,?_⟩⟩
   refine⟨_,rfl,hc,.inr ⟨"ValueError",true,rfl,C.k4,?_⟩⟩
   refine⟨by show 2<=sizeLine;decide,fun l2 hl2=> ?_⟩
   have s2:=aV (o:=.lst [.bl false,.bl true]) hl2
   refine⟨l,l2,_,_,rfl,rfl,s2 _ _ aJ,aJ,by show 2+2<=sizeLine;decide,fun l3 hl3=> ?_⟩
   have s3:=aV (o:=.lst ([.bl true,.bl false]++[.bl false,.bl true])) hl3
   refine⟨_,rfl,by show 4<=sizeLine;decide,fun l4 hl4=> ?_⟩
   have s4:=aV (o:=.lst [.bl true,.bl false,.bl false,.bl true]) hl4
   refine⟨l3,l4,[true,false,false,true],rfl,rfl,s4 _ _ aJ,aJ,_,rfl,cN ?_⟩
   exact qq _ (((s1.trans s2).trans s3).trans s4)
  refine⟨fun cls _ H'=>cls= .ref cD/\∀H2,Same H' H2->Q (.str "none") H2,_,fun e oe=>(hS e oe).choose,aW (bB (A77 (i:=0) rfl (Or.inl rfl) A15)),fun e oe=>(hS e oe).choose_spec.1,?_,?_,?_⟩
  ·refine⟨g,rfl,fun pins s' I=> ?_⟩
   have keep:∀b o',s.heap.get? b=some o'->H b=none->b∉frs outer->s'.heap.get? b=some o':=fun b o' e1 e2 e3=>I.base.keep b o' e1 e2 e3 (fun z=>by cases z)
   refine⟨?_,hR _ _ s' _ _ hr I.env0 keep (fun v H' h=>qv v H' h) fun H' h=> ⟨rfl,fun H2 s3=>qx H' h H2 s3⟩⟩
   obtain⟨oc,od,fd',sl,e1⟩:=hF
   exact⟨oc,od,fd',sl,keep _ _ e1 hH hfr⟩
  ·rintro cls H' ⟨rfl,_⟩
   exact C.x
  ·rintro e oe cls H' hc ⟨rfl,hq⟩
   exact(hS e oe).choose_spec.2 H' hc hq
end
end M46
namespace L2
open PySem PySem.Spec PyProof.Rows
theorem TabI.same {H H1:Hp}{T:Addr}{ps:Array Value}{qual:Str}{poss:List Pos}(h:TabI H T ps qual poss)(s:Same H H1):TabI H1 T ps qual poss:=
 ⟨s _ _ h.at',h.tr,fun pos hp=>(h.cd pos hp).imp id fun⟨c',e1,e2⟩=> ⟨c',e1,s _ _ e2⟩⟩
theorem TabI.stp {p:Addr}{H H1:Hp}{T:Addr}{ps:Array Value}{qual:Str}{poss:List Pos}(h:TabI H T ps qual poss)(hp:PenAt H p)(s:Stp p H H1):TabI H1 T ps qual poss:=by
 obtain⟨x,y,e⟩:=hp
 refine⟨s.keep _ _ (fun z=>by rw [←z,h.at']at e;cases e) h.at',h.tr,fun pos hp=>(h.cd pos hp).imp id fun⟨c',e1,e2⟩=> ⟨c',e1,s.keep _ _ (fun z=> ?_) e2⟩⟩
 rw [←z,e2]at e;cases e
theorem TabI.grow {H H1:Hp}{T T':Addr}{ps ps':Array Value}{qual:Str}{poss:List Pos}(h:TabI H T ps qual poss)(g:Grow T' H H1)(h':H T'=some (.tbl ps'))(ne:T≠T'):TabI H1 T ps qual poss:=by
 refine⟨g _ _ ne h.at',h.tr,fun pos hp=>(h.cd pos hp).imp id fun⟨c',e1,e2⟩=> ⟨c',e1,g _ _ (fun z=> ?_) e2⟩⟩
 rw [z,h']at e2;cases e2
theorem TabI.put {H:Hp}{T l:Addr}{ps:Array Value}{qual:Str}{poss:List Pos}{xs ys:List V}(h:TabI H T ps qual poss)(hl:H l=some (.lst xs)):TabI (upd H l (.lst ys)) T ps qual poss:=by
 have ne:∀{b:Addr}{o:HO},H b=some o->(∀zs,o≠ .lst zs)->b≠l:=fun e hz z=>by
  rw [z,hl]at e;cases e;exact hz _ rfl
 refine⟨by rw [aQ (ne h.at' (by intro z;simp))];exact h.at',h.tr,fun pos hp=>(h.cd pos hp).imp id fun⟨c',e1,e2⟩=> ⟨c',e1,?_⟩⟩
 rw [aQ (ne e2 (by intro z;unfold cdO;simp))];exact e2
theorem Grow.refl {T:Addr}(H:Hp):Grow T H H:=fun _ _ _ e=>e
theorem Grow.trans {T:Addr}{H H1 H2:Hp}(a:Grow T H H1)(b:Grow T H1 H2):Grow T H H2:=fun x u n e=>b x u n (a x u n e)
theorem Grow.same {T:Addr}{H H1 H2:Hp}(a:Grow T H H1)(b:Same H1 H2):Grow T H H2:=fun x u n e=>b x u (a x u n e)
theorem Grow.tup {T:Addr}{H H1:Hp}{ps:Array Value}(g:Grow T H H1)(hT:H T=some (.tbl ps)){b:Addr}{xs:List V}(e:H b=some (.tup xs)):H1 b=some (.tup xs):=g b _ (fun z=>by rw [z,hT]at e;cases e) e
theorem Grow.lst {T:Addr}{H H1:Hp}{ps:Array Value}(g:Grow T H H1)(hT:H T=some (.tbl ps)){b:Addr}{xs:List V}(e:H b=some (.lst xs)):H1 b=some (.lst xs):=g b _ (fun z=>by rw [z,hT]at e;cases e) e
theorem Grow.ext {T:Addr}{H H1:Hp}{ps:Array Value}(g:Grow T H H1)(hT:H T=some (.tbl ps)):Ext H H1:=⟨fun _ _ e=>g.tup hT e,fun _ xs e=> ⟨xs,g.lst hT e⟩,fun b kvs e=>g b _ (fun z=>by rw [z,hT]at e;cases e) e⟩
theorem Grow.put {T l:Addr}{H H1:Hp}{o:HO}(g:Grow T H H1)(hl:H l=none):Grow T H (upd H1 l o):=fun x u n e=>by rw [aQ (bW e hl)];exact g x u n e
theorem Grow.free {T l:Addr}{H H1:Hp}(g:Grow T H H1)(hT:H T≠none)(hl:H1 l=none)(h2:H1 T≠none):H l=none:=by
 cases e:H l with
 |none=>rfl
 |some u=>
  by_cases z:l=T
  ·rw [z]at hl;exact absurd hl h2
  ·rw [g l u z e]at hl;cases hl
end L2
namespace M46
open PySem L2 PyProof.Rows Grd Wlk Cyc Srt
theorem DlA.ext {H H':Hp}{p:Addr}{g:bG}{w:Nat}{ns:List Int}(h:DlA H p g w ns)(s:Ext H H'):DlA H' p g w ns:=⟨h.G,let ⟨a,n,h1,h2,h3⟩:=h.ex;⟨a,n,s.tup _ _ h1,h2.ext s,s.tup _ _ h3⟩,h.len,h.num⟩
theorem DlA.kn {H:Hp}{p:Addr}{g:bG}{w:Nat}{ns:List Int}(h:DlA H p g w ns):KnA H (.ref p):=by
 obtain⟨a,n,h1,⟨bs,h2,h4⟩,h3⟩:=h.ex
 have:=h.G.h4
 have hb:bs.length=g.length:=Paired.length h4
 have h10:ns.length<=10:=by rw [h.len,gH];exact h.G.c10
 exact KnA.tup h1 (by show 2<=1000;decide) (KnA.two (KnA.tup h2 (by rw [length_map];omega) (wU h4 h.G)) (KnA.tup h3 (by rw [length_map];omega) (kO _)))
abbrev eM:Stmt:=top 44
abbrev nRt:List Str:=["_law_one","_law_other","_law_mead_here","_law_due","_law_lap","_law_told_here","_law_many"]
def nJ (s:Stmt):Expr:=match s with| .Assign _ (.List (.Call _ (l::_) _ _::_) _) _=>l| .Expr (.Call _ (.Call _ (l::_) _ _::_) _ _) _=>l|_=> .Constant .none 0 ⟨0,0,0,0⟩
def iT (e:Expr)(d:Arguments):Arguments:=match e with| .Lambda a _ _ _=>a|_=>d
def iW (e:Expr):Expr:=match e with| .Lambda _ b _ _=>b|e=>e
def eX (e:Expr):Scope:=match e with| .Lambda _ _ s _=>s|_=>aK eM
def bR (e:Expr):Pos:=match e with| .Lambda _ _ _ p=>p|_=> ⟨0,0,0,0⟩
abbrev rtB (i:Nat):Stmt:=(bJ eM).getD i pas
abbrev rtF (i:Nat):Stmt:=(fG (rtB 2)).getD i pas
abbrev lm1:Expr:=nJ (rtF 0)
abbrev lm2:Expr:=nJ (rtF 1)
abbrev lm3:Expr:=nJ (rtB 4)
abbrev lm4:Expr:=nJ (rtB 5)
abbrev dO:List Pos:=[bR lm1,bR lm2,bR lm3,bR lm4]
abbrev qR:Str:="_law_right.<locals>.<lambda>"
section
variable {P:Program}{w:World}{K:W.Frag}{mg:Str->Option Value}{base:Heap}
theorem scRt:bV nRt ["_law_one","_law_other"] (aK eM):=by ac_rfl
abbrev XR (P:Program)(w:World)(K:W.Frag)(mg:Str->Option Value)(base:Heap)(f c:Addr)(A:Around)(outer:List Env)(s:Shared)(H:Hp)(E:XK):Cx:=(cV CX0 P w K mg base nRt "_law_right" (aK eM) f (.ref c) A outer s H E).nox
variable {f c T:Addr}{A:Around}{outer:List Env}{s:Shared}{H0:Hp}{E:XK}
theorem A75:∀y∈(["_law_one"]:List Str),(eX lm1).names.lookup y=some .free/\(aK eM).names.lookup y=some .cell:=by decide +kernel
theorem A17:∀y∈(["_law_other"]:List Str),(eX lm2).names.lookup y=some .free/\(aK eM).names.lookup y=some .cell:=by decide +kernel
theorem A45:∀y∈(["_law_one","_law_other"]:List Str),(eX lm3).names.lookup y=some .free/\(aK eM).names.lookup y=some .cell:=by decide +kernel
theorem A1n:∀y∈(["_law_one","_law_other"]:List Str),(eX lm4).names.lookup y=some .free/\(aK eM).names.lookup y=some .cell:=by decide +kernel
theorem A9n:∀q∈dO,q≠bR lm1->((((bR lm1).line:Nat):Int)==((q.line:Nat):Int)&&(((bR lm1).col:Nat):Int)==((q.col:Nat):Int):Bool)=false:=by decide +kernel
theorem A8g:∀q∈dO,q≠bR lm2->((((bR lm2).line:Nat):Int)==((q.line:Nat):Int)&&(((bR lm2).col:Nat):Int)==((q.col:Nat):Int):Bool)=false:=by decide +kernel
theorem A2d:∀q∈dO,q≠bR lm3->((((bR lm3).line:Nat):Int)==((q.line:Nat):Int)&&(((bR lm3).col:Nat):Int)==((q.col:Nat):Int):Bool)=false:=by decide +kernel
theorem A8c:∀q∈dO,q≠bR lm4->((((bR lm4).line:Nat):Int)==((q.line:Nat):Int)&&(((bR lm4).col:Nat):Int)==((q.col:Nat):Int):Bool)=false:=by decide +kernel
theorem A2o (C:W.CodeHd base c T)(B:cU mg base):iH (XR P w K mg base f c A outer s H0 E) c T qR dO (iT lm1 (fH eM)) (iW lm1) (eX lm1) (bR lm1) ["_law_one"]:=
 ⟨rfl,rfl,rfl,rfl,C,B,zjR,A9n,by first|rfl|kernel_rfl,rfl,fun _ _ _ _=>rfl,rfl,rfl,rfl,by decide +kernel,by decide +kernel,A75⟩
theorem A7h (C:W.CodeHd base c T)(B:cU mg base):iH (XR P w K mg base f c A outer s H0 E) c T qR dO (iT lm2 (fH eM)) (iW lm2) (eX lm2) (bR lm2) ["_law_other"]:=
 ⟨rfl,rfl,rfl,rfl,C,B,zjS _ zjR,A8g,by first|rfl|kernel_rfl,rfl,fun _ _ _ _=>rfl,rfl,rfl,rfl,by decide +kernel,by decide +kernel,A17⟩
theorem A7c (C:W.CodeHd base c T)(B:cU mg base):iH (XR P w K mg base f c A outer s H0 E) c T qR dO (iT lm3 (fH eM)) (iW lm3) (eX lm3) (bR lm3) ["_law_one","_law_other"]:=
 ⟨rfl,rfl,rfl,rfl,C,B,zjS _ (zjS _ zjR),A2d,by first|rfl|kernel_rfl,rfl,fun _ _ _ _=>rfl,rfl,rfl,rfl,by decide +kernel,by decide +kernel,A45⟩
theorem A3e (C:W.CodeHd base c T)(B:cU mg base):iH (XR P w K mg base f c A outer s H0 E) c T qR dO (iT lm4 (fH eM)) (iW lm4) (eX lm4) (bR lm4) ["_law_one","_law_other"]:=
 ⟨rfl,rfl,rfl,rfl,C,B,zjS _ (zjS _ (zjS _ zjR)),A8c,by first|rfl|kernel_rfl,rfl,fun _ _ _ _=>rfl,rfl,rfl,rfl,by decide +kernel,by decide +kernel,A1n⟩
end
theorem tell_gen {X:Cx}{cD:Addr}{qual:Str}{params:Arguments}{body:Expr}{scope:Scope}{ys:List Str}{f:Addr}{H1:Hp}{h:Heap}{vs:List V}{Q:VK}{t:XK->TE}(R:pK X qual params body scope ys f H1 h vs)
  (hb:∀(c':Addr) cl (A':Around)(outer':List Env)(s':Shared)(E':XK),Room 11 A'->PE (kA X.prog X.w X.K X.mg X.base ys qual scope f (.ref c') cl A' outer' s' H1 E') body (t E'))
  (q:∀(Q':VK)(E':XK),(∀v H',Q v H'->Q' v H')->(∀H',(∀H2,Same H' H2->Q (.str "none") H2)->E' (.ref cD) none H')->t E' (vs.map some) H1 Q'):iE X.prog X.w X.K X.mg X.base cD X.stack [.ref f] H1 h Q:=by
 obtain⟨fa,hn',hfr,c',cls,run⟩:=R
 refine⟨f,Q,fun H'=> ∀H2,Same H' H2->Q (.str "none") H2,rfl,fa,hn',hfr,fun A' outer' s' Q' E' hr' e0 keep hv hE=> ?_,fun v H' z=>z,fun H' z H2 s2=>z H2 s2⟩
 exact run A' outer' s' Q' E' 10 hr' e0 keep ⟨_,hb c' cls A' outer' s' E' hr',q Q' E' hv hE⟩
theorem StA.ext {H H':Hp}{q:Addr}{s:aY}(h:StA H q s)(e:Ext H H'):StA H' q s:=by
 obtain⟨a,b,h1,h2,h3⟩:=h
 exact⟨a,b,e.tup _ _ h1,e.tup _ _ h2,e.tup _ _ h3⟩
theorem StAt.ext {H H':Hp}{qs:List Addr}{ss:List aY}(h:StAt H qs ss)(e:Ext H H'):StAt H' qs ss:=Paired.mapP h fun _ _ x=>StA.ext x e
theorem A6g {H:Hp}{p q:Addr}{s:aY}(h1:StA H p s)(h2:StA H q s):SameV H 2 (.ref p) (.ref q):=by
 obtain⟨a,b,x1,x2,x3⟩:=h1
 obtain⟨c,d,y1,y2,y3⟩:=h2
 have pl:∀{i j:Addr}{z:Pl},PlA H i z->PlA H j z->SameV H 1 (.ref i) (.ref j):=fun{i j z} e1 e2=>
  .inr ⟨i,j,_,_,rfl,rfl,.inr ⟨e1,e2⟩,by show 2<=1000;decide,.cons (SameV.int _ _) (.cons (SameV.int _ _) .nil)⟩
 exact .inr ⟨p,q,_,_,rfl,rfl,.inr ⟨x1,y1⟩,by show 2<=1000;decide,.cons (pl x2 y2) (.cons (pl x3 y3) .nil)⟩
theorem A2p {H:Hp}{ps qs:List Addr}{ss:List aY}(h1:StAt H ps ss)(h2:StAt H qs ss):Paired (SameV H 2) (ps.map V.ref) (qs.map V.ref):=by
 induction h1 generalizing qs with
 |nil=>cases h2;exact .nil
 |cons r1 t1 ih=>cases h2 with|cons r2 t2=>exact .cons (A6g r1 r2) (ih t2)
theorem wD {H:Hp}{l k:Addr}{ps qs:List Addr}{ss:List aY}(h1:H l=some (.lst (ps.map V.ref)))(h2:H k=some (.lst (qs.map V.ref)))(s1:StAt H ps ss)(s2:StAt H qs ss)(hz:ss.length<=1000):SameV H 3 (.ref l) (.ref k):=
 .inr ⟨l,k,_,_,rfl,rfl,.inl ⟨h1,h2⟩,by have e:ps.length=ss.length:=Paired.length s1;rw [length_map];omega,A2p s1 s2⟩
section
variable {P:Program}{w:World}{K:W.Frag}{mg:Str->Option Value}{base:Heap}
variable {f c T:Addr}{A:Around}{outer:List Env}{s:Shared}{H0:Hp}{E:XK}
theorem A6p {gT gS gF cD:Addr}{dT dS dF:FuncData}(hr:Room 12 (XR P w K mg base f c A outer s H0 E).A)(C:W.CodeHd base c T)(B:cU mg base)
  (nT:mg "_law_told" =some (.ref gT))(kT:W.keepIn K (.ref gT)=true)(bT:L2.Binds K dT ["_law_call"] [])(oT:gW P w K mg base 12 gT dT ["_law_call"] (iE P w K mg base cD))
  (aS:At P w K mg base CX0 5 "_law_same" gS dS ["_law_thing_here","_law_due"] (lV 4))(aF:At P w K mg base (CX1 P w) 9 "fences_of" gF dF ["dealt"] (jY cD)):
  ∃tt,PSs (XR P w K mg base f c A outer s H0 E) (fG (rtB 2)) tt/\
  ∀(D:bK)(ps:Array Value)(d1 d2 ld la lb:Addr)(o2 o4 o5 o6:Option V)(g:bG)(w':Nat)(ns ms:List Int)(qa qb:List Addr)(H:Hp),TabI H T ps qR dO->DlA H d1 g w' ns->DlA H d2 g w' ms->
   H ld=some (.lst [.ref la,.ref lb])->H la=some (.lst (qa.map V.ref))->H lb=some (.lst (qb.map V.ref))->StAt H qa (bY (bC pos g) ns)->StAt H qb (bY (bC pos g) ms)->
   (∀ps' o5' H',Grow T H H'->TabI H' T ps' qR dO->D.nx [some (.ref d1),some (.ref d2),o2,some (.ref ld),o4,o5',o6] H')->tt D [some (.ref d1),some (.ref d2),o2,some (.ref ld),o4,o5,o6] H:=by
 have nd:=scRt.nd
 refine⟨_,aU (cJ (i:=5) nd rfl (Or.inl rfl) (dU (cC (iU oT hr rfl nT kT bT (A2o C B)) aA)))<|
  aU (gO (jZ PySem.F.plainAttrs_list PySem.F.slot_list_append PySem.F.type_list_append jT (pv 5) (cC (iU oT hr rfl nT kT bT (A7h C B)) aA)))<|
  aU (bQ (cQ (cS (aX aS.ok (hr.mono (by decide)) rfl aS.nm aS.kp aS.bd .nil bA (aE (pv 5) (aE (pv 3) aA))))) (aW (bB cT)) bO)<|
  aW (gO (jZ PySem.F.plainAttrs_list PySem.F.slot_list_append PySem.F.type_list_append jT (bM eO (pv 5) aH (fun _ _=>rfl)) (bU aH aA))),?_⟩
 intro D ps d1 d2 ld la lb o2 o4 o5 o6 g w' ns ms qa qb H hT D1 D2 hld hla hlb Sa Sb hD
 refine⟨ps,[.ref d1],hT,rfl,fun j y v e1 e2=> ?_,fun fl1 ps1 H1 h1 gr1 T1 R1=> ?_⟩
 ·match j with
  |0=>cases e1;cases e2;exact⟨0,rfl,rfl⟩
  |j+1=>cases e1
 have D11:=DlA.ext D1 (gr1.ext hT.at')
 refine tell_gen R1 (fun c' cl A' outer' s' E' hr'=>aX aF.ok ((hr'.deeper _).mono (by decide)) rfl aF.nm aF.kp aF.bd .nil jF (aE (pv 0) aA)) fun Q' E' hv hx=> ?_
 refine⟨_,rfl,.ref d1,rfl,D11.kn 4,fun z=>absurd ((gJ D11).symm.trans z) (by decide),fun _ p' g' w2 ns' e' D'=> ?_⟩
 cases e'
 obtain⟨eg,en⟩:=DlA.uniq D' D11
 subst eg
 subst en
 intro l q1 H3 fl s3 hl S1
 refine hv _ _ ?_
 refine⟨by show 1<=sizeLine;decide,fun lt hlt=> ?_⟩
 have s4:=aV (o:=.lst [.ref l]) hlt
 have hl4:=s4 _ _ hl
 have S14:=StAt.ext S1 s4.ext
 have T4:=(T1.same s3).same s4
 have gr4:Grow T H (upd H3 lt (.lst [.ref l])):=(gr1.same s3).same s4
 have hHl:H l=none:=gr1.free (by rw [hT.at'];simp) fl (by rw [T1.at'];simp)
 have hHlt:H lt=none:=(gr1.same s3).free (by rw [hT.at'];simp) hlt (by rw [(T1.same s3).at'];simp)
 have elt:(upd H3 lt (.lst [.ref l])) lt=some (.lst [.ref l]):=aJ
 have nlt:l≠lt:=bW hl hlt
 generalize upd H3 lt (.lst [.ref l])=H4 at hl4 S14 T4 gr4 elt
 refine⟨_,rfl,.inl ⟨rfl,_,SqL.of elt⟩,ps1,[.ref d2],T4,rfl,fun j y v e1 e2=> ?_,fun fl2 ps2 H5 h5 gr5 T5 R2=> ?_⟩
 ·match j with
  |0=>cases e1;cases e2;exact⟨1,rfl,rfl⟩
  |j+1=>cases e1
 have D22:=DlA.ext D2 ((gr4.trans gr5).ext hT.at')
 refine tell_gen R2 (fun c' cl A' outer' s' E' hr'=>aX aF.ok ((hr'.deeper _).mono (by decide)) rfl aF.nm aF.kp aF.bd .nil jF (aE (pv 0) aA)) fun Q' E' hv hx=> ?_
 refine⟨_,rfl,.ref d2,rfl,D22.kn 4,fun z=>absurd ((gJ D22).symm.trans z) (by decide),fun _ p' g2 w2 ms' e' D'=> ?_⟩
 cases e'
 obtain⟨eg,en⟩:=DlA.uniq D' D22
 subst eg
 subst en
 intro l2 q2 H6 fl2 s6 hl2 S2
 refine hv _ _ ?_
 have gr6:Grow T H H6:=(gr4.trans gr5).same s6
 have elt6:H6 lt=some (.lst [.ref l]):=s6 _ _ (gr5.lst T4.at' elt)
 have el6:H6 l=some (.lst (q1.map V.ref)):=s6 _ _ (gr5.lst T4.at' hl4)
 have S16:StAt H6 q1 _:=StAt.ext (StAt.ext S14 (gr5.ext T4.at')) s6.ext
 have T6:=T5.same s6
 have nl2:l2≠lt:=fun z=>by rw [z,gr5.lst T4.at' elt]at fl2;cases fl2
 refine⟨lt,_,_,rfl,rfl,elt6,by show 1<sizeLine;decide,?_⟩
 have x6:Ext H6 (upd H6 lt (.lst ([.ref l]++[.ref l2]))):=⟨fun b xs e=>by rw [aQ (fun z=>by rw [z,elt6]at e;cases e)];exact e,fun b xs e=>by
   by_cases z:b=lt
   ·rw [z];exact⟨_,aJ⟩
   ·rw [aQ z];exact⟨xs,e⟩,fun b xs e=>by rw [aQ (fun z=>by rw [z,elt6]at e;cases e)];exact e⟩
 have el7:(upd H6 lt (.lst ([.ref l]++[.ref l2]))) l=some (.lst (q1.map V.ref)):=by rw [aQ nlt];exact el6
 have el27:(upd H6 lt (.lst ([.ref l]++[.ref l2]))) l2=some (.lst (q2.map V.ref)):=by rw [aQ nl2];exact hl2
 have elt7:(upd H6 lt (.lst ([.ref l]++[.ref l2]))) lt=some (.lst ([.ref l]++[.ref l2])):=aJ
 have S17:=StAt.ext S16 x6
 have S27:=StAt.ext S2 x6
 have T7:TabI (upd H6 lt (.lst ([.ref l]++[.ref l2]))) T ps2 qR dO:=T6.put elt6
 have gr7:Grow T H (upd H6 lt (.lst ([.ref l]++[.ref l2]))):=gr6.put hHlt
 generalize upd H6 lt (.lst ([.ref l]++[.ref l2]))=H7 at x6 el7 el27 elt7 S17 S27 T7 gr7
 have h10:(bC pos g2).length<=10:=by rw [gH];exact D22.G.c10
 have z1:=kM (bC pos g2) ns' h10
 have z2:=kM (bC pos g2) ms' h10
 have sm:SameV H7 4 (.ref lt) (.ref ld):=.inr ⟨lt,ld,_,_,rfl,rfl,.inl ⟨elt7,gr7.lst hT.at' hld⟩,by show 2<=1000;decide,.cons (wD el7 (gr7.lst hT.at' hla) S17 (StAt.ext Sa (gr7.ext hT.at')) (by omega)) (.cons (wD el27 (gr7.lst hT.at' hlb) S27 (StAt.ext Sb (gr7.ext hT.at')) (by omega)) .nil)⟩
 refine⟨_,rfl,_,rfl,.ref lt,.ref ld,rfl,sm,fun H8 s8=> ⟨_,rfl,cO ?_⟩⟩
 have el8:=s8 _ _ el7
 refine⟨_,rfl,lt,_,0,.ref l,rfl,rfl,SqL.of (s8 _ _ elt7),bL (j:=0) rfl,.inl ⟨rfl,_,SqL.of el8⟩,l,_,_,rfl,rfl,el8,eI (by have e:q1.length=_:=Paired.length S17;rw [length_map];omega),?_⟩
 exact hD ps2 _ _ ((gr7.same s8).put hHl) ((T7.same s8).put el8)
end
end M46
namespace L2
open PySem PySem.Spec PyProof.Rows
theorem Fun.okC {P:Program}{w:World}{K:W.Frag}{mg:Str->Option Value}{base:Heap}{x qual:Str}{st:Stmt}{f c:Addr}{fd:FuncData}{N ps:List Str}{k:Nat}{sp:Sp}(F:Fun K x qual st f fd)(S:bV N ps (aK st))(hc:fd.code= .ref c)(len:∀vs H Q E,sp vs H Q E->vs.length=ps.length)
  (hbody:∀(A:Around)(outer:List Env)(s:Shared)(H:Hp)(vs:List V)(Q:VK)(E:XK),Room k (A.deeper (envOfC qual (aK st) s.heap.objs.size f (.ref c)))->sp vs H Q E->
   ∃t,PSs (cV CX0 P w K mg base N qual (aK st) f (.ref c) A outer s H E).nox (bJ st) t/\t {nx:=fun _ H'=>Q .non H',rt:=Q} (start N vs) H):FnOk P w K mg base CX0 (k+1) f fd ps sp:=by
 obtain⟨oc,od,kV,doc,pm,an,cdv,ct,osl,rfl,lk,hcd⟩:=F.ex
 have e:cdv= .ref c:=hc
 subst e
 refine sX lk hcd S len fun A outer s H vs Q E hr hsp=> ?_
 obtain⟨t,h,q⟩:=hbody A outer s H vs Q E hr hsp
 exact⟨t,h.nox,q⟩
end L2
namespace M46
open PySem L2 PyProof.Rows Grd Wlk Cyc Srt
theorem A3b (F1 F2:List aY):gU F1 F2=gU F2 F1:=Nat.add_comm _ _
def rB (T:Addr):Sp:=fun vs H Q _=> ∃d1 d2 ps g w ns ms,vs=[.ref d1,.ref d2]/\TabI H T ps qR dO/\DlA H d1 g w ns/\DlA H d2 g w ms/\∀ps' H',Grow T H H'->TabI H' T ps' qR dO->Q (.bl true) H'
section
variable {P:Program}{w:World}{K:W.Frag}{mg:Str->Option Value}{base:Heap}
variable {f c T:Addr}{A:Around}{outer:List Env}{s:Shared}{H0:Hp}{E:XK}
theorem A09 {gT gS gM gL cD:Addr}{dT dS dM dL:FuncData}(hr:Room 12 (XR P w K mg base f c A outer s H0 E).A)(C:W.CodeHd base c T)(B:cU mg base)
  (nT:mg "_law_told" =some (.ref gT))(kT:W.keepIn K (.ref gT)=true)(bT:L2.Binds K dT ["_law_call"] [])(oT:gW P w K mg base 12 gT dT ["_law_call"] (iE P w K mg base cD))
  (aS:At P w K mg base CX0 5 "_law_same" gS dS ["_law_thing_here","_law_due"] (lV 4))(aM:At P w K mg base (CX1 P w) 10 "fences_moved" gM dM ["one","other"] (jV cD))(aL:At P w K mg base CX0 3 "_law_moved" gL dL ["_law_mead_here","_law_one","_law_other"] pG):
  ∃tt,PSs (XR P w K mg base f c A outer s H0 E) ((bJ eM).drop 3) tt/\
  ∀(D:bK)(ps:Array Value)(d1 d2 a n m:Addr)(o3 o4 o5 o6:Option V)(g:bG)(w':Nat)(ns ms:List Int)(H:Hp),TabI H T ps qR dO->DlA H d1 g w' ns->DlA H d2 g w' ms->
   (∃a2,H d1=some (.tup [.ref a,.ref n])/\H d2=some (.tup [.ref a2,.ref m]))->GridAt H a g->H n=some (.tup (ns.map V.int))->H m=some (.tup (ms.map V.int))->
   (∀ps' H',Grow T H H'->TabI H' T ps' qR dO->D.rt (.bl true) H')->tt D [some (.ref d1),some (.ref d2),some (.ref a),o3,o4,o5,o6] H:=by
 have nd:=scRt.nd
 refine⟨_,aU (cJ (i:=6) nd rfl (Or.inl rfl) (aX aL.ok (hr.mono (by decide)) rfl aL.nm aL.kp aL.bd .nil bA (aE (pv 2) (fM (bM cY (pv 0) aH (fun _ _=>rfl)) (fM (bM cY (pv 1) aH (fun _ _=>rfl)) aA)))))<|
  aU (cJ (i:=5) nd rfl (Or.inl rfl) (dU (cC (iU oT hr rfl nT kT bT (A7c C B)) aA)))<|
  aU (gO (jZ PySem.F.plainAttrs_list PySem.F.slot_list_append PySem.F.type_list_append jT (pv 5) (cC (iU oT hr rfl nT kT bT (A3e C B)) aA)))<|
  aW (bB (aX aS.ok (hr.mono (by decide)) rfl aS.nm aS.kp aS.bd .nil bA (aE (pv 5) (pX (dU (aE (pv 6) (aE (pv 6) aA))) aA)))),?_⟩
 intro D ps d1 d2 a n m o3 o4 o5 o6 g w' ns ms H hT D1 D2 hd hA hn hm hD
 obtain⟨a2,hd1,hd2⟩:=hd
 refine⟨_,rfl,_,rfl,d1,_,1,.ref n,rfl,rfl,SqT.of hd1,bL (j:=1) rfl,_,rfl,d2,_,1,.ref m,rfl,rfl,SqT.of hd2,bL (j:=1) rfl,a,n,m,g,w',ns,ms,rfl,hA,D1.G,hn,D1.len,hm,D2.len,fun H1 s1=> ?_⟩
 have T1:=hT.same s1
 refine⟨ps,[.ref d1,.ref d2],T1,rfl,fun j y v e1 e2=> ?_,fun fl1 ps2 H2 h2 gr2 T2 R2=> ?_⟩
 ·match j with
  |0=>cases e1;cases e2;exact⟨0,rfl,rfl⟩
  |1=>cases e1;cases e2;exact⟨1,rfl,rfl⟩
  |j+2=>cases e1
 have D12:=DlA.ext (DlA.ext D1 s1.ext) (gr2.ext T1.at')
 have D22:=DlA.ext (DlA.ext D2 s1.ext) (gr2.ext T1.at')
 refine tell_gen R2 (fun c' cl A' outer' s' E' hr'=>aX aM.ok (hr'.deeper _) rfl aM.nm aM.kp aM.bd .nil jF (aE (pv 0) (aE (pv 1) aA))) fun Q' E' hv hx=> ?_
 refine⟨_,rfl,_,rfl,.ref d1,.ref d2,rfl,D12.kn 4,D22.kn 4,fun z=>absurd ((gJ D12).symm.trans z) (by decide),fun _ p1 g1 w1 ns1 e1 E1=> ⟨fun z=>absurd ((gJ D22).symm.trans z) (by decide),fun _ p2 k2 w2 ms1 e2 E2=> ?_⟩⟩
 cases e1
 cases e2
 obtain⟨eg,en⟩:=DlA.uniq E1 D12
 obtain⟨eg2,en2⟩:=DlA.uniq E2 D22
 subst eg2 en2
 subst eg en
 refine⟨rfl,fun z=>absurd rfl z,fun _ H3 s3=>hv _ _ ?_⟩
 refine⟨by show 1<=sizeLine;decide,fun lt hlt=> ?_⟩
 have T3:=T2.same s3
 have hHlt:H lt=none:=(((Grow.refl H).same s1).trans (gr2.same s3)).free (by rw [hT.at'];simp) hlt (by rw [T3.at'];simp)
 have s4:=aV (o:=.lst [.int (gU (bY (bC pos g1) ns1) (bY (bC pos g1) ms1):Nat)]) hlt
 have T4:=T3.same s4
 have gr4:=((((Grow.refl (T:=T) H).same s1).trans (gr2.same s3)).same s4)
 have elt:(upd H3 lt (.lst [.int (gU (bY (bC pos g1) ns1) (bY (bC pos g1) ms1):Nat)])) lt=some _:=aJ
 have D14:=DlA.ext (DlA.ext D12 s3.ext) s4.ext
 have D24:=DlA.ext (DlA.ext D22 s3.ext) s4.ext
 generalize hN:gU (bY (bC pos g1) ns1) (bY (bC pos g1) ms1)=N at*
 generalize upd H3 lt (.lst [.int (N:Nat)])=H4 at s4 T4 gr4 elt D14 D24
 refine⟨_,rfl,.inl ⟨rfl,_,SqL.of elt⟩,ps2,[.ref d1,.ref d2],T4,rfl,fun j y v e1 e2=> ?_,fun fl2 ps5 H5 h5 gr5 T5 R5=> ?_⟩
 ·match j with
  |0=>cases e1;cases e2;exact⟨0,rfl,rfl⟩
  |1=>cases e1;cases e2;exact⟨1,rfl,rfl⟩
  |j+2=>cases e1
 have D15:=DlA.ext D14 (gr5.ext T4.at')
 have D25:=DlA.ext D24 (gr5.ext T4.at')
 refine tell_gen R5 (fun c' cl A' outer' s' E' hr'=>aX aM.ok (hr'.deeper _) rfl aM.nm aM.kp aM.bd .nil jF (aE (pv 1) (aE (pv 0) aA))) fun Q' E' hv hx=> ?_
 refine⟨_,rfl,_,rfl,.ref d2,.ref d1,rfl,D25.kn 4,D15.kn 4,fun z=>absurd ((gJ D25).symm.trans z) (by decide),fun _ p1 k1 w1' ms2 e1 E3=> ⟨fun z=>absurd ((gJ D15).symm.trans z) (by decide),fun _ p2 k2 w2' ns2 e2 E4=> ?_⟩⟩
 cases e1
 cases e2
 obtain⟨eg,en⟩:=DlA.uniq E3 D25
 obtain⟨eg2,en2⟩:=DlA.uniq E4 D15
 subst eg2 en2
 subst eg en
 refine⟨rfl,fun z=>absurd rfl z,fun _ H6 s6=>hv _ _ ?_⟩
 rw [A3b,hN]
 have elt6:=s6 _ _ (gr5.lst T4.at' elt)
 have T6:=T5.same s6
 refine⟨lt,_,_,rfl,rfl,elt6,by show 1<sizeLine;decide,?_⟩
 have T7:TabI (upd H6 lt (.lst ([.int (N:Nat)]++[.int (N:Nat)]))) T ps5 qR dO:=T6.put elt6
 have gr7:Grow T H (upd H6 lt (.lst ([.int (N:Nat)]++[.int (N:Nat)]))):=((gr4.trans gr5).same s6).put hHlt
 have elt7:(upd H6 lt (.lst ([.int (N:Nat)]++[.int (N:Nat)]))) lt=some (.lst ([.int (N:Nat)]++[.int (N:Nat)])):=aJ
 generalize upd H6 lt (.lst ([.int (N:Nat)]++[.int (N:Nat)]))=H7 at T7 gr7 elt7
 refine⟨_,rfl,_,rfl,_,rfl,by show 2<=sizeLine;decide,fun l8 hl8=> ?_⟩
 have s8:=aV (o:=.lst [.int (N:Nat),.int (N:Nat)]) hl8
 refine⟨.ref lt,.ref l8,rfl,.inr ⟨lt,l8,_,_,rfl,rfl,.inl ⟨s8 _ _ elt7,aJ⟩,by show 2<=1000;decide,.cons (SameV.int _ _) (.cons (SameV.int _ _) .nil)⟩,fun H9 s9=> ?_⟩
 exact hD ps5 H9 ((gr7.same s8).same s9) ((T7.same s8).same s9)
theorem A2j {tl:TS}(T2:dY mg)(hl:PSs (XR P w K mg base f c A outer s H0 E) (fG (rtB 2)) tl):∃tt,PS (XR P w K mg base f c A outer s H0 E) (rtB 2) tt/\
  ∀(D:bK)(I:L2.St->Hp->Prop)(σ:L2.St)(H:Hp),I σ H->(∀i σ H D',I σ H->(∀σ' H',I σ' H'->D'.nx σ' H')->(∀v H',D'.rt v H'->D.rt v H')->D'.rt=D.rt->dW 4 (.int i) σ H fun σ2 H2=>tl D' σ2 H2)->(∀σ H,I σ H->D.nx σ H)->tt D σ H:=by
 have nd:=scRt.nd
 refine⟨_,iB PassesOwn.never rfl (kZ rfl T2.range (bU aH aA)) (bE (i:=4) nd rfl (Or.inl rfl)) hl,?_⟩
 intro D I σ H h0 hs hd
 refine⟨2,rfl,by decide,by decide,lB (n:=2) (fun _ σ H=>I σ H) h0 (fun i σ H _ h=> ?_) hd⟩
 exact hs _ σ H _ h (fun σ' H' z=>z) (fun v H' z=>z) rfl
theorem A8t:∃tt,PS (XR P w K mg base f c A outer s H0 E) (rtB 0) tt/\∀(D:bK)(d1 d2 a n:Addr)(o3 o4 o5 o6:Option V)(H:Hp),H d1=some (.tup [.ref a,.ref n])->D.nx [some (.ref d1),some (.ref d2),some (.ref a),o3,o4,o5,o6] H->tt D [some (.ref d1),some (.ref d2),none,o3,o4,o5,o6] H:=by
 have nd:=scRt.nd
 refine⟨_,cJ (i:=2) nd rfl (Or.inl rfl) (bM cY (pv 0) aH (fun _ _=>rfl)),?_⟩
 intro D d1 d2 a n o3 o4 o5 o6 H hd1 q
 exact⟨_,rfl,d1,_,0,.ref a,rfl,rfl,SqT.of hd1,bL (j:=0) rfl,q⟩
theorem A4p {gN:Addr}{dN:FuncData}(hr:Room 12 (XR P w K mg base f c A outer s H0 E).A)(aN:At P w K mg base CX0 2 "_law_fences" gN dN ["_law_mead_here","_law_numbers"] lO):∃tt,PS (XR P w K mg base f c A outer s H0 E) (rtB 1) tt/\
  ∀(D:bK)(d1 d2 a n a2 m:Addr)(o4 o5 o6:Option V)(g:bG)(w':Nat)(ns ms:List Int)(H:Hp),DlA H d1 g w' ns->DlA H d2 g w' ms->H d1=some (.tup [.ref a,.ref n])->H d2=some (.tup [.ref a2,.ref m])->GridAt H a g->H n=some (.tup (ns.map V.int))->H m=some (.tup (ms.map V.int))->
   (∀ld la lb qa qb H',Same H H'->H' ld=some (.lst [.ref la,.ref lb])->H' la=some (.lst ((qa:List Addr).map V.ref))->H' lb=some (.lst ((qb:List Addr).map V.ref))->StAt H' qa (bY (bC pos g) ns)->StAt H' qb (bY (bC pos g) ms)->D.nx [some (.ref d1),some (.ref d2),some (.ref a),some (.ref ld),o4,o5,o6] H')->
   tt D [some (.ref d1),some (.ref d2),some (.ref a),none,o4,o5,o6] H:=by
 have nd:=scRt.nd
 refine⟨_,(cJ (i:=3) nd rfl (Or.inl rfl) (dU (cC (aX aN.ok (hr.mono (by decide)) rfl aN.nm aN.kp aN.bd .nil bA (aE (pv 2) (fM (bM cY (pv 0) aH (fun _ _=>rfl)) aA))) (cC (aX aN.ok (hr.mono (by decide)) rfl aN.nm aN.kp aN.bd .nil bA (aE (pv 2) (fM (bM cY (pv 1) aH (fun _ _=>rfl)) aA))) aA)))),?_⟩
 intro D d1 d2 a n a2 m o4 o5 o6 g w' ns ms H D1 D2 hd1 hd2 hA hn hm hD
 refine⟨_,rfl,_,rfl,d1,_,1,.ref n,rfl,rfl,SqT.of hd1,bL (j:=1) rfl,a,n,g,w',ns,rfl,hA,D1.G,hn,D1.len,fun la qa H1 fa s1 ea Sa=> ?_⟩
 refine⟨_,rfl,_,rfl,d2,_,1,.ref m,rfl,rfl,SqT.of (s1 _ _ hd2),bL (j:=1) rfl,a,m,g,w',ms,rfl,hA.same s1,D1.G,s1 _ _ hm,D2.len,fun lb qb H2 fb s2 eb Sb=> ?_⟩
 refine⟨by show 2<=sizeLine;decide,fun ld hld=> ?_⟩
 have s3:=aV (o:=.lst [.ref la,.ref lb]) hld
 exact hD ld la lb qa qb _ ((s1.trans s2).trans s3) aJ (s3 _ _ (s2 _ _ ea)) (s3 _ _ eb) (StAt.ext (StAt.ext Sa s2.ext) s3.ext) (StAt.ext Sb s3.ext)
theorem A9u {f c T gT gS gF gM gL gN cD:Addr}{fd dT dS dF dM dL dN:FuncData}(F:Fun K "_law_right" "_law_right" eM f fd)(hc:fd.code= .ref c)(T2:dY mg)(C:W.CodeHd base c T)(B:cU mg base)
  (nT:mg "_law_told" =some (.ref gT))(kT:W.keepIn K (.ref gT)=true)(bT:L2.Binds K dT ["_law_call"] [])(oT:gW P w K mg base 12 gT dT ["_law_call"] (iE P w K mg base cD))
  (aS:At P w K mg base CX0 5 "_law_same" gS dS ["_law_thing_here","_law_due"] (lV 4))(aF:At P w K mg base (CX1 P w) 9 "fences_of" gF dF ["dealt"] (jY cD))(aM:At P w K mg base (CX1 P w) 10 "fences_moved" gM dM ["one","other"] (jV cD))(aL:At P w K mg base CX0 3 "_law_moved" gL dL ["_law_mead_here","_law_one","_law_other"] pG)
  (aN:At P w K mg base CX0 2 "_law_fences" gN dN ["_law_mead_here","_law_numbers"] lO):FnOk P w K mg base CX0 13 f fd ["_law_one","_law_other"] (rB T):=by
 refine F.okC scRt hc (fun vs H Q E h=> ?_) (fun A outer s H vs Q E hr h=> ?_)
 ·obtain⟨d1,d2,ps,g,w',ns,ms,rfl,_⟩:=h;rfl
 ·obtain⟨d1,d2,ps,g,w',ns,ms,rfl,hT,D1,D2,q⟩:=h
  have nd:=scRt.nd
  obtain⟨tl,hl,jl⟩:=A6p (P:=P) (w:=w) (K:=K) (mg:=mg) (base:=base) (f:=f) (c:=c) (T:=T) (A:=A) (outer:=outer) (s:=s) (H0:=H) (E:=E) hr C B nT kT bT oT aS aF
  obtain⟨tt,ht,jt⟩:=A09 (P:=P) (w:=w) (K:=K) (mg:=mg) (base:=base) (f:=f) (c:=c) (T:=T) (A:=A) (outer:=outer) (s:=s) (H0:=H) (E:=E) hr C B nT kT bT oT aS aM aL
  obtain⟨tf,hf,jf⟩:=A2j (P:=P) (w:=w) (K:=K) (mg:=mg) (base:=base) (f:=f) (c:=c) (A:=A) (outer:=outer) (s:=s) (H0:=H) (E:=E) T2 hl
  obtain⟨t0,h0,j0⟩:=A8t (P:=P) (w:=w) (K:=K) (mg:=mg) (base:=base) (f:=f) (c:=c) (A:=A) (outer:=outer) (s:=s) (H0:=H) (E:=E)
  obtain⟨t1,h1,j1⟩:=A4p (P:=P) (w:=w) (K:=K) (mg:=mg) (base:=base) (f:=f) (c:=c) (A:=A) (outer:=outer) (s:=s) (H0:=H) (E:=E) hr aN
  obtain⟨a,n,hd1,hA,hn⟩:=D1.ex
  obtain⟨a2,m,hd2,hA2,hm⟩:=D2.ex
  have e:bJ eM=rtB 0::rtB 1::rtB 2::(bJ eM).drop 3:=rfl
  rw [e]
  generalize rtB 0=st0 at h0
  generalize rtB 1=st1 at h1
  generalize (bJ eM).drop 3=rest at ht
  generalize rtB 2=st2 at hf
  refine⟨_,aU h0 (aU h1 (aU hf ht)),?_⟩
  refine j0 _ d1 d2 a n _ _ _ _ H hd1 ?_
  refine j1 _ d1 d2 a n a2 m _ _ _ g w' ns ms H D1 D2 hd1 hd2 hA hn hm fun ld la lb qa qb H1 s1 eld ela elb Sa Sb=> ?_
  have T1:=hT.same s1
  refine jf _ (fun σ H'=>(∃o4 o5,σ=[some (.ref d1),some (.ref d2),some (.ref a),some (.ref ld),o4,o5,none])/\Grow T H1 H'/\∃ps',TabI H' T ps' qR dO) _ H1 ⟨⟨_,_,rfl⟩,Grow.refl _,ps,T1⟩ ?_ ?_
  ·rintro i σ H2 D' ⟨⟨o4,o5,rfl⟩,gr,ps2,T2'⟩ hn' _ _
   have ex:=gr.ext T1.at'
   exact jl D' ps2 d1 d2 ld la lb _ _ _ _ g w' ns ms qa qb H2 T2' (DlA.ext (DlA.ext D1 s1.ext) ex) (DlA.ext (DlA.ext D2 s1.ext) ex) (gr.lst T1.at' eld) (gr.lst T1.at' ela) (gr.lst T1.at' elb) (StAt.ext Sa ex) (StAt.ext Sb ex) fun ps' o5' H' gr' T'=>hn' _ _ ⟨⟨_,_,rfl⟩,gr.trans gr',ps',T'⟩
  ·rintro σ H2 ⟨⟨o4,o5,rfl⟩,gr,ps2,T2'⟩
   have ex:=s1.ext.trans (gr.ext T1.at')
   exact jt _ ps2 d1 d2 a n m _ _ _ _ g w' ns ms H2 T2' (DlA.ext D1 ex) (DlA.ext D2 ex) ⟨a2,ex.tup _ _ hd1,ex.tup _ _ hd2⟩ (hA.ext ex) (ex.tup _ _ hn) (ex.tup _ _ hm) fun ps' H' gr' T'=>q ps' H' (((Grow.refl H).same s1).trans (gr.trans gr')) T'
end
theorem A0f {x:Int}(h:-2<=x/\x<=99):Grd.pos (fO x)=Grd.pos x:=by
 unfold fO Grd.pos
 by_cases e1:x= -1
 ·subst e1;rfl
 ·by_cases e2:x= -2
  ·subst e2;rfl
  ·rw [if_neg e1,if_neg e2]
   by_cases e3:x<99
   ·rw [if_pos e3,zjV (show 0<=x+1 by omega),zjV (show 0<=x by omega)]
   ·rw [if_neg e3,zjV (show(0:Int)<=98 by omega),zjV (show 0<=x by omega)]
theorem A4q {x:Int}(h:-2<=x/\x<=99):-2<=fO x/\fO x<=99:=by
 unfold fO
 split
 ·omega
 ·split
  ·omega
  ·split<;>omega
theorem A95 {x:Int}(h:-2<=x/\x<=99):fO x≠x:=by
 unfold fO
 split
 ·omega
 ·split
  ·omega
  ·split<;>omega
theorem A3y {g:bG}{w:Nat}(G:dX g w):∃x r g',g=(x::r)::g'/\jD g=(fO x::r)::g'/\-2<=x/\x<=99:=by
 have h1:=G.h1
 obtain⟨r0,g',rfl⟩:=exists_cons_of_ne_nil (show g≠[]from fun z=>by rw [z]at h1;simp at h1)
 have hw0:=G.len r0 zjR
 have hw1:=G.w1
 obtain⟨x,r,rfl⟩:=exists_cons_of_ne_nil (show r0≠[]from fun z=>by rw [z]at hw0;simp at hw0;omega)
 exact⟨x,r,g',rfl,rfl,G.num _ zjR x zjR⟩
theorem yC {g:bG}{w:Nat}(G:dX g w):dX (jD g) w/\(bC pos (jD g)).length=(bC pos g).length/\(jD g).map List.length=g.map List.length/\jD g≠g:=by
 obtain⟨x,r,g',rfl,e,hx⟩:=A3y G
 rw [e]
 have ec:eK ((fO x::r)::g')=eK ((x::r)::g'):=by
  unfold eK eV
  rw [map_cons,map_cons,filter_cons,filter_cons,A0f hx]
  split<;>simp
 refine⟨⟨G.h1,G.h4,G.w1,G.w5,fun xs h=> ?_,fun xs h n hn=> ?_,by rw [ec];exact G.c1,by rw [ec];exact G.c10⟩,by rw [gH,gH,ec],rfl,fun z=> ?_⟩
 ·rcases mem_cons.mp h with rfl|h
  ·exact G.len (x::r) zjR
  ·exact G.len xs (zjS _ h)
 ·rcases mem_cons.mp h with rfl|h
  ·rcases mem_cons.mp hn with rfl|hn
   ·exact A4q hx
   ·exact G.num _ zjR n (zjS _ hn)
  ·exact G.num xs (zjS _ h) n hn
 ·injection z with z _
  injection z with z _
  exact A95 hx z
theorem oH {H H1:Hp}{a:Addr}{xs:List V}(k:KnA H (.ref a))(e:Ext H H1)(h:H1 a=some (.tup xs)):H a=some (.tup xs)/\∀x∈xs,KnA H x:=by
 have key:∀n,H a=some (.tup xs)/\∀x∈xs,Kn H n x:=fun n=>by
  rcases k (n+1)with⟨ys,z⟩| ⟨kvs,z⟩| ⟨ys,z,_,hx⟩
  ·obtain⟨_,z'⟩:=e.lst _ _ z
   rw [h]at z';cases z'
  ·have:=e.dct _ _ z
   rw [h]at this;cases this
  ·have:=e.tup _ _ z
   rw [h]at this;cases this
   exact⟨z,hx⟩
 exact⟨(key 0).1,fun x hx n=>(key n).2 x hx⟩
theorem A5j {H H1:Hp}{bs:List Addr}{g:bG}(e:Ext H H1)(k:∀x∈bs.map V.ref,KnA H x)(h:RowsG H1 bs g):RowsG H bs g:=by
 induction h with
 |nil=>exact .nil
 |cons r t ih=>exact .cons (oH (k _ zjR) e r).1 (ih fun x hx=>k x (zjS _ hx))
theorem mZ {H H1:Hp}{v:V}(k:KnA H v)(e:Ext H H1)(h:dealtV H v=false):dealtV H1 v=false:=by
 cases z:dealtV H1 v with
 |false=>rfl
 |true=>
  obtain⟨p,g,w,ns,rfl,D⟩:=nF z
  obtain⟨a,n,hp,⟨bs,ha,hG⟩,hn⟩:=D.ex
  obtain⟨hp',k1⟩:=oH k e hp
  obtain⟨ha',k2⟩:=oH (k1 _ zjR) e ha
  obtain⟨hn',_⟩:=oH (k1 (.ref n) (by simp)) e hn
  have:dealtV H (.ref p)=true:=gJ ⟨D.G,⟨a,n,hp',⟨bs,ha',A5j e k2 hG⟩,hn'⟩,D.len,D.num⟩
  rw [h]at this;cases this
abbrev eT:Stmt:=top 46
abbrev sJ:List Str:=["_law_script","_law_cell_here","_law_pen_here","_law_mead_here","_law_one","_law_other","_law_strange","_law_thing_here","_law_told_here","_law_due"]
abbrev lawF (i:Nat):Stmt:=(fG ((bJ eT).getD 0 pas)).getD i pas
abbrev lawI (i:Nat):Stmt:=(fG (lawF 6)).getD i pas
def uE (e:Expr):Expr:=match e with| .Compare (.Call _ (l::_) _ _) _ _ _=>l|_=> .Constant .none 0 ⟨0,0,0,0⟩
def oP (s:Stmt):Expr:=match s with| .If (.BoolOp _ [_,e] _) _ _ _=>uE e| .If e _ _ _=>uE e|_=> .Constant .none 0 ⟨0,0,0,0⟩
abbrev ln1:Expr:=oP (lawF 5)
abbrev ln2:Expr:=oP (lawI 2)
abbrev ln3:Expr:=oP (lawI 3)
abbrev ln4:Expr:=oP (lawI 4)
abbrev cX:List Pos:=[bR ln1,bR ln2,bR ln3,bR ln4]
abbrev qL:Str:="law.<locals>.<lambda>"
section
variable {P:Program}{w:World}{K:W.Frag}{mg:Str->Option Value}{base:Heap}
theorem scLaw:bV sJ ["_law_script"] (aK eT):=by ac_rfl
abbrev XL (P:Program)(w:World)(K:W.Frag)(mg:Str->Option Value)(base:Heap)(f c:Addr)(A:Around)(outer:List Env)(s:Shared)(H:Hp)(E:XK):Cx:=(cV CX0 P w K mg base sJ "law" (aK eT) f (.ref c) A outer s H E).nox
variable {f c T:Addr}{A:Around}{outer:List Env}{s:Shared}{H0:Hp}{E:XK}
theorem A6d:∀y∈(["_law_one","_law_strange"]:List Str),(eX ln1).names.lookup y=some .free/\(aK eT).names.lookup y=some .cell:=by decide +kernel
theorem A00:∀y∈(["_law_thing_here"]:List Str),(eX ln2).names.lookup y=some .free/\(aK eT).names.lookup y=some .cell:=by decide +kernel
theorem A7a:∀y∈(["_law_one","_law_thing_here"]:List Str),(eX ln3).names.lookup y=some .free/\(aK eT).names.lookup y=some .cell:=by decide +kernel
theorem A2x:∀y∈(["_law_one","_law_thing_here"]:List Str),(eX ln4).names.lookup y=some .free/\(aK eT).names.lookup y=some .cell:=by decide +kernel
theorem A48:∀q∈cX,q≠bR ln1->((((bR ln1).line:Nat):Int)==((q.line:Nat):Int)&&(((bR ln1).col:Nat):Int)==((q.col:Nat):Int):Bool)=false:=by decide +kernel
theorem A0w:∀q∈cX,q≠bR ln2->((((bR ln2).line:Nat):Int)==((q.line:Nat):Int)&&(((bR ln2).col:Nat):Int)==((q.col:Nat):Int):Bool)=false:=by decide +kernel
theorem A4r:∀q∈cX,q≠bR ln3->((((bR ln3).line:Nat):Int)==((q.line:Nat):Int)&&(((bR ln3).col:Nat):Int)==((q.col:Nat):Int):Bool)=false:=by decide +kernel
theorem A2v:∀q∈cX,q≠bR ln4->((((bR ln4).line:Nat):Int)==((q.line:Nat):Int)&&(((bR ln4).col:Nat):Int)==((q.col:Nat):Int):Bool)=false:=by decide +kernel
theorem A4d (C:W.CodeHd base c T)(B:cU mg base):iH (XL P w K mg base f c A outer s H0 E) c T qL cX (iT ln1 (fH eT)) (iW ln1) (eX ln1) (bR ln1) ["_law_one","_law_strange"]:=
 ⟨rfl,rfl,rfl,rfl,C,B,zjR,A48,by first|rfl|kernel_rfl,rfl,fun _ _ _ _=>rfl,rfl,rfl,rfl,by decide +kernel,by decide +kernel,A6d⟩
theorem A8z (C:W.CodeHd base c T)(B:cU mg base):iH (XL P w K mg base f c A outer s H0 E) c T qL cX (iT ln2 (fH eT)) (iW ln2) (eX ln2) (bR ln2) ["_law_thing_here"]:=
 ⟨rfl,rfl,rfl,rfl,C,B,zjS _ zjR,A0w,by first|rfl|kernel_rfl,rfl,fun _ _ _ _=>rfl,rfl,rfl,rfl,by decide +kernel,by decide +kernel,A00⟩
theorem A39 (C:W.CodeHd base c T)(B:cU mg base):iH (XL P w K mg base f c A outer s H0 E) c T qL cX (iT ln3 (fH eT)) (iW ln3) (eX ln3) (bR ln3) ["_law_one","_law_thing_here"]:=
 ⟨rfl,rfl,rfl,rfl,C,B,zjS _ (zjS _ zjR),A4r,by first|rfl|kernel_rfl,rfl,fun _ _ _ _=>rfl,rfl,rfl,rfl,by decide +kernel,by decide +kernel,A7a⟩
theorem A1y (C:W.CodeHd base c T)(B:cU mg base):iH (XL P w K mg base f c A outer s H0 E) c T qL cX (iT ln4 (fH eT)) (iW ln4) (eX ln4) (bR ln4) ["_law_one","_law_thing_here"]:=
 ⟨rfl,rfl,rfl,rfl,C,B,zjS _ (zjS _ (zjS _ zjR)),A2v,by first|rfl|kernel_rfl,rfl,fun _ _ _ _=>rfl,rfl,rfl,rfl,by decide +kernel,by decide +kernel,A2x⟩
end
section
variable {P:Program}{w:World}{K:W.Frag}{mg:Str->Option Value}{base:Heap}
variable {f c T:Addr}{A:Around}{outer:List Env}{s:Shared}{H0:Hp}{E:XK}
theorem A7g {gI gG:Addr}{dI dG:FuncData}(hr:Room 12 (XL P w K mg base f c A outer s H0 E).A)(TX:Txt mg)(aI:At P w K mg base CX0 7 "is_dealt" gI dI ["thing"] iL)(aG:At P w K mg base CX0 1 "_law_good" gG dG ["_law_thing_here"] iL):
  ∃t0 t1,PS (XL P w K mg base f c A outer s H0 E) (lawI 0) t0/\PS (XL P w K mg base f c A outer s H0 E) (lawI 1) t1/\
  (∀(D:bK)(o0 o1 o2 o3 o4 o5 o6 o8 o9:Option V)(v:V)(H:Hp),KnA H v->(∀H',Same H H'->D.nx [o0,o1,o2,o3,o4,o5,o6,some v,some (.bl (dealtV H v)),some (.bl (dealtV H v))] H')->t0 D [o0,o1,o2,o3,o4,o5,o6,some v,o8,o9] H)/\
  (∀(D:bK)(o0 o1 o2 o3 o4 o5 o6 o7:Option V)(b:Bool)(H:Hp),D.nx [o0,o1,o2,o3,o4,o5,o6,o7,some (.bl b),some (.bl b)] H->t1 D [o0,o1,o2,o3,o4,o5,o6,o7,some (.bl b),some (.bl b)] H):=by
 have nd:=scLaw.nd
 refine⟨_,_,nC (i:=8) (j:=9) rfl nd rfl rfl (by decide) rfl rfl (cC (aX aI.ok (hr.mono (by decide)) rfl aI.nm aI.kp aI.bd .nil bA (aE (pv 7) aA)) (cC (aX aG.ok (hr.mono (by decide)) rfl aG.nm aG.kp aG.bd .nil bA (aE (pv 7) aA)) aA)) rfl,
  bQ (PW.pt (fU (cQ (cS (bI eW rfl TX.isinstance boot_isinstance (aE (pv 8) (aE (dQ (v:=.ty "bool") rfl TX.bool boot_bool rfl) aA))))) (iP (bN gA (pv 8) (pv 9) (nomark _))))) (aW (bB cT)) bO,?_,?_⟩
 ·intro D o0 o1 o2 o3 o4 o5 o6 o8 o9 v H kv hD
  refine⟨_,rfl,v,rfl,kv 4,fun H1 s1=> ?_⟩
  refine⟨_,rfl,v,rfl,(kv.ext s1.ext) 4,fun H2 s2=> ?_⟩
  rw [Same.dealtV s1 (kv 3)]
  exact⟨_,_,rfl,hD H2 (s1.trans s2)⟩
 ·intro D o0 o1 o2 o3 o4 o5 o6 o7 b H hD
  refine⟨_,rfl,_,"bool",.type "bool",true,rfl,.bl _,A5d _,_,rfl,cO ?_⟩
  exact⟨_,rfl,_,rfl,rfl,_,rfl,tI rfl hD⟩
theorem A7d {gT gF cD:Addr}{dT dF:FuncData}(hr:Room 12 (XL P w K mg base f c A outer s H0 E).A)(C:W.CodeHd base c T)(B:cU mg base)
  (nT:mg "_law_told" =some (.ref gT))(kT:W.keepIn K (.ref gT)=true)(bT:L2.Binds K dT ["_law_call"] [])(oT:gW P w K mg base 12 gT dT ["_law_call"] (iE P w K mg base cD))
  (aF:At P w K mg base (CX1 P w) 9 "fences_of" gF dF ["dealt"] (jY cD)):
  ∃tt,PS (XL P w K mg base f c A outer s H0 E) (lawI 2) tt/\
  ∀(D:bK)(ps:Array Value)(d1:Addr)(o0 o1 o2 o3 o5 o6 o8:Option V)(v:V)(b:Bool)(g:bG)(w':Nat)(ns:List Int)(H:Hp),TabI H T ps qL cX->DlA H d1 g w' ns->KnA H v->(b=false->dealtV H v=false)->
   (∀ps' H',Grow T H H'->TabI H' T ps' qL cX->D.nx [o0,o1,o2,o3,some (.ref d1),o5,o6,some v,o8,some (.bl b)] H')->tt D [o0,o1,o2,o3,some (.ref d1),o5,o6,some v,o8,some (.bl b)] H:=by
 refine⟨_,bQ (PW.pt (jC (cQ (cS (pv 9))) (iS (bN gA (iU oT hr rfl nT kT bT (A8z C B)) iI (nomark _))))) (aW (bB cT)) bO,?_⟩
 intro D ps d1 o0 o1 o2 o3 o5 o6 o8 v b g w' ns H hT D1 kv hb hD
 refine⟨_,rfl,_,rfl,?_⟩
 cases b with
 |true=>exact cO (cO (hD ps H (Grow.refl H) hT))
 |false=>
 refine cN ⟨ps,[v],hT,rfl,fun j y v e1 e2=> ?_,fun fl1 ps2 H2 h2 gr2 T2 R2=> ?_⟩
 ·match j with
  |0=>cases e1;cases e2;exact⟨7,rfl,rfl⟩
  |j+1=>cases e1
 have D12:=DlA.ext D1 (gr2.ext hT.at')
 have k2:=kv.ext (gr2.ext hT.at')
 have dn:=mZ kv (gr2.ext hT.at') (hb rfl)
 refine tell_gen R2 (fun c' cl A' outer' s' E' hr'=>aX aF.ok ((hr'.deeper _).mono (by decide)) rfl aF.nm aF.kp aF.bd .nil jF (aE (pv 0) aA)) fun Q' E' hv hx=> ?_
 have fin:∀H',Same H2 H'->E' (.ref cD) none H':=fun H' s'=>hx H' fun H3 s3=> ⟨rfl,_,rfl,cO (hD ps2 H3 (gr2.same (s'.trans s3)) (T2.same (s'.trans s3)))⟩
 exact⟨_,rfl,v,rfl,k2 4,fun _=>fin,fun z=>absurd (dn.symm.trans z) (by decide)⟩
theorem A3d {gT gF cD:Addr}{dT dF:FuncData}(hr:Room 12 (XL P w K mg base f c A outer s H0 E).A)(C:W.CodeHd base c T)(B:cU mg base)
  (nT:mg "_law_told" =some (.ref gT))(kT:W.keepIn K (.ref gT)=true)(bT:L2.Binds K dT ["_law_call"] [])(oT:gW P w K mg base 12 gT dT ["_law_call"] (iE P w K mg base cD))
  (aF:At P w K mg base (CX1 P w) 10 "fences_moved" gF dF ["one","other"] (jV cD)):
  ∃tt,PS (XL P w K mg base f c A outer s H0 E) (lawI 3) tt/\
  ∀(D:bK)(ps:Array Value)(d1:Addr)(o0 o1 o2 o3 o5 o6 o8:Option V)(v:V)(b:Bool)(g:bG)(w':Nat)(ns:List Int)(H:Hp),TabI H T ps qL cX->DlA H d1 g w' ns->KnA H v->(b=false->dealtV H v=false)->
   (∀ps' H',Grow T H H'->TabI H' T ps' qL cX->D.nx [o0,o1,o2,o3,some (.ref d1),o5,o6,some v,o8,some (.bl b)] H')->tt D [o0,o1,o2,o3,some (.ref d1),o5,o6,some v,o8,some (.bl b)] H:=by
 refine⟨_,bQ (PW.pt (jC (cQ (cS (pv 9))) (iS (bN gA (iU oT hr rfl nT kT bT (A39 C B)) iI (nomark _))))) (aW (bB cT)) bO,?_⟩
 intro D ps d1 o0 o1 o2 o3 o5 o6 o8 v b g w' ns H hT D1 kv hb hD
 refine⟨_,rfl,_,rfl,?_⟩
 cases b with
 |true=>exact cO (cO (hD ps H (Grow.refl H) hT))
 |false=>
 refine cN ⟨ps,[.ref d1,v],hT,rfl,fun j y v e1 e2=> ?_,fun fl1 ps2 H2 h2 gr2 T2 R2=> ?_⟩
 ·match j with
  |0=>cases e1;cases e2;exact⟨4,rfl,rfl⟩
  |1=>cases e1;cases e2;exact⟨7,rfl,rfl⟩
  |j+2=>cases e1
 have D12:=DlA.ext D1 (gr2.ext hT.at')
 have k2:=kv.ext (gr2.ext hT.at')
 have dn:=mZ kv (gr2.ext hT.at') (hb rfl)
 refine tell_gen R2 (fun c' cl A' outer' s' E' hr'=>aX aF.ok (hr'.deeper _) rfl aF.nm aF.kp aF.bd .nil jF (aE (pv 0) (aE (pv 1) aA))) fun Q' E' hv hx=> ?_
 have fin:∀H',Same H2 H'->E' (.ref cD) none H':=fun H' s'=>hx H' fun H3 s3=> ⟨rfl,_,rfl,cO (hD ps2 H3 (gr2.same (s'.trans s3)) (T2.same (s'.trans s3)))⟩
 exact⟨_,rfl,_,rfl,.ref d1,v,rfl,D12.kn 4,k2 4,fun z=>absurd ((gJ D12).symm.trans z) (by decide),fun _ p1 g1 w1 ns1 e1 E1=> ⟨fun _=>fin,fun z=>absurd (dn.symm.trans z) (by decide)⟩⟩
theorem A53 {gT gF cD:Addr}{dT dF:FuncData}(hr:Room 12 (XL P w K mg base f c A outer s H0 E).A)(C:W.CodeHd base c T)(B:cU mg base)
  (nT:mg "_law_told" =some (.ref gT))(kT:W.keepIn K (.ref gT)=true)(bT:L2.Binds K dT ["_law_call"] [])(oT:gW P w K mg base 12 gT dT ["_law_call"] (iE P w K mg base cD))
  (aF:At P w K mg base (CX1 P w) 10 "fences_moved" gF dF ["one","other"] (jV cD)):
  ∃tt,PS (XL P w K mg base f c A outer s H0 E) (lawI 4) tt/\
  ∀(D:bK)(ps:Array Value)(d1:Addr)(o0 o1 o2 o3 o5 o6 o8:Option V)(v:V)(b:Bool)(g:bG)(w':Nat)(ns:List Int)(H:Hp),TabI H T ps qL cX->DlA H d1 g w' ns->KnA H v->(b=false->dealtV H v=false)->
   (∀ps' H',Grow T H H'->TabI H' T ps' qL cX->D.nx [o0,o1,o2,o3,some (.ref d1),o5,o6,some v,o8,some (.bl b)] H')->tt D [o0,o1,o2,o3,some (.ref d1),o5,o6,some v,o8,some (.bl b)] H:=by
 refine⟨_,bQ (PW.pt (jC (cQ (cS (pv 9))) (iS (bN gA (iU oT hr rfl nT kT bT (A1y C B)) iI (nomark _))))) (aW (bB cT)) bO,?_⟩
 intro D ps d1 o0 o1 o2 o3 o5 o6 o8 v b g w' ns H hT D1 kv hb hD
 refine⟨_,rfl,_,rfl,?_⟩
 cases b with
 |true=>exact cO (cO (hD ps H (Grow.refl H) hT))
 |false=>
 refine cN ⟨ps,[.ref d1,v],hT,rfl,fun j y v e1 e2=> ?_,fun fl1 ps2 H2 h2 gr2 T2 R2=> ?_⟩
 ·match j with
  |0=>cases e1;cases e2;exact⟨4,rfl,rfl⟩
  |1=>cases e1;cases e2;exact⟨7,rfl,rfl⟩
  |j+2=>cases e1
 have D12:=DlA.ext D1 (gr2.ext hT.at')
 have k2:=kv.ext (gr2.ext hT.at')
 have dn:=mZ kv (gr2.ext hT.at') (hb rfl)
 refine tell_gen R2 (fun c' cl A' outer' s' E' hr'=>aX aF.ok (hr'.deeper _) rfl aF.nm aF.kp aF.bd .nil jF (aE (pv 1) (aE (pv 0) aA))) fun Q' E' hv hx=> ?_
 have fin:∀H',Same H2 H'->E' (.ref cD) none H':=fun H' s'=>hx H' fun H3 s3=> ⟨rfl,_,rfl,cO (hD ps2 H3 (gr2.same (s'.trans s3)) (T2.same (s'.trans s3)))⟩
 exact⟨_,rfl,_,rfl,v,.ref d1,rfl,k2 4,D12.kn 4,fun _=>fin,fun z=>absurd (dn.symm.trans z) (by decide)⟩
end
section
variable {P:Program}{w:World}{K:W.Frag}{mg:Str->Option Value}{base:Heap}
variable {f c T:Addr}{A:Around}{outer:List Env}{s:Shared}{H0:Hp}{E:XK}
structure Calls (P:Program)(w:World)(K:W.Frag)(mg:Str->Option Value)(base:Heap)(cD T1:Addr):Prop where
 cell:∃g d,At P w K mg base CX0 1 "_law_cell" g d ["_law_script","_law_k"] (tM K)
 pen:∃g d,At P w K mg base CX0 1 "_law_pen" g d ["_law_cell_here"] qP
 mead:∃g d,At P w K mg base CX0 2 "_law_mead" g d ["_law_pen_here","_law_most"] tU
 dealt:∃g d,At P w K mg base CX0 2 "_law_dealt" g d ["_law_pen_here","_law_mead_here"] sC
 right:∃g d,At P w K mg base CX0 13 "_law_right" g d ["_law_one","_law_other"] (rB T1)
 other:∃g d,At P w K mg base CX0 1 "_law_other_mead" g d ["_law_mead_here"] qN
 told:∃g d,mg "_law_told" =some (.ref g)/\W.keepIn K (.ref g)=true/\L2.Binds K d ["_law_call"] []/\gW P w K mg base 12 g d ["_law_call"] (iE P w K mg base cD)
 thing:∃g d,At P w K mg base CX0 9 "_law_thing" g d ["_law_pen_here","_law_deep"] (oK 0)
 bent:∃g d,At P w K mg base CX0 2 "_law_bent" g d ["_law_pen_here","_law_dealt_here"] rX
 isd:∃g d,At P w K mg base CX0 7 "is_dealt" g d ["thing"] iL
 good:∃g d,At P w K mg base CX0 1 "_law_good" g d ["_law_thing_here"] iL
 fences:∃g d,At P w K mg base (CX1 P w) 9 "fences_of" g d ["dealt"] (jY cD)
 moved:∃g d,At P w K mg base (CX1 P w) 10 "fences_moved" g d ["one","other"] (jV cD)
variable {cD T1:Addr}
theorem A8j (hr:Room 13 (XL P w K mg base f c A outer s H0 E).A)(TX:Txt mg)(C:W.CodeHd base c T)(B:cU mg base)(L:Calls P w K mg base cD T1):
  ∃tt,PSs (XL P w K mg base f c A outer s H0 E) (fG (lawF 6)) tt/\
  ∀(D:bK)(ps:Array Value)(d1:Addr)(o0 o1 o2 o3 o5 o6 o8 o9:Option V)(v:V)(g:bG)(w':Nat)(ns:List Int)(H:Hp),TabI H T ps qL cX->DlA H d1 g w' ns->KnA H v->
   (∀ps' o8 o9 H',Grow T H H'->TabI H' T ps' qL cX->D.nx [o0,o1,o2,o3,some (.ref d1),o5,o6,some v,o8,o9] H')->tt D [o0,o1,o2,o3,some (.ref d1),o5,o6,some v,o8,o9] H:=by
 have r12:Room 12 (XL P w K mg base f c A outer s H0 E).A:=hr.mono (by decide)
 obtain⟨gT,dT,nT,kT,bT,oT⟩:=L.told
 obtain⟨_,_,aI⟩:=L.isd
 obtain⟨_,_,aG⟩:=L.good
 obtain⟨_,_,aF⟩:=L.fences
 obtain⟨_,_,aM⟩:=L.moved
 obtain⟨t0,t1,h0,h1,j0,j1⟩:=A7g (P:=P) (w:=w) (K:=K) (mg:=mg) (base:=base) (f:=f) (c:=c) (A:=A) (outer:=outer) (s:=s) (H0:=H0) (E:=E) r12 TX aI aG
 obtain⟨t2,h2,j2⟩:=A7d (P:=P) (w:=w) (K:=K) (mg:=mg) (base:=base) (f:=f) (c:=c) (T:=T) (A:=A) (outer:=outer) (s:=s) (H0:=H0) (E:=E) r12 C B nT kT bT oT aF
 obtain⟨t3,h3,j3⟩:=A3d (P:=P) (w:=w) (K:=K) (mg:=mg) (base:=base) (f:=f) (c:=c) (T:=T) (A:=A) (outer:=outer) (s:=s) (H0:=H0) (E:=E) r12 C B nT kT bT oT aM
 obtain⟨t4,h4,j4⟩:=A53 (P:=P) (w:=w) (K:=K) (mg:=mg) (base:=base) (f:=f) (c:=c) (T:=T) (A:=A) (outer:=outer) (s:=s) (H0:=H0) (E:=E) r12 C B nT kT bT oT aM
 have e:fG (lawF 6)=[lawI 0,lawI 1,lawI 2,lawI 3,lawI 4]:=rfl
 rw [e]
 generalize lawI 0=st0 at h0⊢
 generalize lawI 1=st1 at h1⊢
 generalize lawI 2=st2 at h2⊢
 generalize lawI 3=st3 at h3⊢
 generalize lawI 4=st4 at h4⊢
 refine⟨_,aU h0 (aU h1 (aU h2 (aU h3 (aW h4)))),?_⟩
 intro D ps d1 o0 o1 o2 o3 o5 o6 o8 o9 v g w' ns H hT D1 kv hD
 refine j0 _ _ _ _ _ _ _ _ _ _ v H kv fun H1 s1=> ?_
 have e1:dealtV H1 v=dealtV H v:=Same.dealtV s1 (kv 3)
 have k1:=kv.ext s1.ext
 have D11:=DlA.ext D1 s1.ext
 refine j1 _ _ _ _ _ _ _ _ _ _ H1 ?_
 refine j2 _ ps d1 _ _ _ _ _ _ _ v _ g w' ns H1 (hT.same s1) D11 k1 (fun z=>e1.trans z) fun ps2 H2 g2 T2=> ?_
 have x2:=g2.ext (hT.same s1).at'
 refine j3 _ ps2 d1 _ _ _ _ _ _ _ v _ g w' ns H2 T2 (DlA.ext D11 x2) (k1.ext x2) (fun z=>mZ k1 x2 (e1.trans z)) fun ps3 H3 g3 T3=> ?_
 have x3:=x2.trans (g3.ext T2.at')
 refine j4 _ ps3 d1 _ _ _ _ _ _ _ v _ g w' ns H3 T3 (DlA.ext D11 x3) (k1.ext x3) (fun z=>mZ k1 x3 (e1.trans z)) fun ps4 H4 g4 T4=> ?_
 exact hD ps4 _ _ H4 (((((Grow.refl H).same s1).trans g2).trans g3).trans g4) T4
theorem A32:(["_law_lap","_law_pen_here","_law_one"]:List Str).Nodup:=by decide +kernel
theorem A01 (hr:Room 13 (XL P w K mg base f c A outer s H0 E).A)(TX:Txt mg)(T2x:dY mg)(C:W.CodeHd base c T)(B:cU mg base)(L:Calls P w K mg base cD T1):
  ∃tt,PS (XL P w K mg base f c A outer s H0 E) (lawF 6) tt/\
  ∀(D:bK)(ps:Array Value)(p d1 d3:Addr)(o0 o1 o3 o5 o7 o8 o9:Option V)(g:bG)(w':Nat)(ns:List Int)(H:Hp),TabI H T ps qL cX->PenAt H p->DlA H d1 g w' ns->KnA H (.ref d3)->
   (∀ps' o7 o8 o9 H1 H',Stp p H H1->Grow T H1 H'->TabI H1 T ps qL cX->TabI H' T ps' qL cX->D.nx [o0,o1,some (.ref p),o3,some (.ref d1),o5,some (.ref d3),o7,o8,o9] H')->tt D [o0,o1,some (.ref p),o3,some (.ref d1),o5,some (.ref d3),o7,o8,o9] H:=by
 have nd:=scLaw.nd
 have r2:Room 2 (XL P w K mg base f c A outer s H0 E).A:=hr.mono (by decide)
 have r9:Room 9 (XL P w K mg base f c A outer s H0 E).A:=hr.mono (by decide)
 obtain⟨_,_,aT⟩:=L.thing
 obtain⟨_,_,aB⟩:=L.bent
 obtain⟨ti,hi,ji⟩:=A8j (P:=P) (w:=w) (K:=K) (mg:=mg) (base:=base) (f:=f) (c:=c) (T:=T) (A:=A) (outer:=outer) (s:=s) (H0:=H0) (E:=E) hr TX C B L
 refine⟨_,iB PassesOwn.never rfl (jK (bF pT (dU (aE (pv 4) (cC (aX aT.ok r9 rfl aT.nm aT.kp aT.bd .nil bA (aE (pv 2) (bU aH aA))) (aE (pv 6) aA))))
  (gY (aK eT).names sJ ["_law_lap"] [("_law_pen_here",2),("_law_one",4)] rfl (kZ rfl T2x.range (bU aH aA)) rfl rfl rfl (by decide +kernel)
   (fun Z=>bE (i:=0) A32 rfl (Or.inl rfl)) (fun Z=>fR) (fun Z=>aX aB.ok r2 rfl aB.nm aB.kp aB.bd .nil bA (aE (pv 1) (aE (pv 2) aA)))))) (bE (i:=7) nd rfl (Or.inr rfl)) hi,?_⟩
 intro D ps p d1 d3 o0 o1 o3 o5 o7 o8 o9 g w' ns H hT hp D1 k3 hD
 refine⟨_,rfl,_,rfl,p,rfl,hp,fun v H1 st1 kv=> ?_⟩
 refine⟨_,rfl,by show 3<=sizeLine;decide,fun la hla=> ?_⟩
 have s2:=aV (o:=.lst [.ref d1,v,.ref d3]) hla
 have st2:=st1.same s2
 have npa:la≠p:=st1.pen.fresh hla
 refine⟨5,rfl,by decide,by decide,fun Z l hl=> ?_⟩
 have npl:l≠p:=st2.pen.fresh hl
 have nal:la≠l:=fun z=>by rw [←z,aJ]at hl;cases hl
 have D12:=DlA.ext D1 (st2.ext hp)
 have ela:(upd H1 la (.lst [.ref d1,v,.ref d3])) la=some (.lst [.ref d1,v,.ref d3]):=aJ
 have kk:∀x∈[V.ref d1,v,.ref d3],KnA (upd H1 la (.lst [.ref d1,v,.ref d3])) x:=fun x hx=>by
  simp only [mem_cons,not_mem_nil,or_false]at hx
  rcases hx with rfl|rfl|rfl
  ·exact D12.kn
  ·exact kv.ext s2.ext
  ·exact k3.ext (st2.ext hp)
 generalize upd H1 la (.lst [.ref d1,v,.ref d3])=H2 at st2 hl D12 ela kk⊢
 refine lB (lo:=0) (n:=5) (fun j σ H'=>(∃o,σ=[o,some (.ref p),some (.ref d1)])/\Stp p H2 H'/\∃xs,H' l=some (.lst xs)/\xs.length=j/\∀x∈xs,KnA H' x)
  ⟨⟨none,rfl⟩,(Stp.refl st2.pen).updO hl st2.pen,[],aJ,rfl,fun x hx=>by cases hx⟩ ?_ ?_
 ·rintro j σ H' hj ⟨⟨o,rfl⟩,st',xs,hl',hn,hx⟩
  refine nK ?_
  refine⟨_,rfl,_,rfl,p,d1,g,w',ns,rfl,st'.pen,DlA.ext D12 (st'.ext st2.pen),fun v' H3 st3 kv'=> ?_⟩
  have hl3:=st3.keep l _ npl hl'
  have ex:Ext H3 (upd H3 l (.lst (xs++[v']))):=⟨fun b ys e=>by rw [aQ (fun z=>by rw [z,hl3]at e;cases e)];exact e,fun b ys e=>by
   by_cases z:b=l
   ·rw [z];exact⟨_,aJ⟩
   ·rw [aQ z];exact⟨ys,e⟩,fun b ys e=>by rw [aQ (fun z=>by rw [z,hl3]at e;cases e)];exact e⟩
  have ex3:=st3.ext st'.pen
  refine⟨xs,hl3,eI (by omega),⟨_,rfl⟩,(st'.trans st3).updO hl st2.pen,xs++[v'],aJ,by rw [length_append,hn];rfl,fun x hx'=> ?_⟩
  rcases mem_append.mp hx' with z|z
  ·exact((hx x z).ext ex3).ext ex
  ·rw [mem_singleton.mp z];exact kv'.ext ex
 rintro σ H3 ⟨_,st3,xs,hl3,hn,hx⟩
 have ela3:=st3.keep la _ npa ela
 refine⟨la,l,_,_,rfl,rfl,ela3,hl3,by rw [sizeLine_eq,hn];show 3+5<=16777216;omega,fun lt hlt=> ?_⟩
 have s4:=aV (o:=.lst ([.ref d1,v,.ref d3]++xs)) hlt
 have elt:(upd H3 lt (.lst ([.ref d1,v,.ref d3]++xs))) lt=some (.lst ([.ref d1,v,.ref d3]++xs)):=aJ
 have st4:=((st2.trans st3).same s4)
 have x34:=(st3.ext st2.pen).trans s4.ext
 have kx:∀x∈[V.ref d1,v,.ref d3]++xs,KnA (upd H3 lt (.lst ([.ref d1,v,.ref d3]++xs))) x:=KnA.app (fun x h=>(kk x h).ext x34) fun x h=>(hx x h).ext s4.ext
 have D14:=DlA.ext D12 x34
 have T4:=hT.stp hp st4
 generalize upd H3 lt (.lst ([.ref d1,v,.ref d3]++xs))=H4 at s4 elt st4 x34 kx D14 T4⊢
 generalize [V.ref d1,v,.ref d3]++xs=ys at elt kx
 refine⟨lt,rfl,⟨_,SqL.of elt⟩,?_⟩
 refine jX (K:=K) (a:=lt) (xs:=ys) (fun i σ H'=>(∃o7 o8 o9,σ=[o0,o1,some (.ref p),o3,some (.ref d1),o5,some (.ref d3),o7,o8,o9])/\Grow T H4 H'/\∃ps',TabI H' T ps' qL cX)
  ⟨⟨_,_,_,rfl⟩,Grow.refl _,ps,T4⟩ (fun i σ H' _ h=>SqL.of (h.2.1.lst T4.at' elt)) ?_ ?_
 ·rintro i y σ H' hiy ⟨⟨o7,o8,o9,rfl⟩,gr,ps',T'⟩
  have x':=gr.ext T4.at'
  exact ji _ ps' d1 _ _ _ _ _ _ _ _ y g w' ns H' T' (DlA.ext D14 x') ((kx y (mem_of_getElem? hiy)).ext x') fun ps2 o8 o9 H5 g5 T5=> ⟨⟨_,_,_,rfl⟩,gr.trans g5,ps2,T5⟩
 ·rintro σ H' ⟨⟨o7,o8,o9,rfl⟩,gr,ps',T'⟩
  exact hD ps' _ _ _ H4 H' st4 gr T4 T'
end
section
variable {P:Program}{w:World}{K:W.Frag}{mg:Str->Option Value}{base:Heap}
variable {f c T:Addr}{A:Around}{outer:List Env}{s:Shared}{H0:Hp}{E:XK}{cD T1:Addr}
theorem A21 (hr:Room 13 (XL P w K mg base f c A outer s H0 E).A)(L:Calls P w K mg base cD T1):
  ∃t0 t1 t2,PS (XL P w K mg base f c A outer s H0 E) (lawF 0) t0/\PS (XL P w K mg base f c A outer s H0 E) (lawF 1) t1/\PS (XL P w K mg base f c A outer s H0 E) (lawF 2) t2/\
  (∀(D:bK)(o0 o2 o3 o4 o5 o6 o7 o8 o9:Option V)(i:Int)(H:Hp),(∀p H',H p=none->Same H H'->PenAt H' p->D.nx [o0,some (.int i),some (.ref p),o3,o4,o5,o6,o7,o8,o9] H')->t0 D [o0,some (.int i),o2,o3,o4,o5,o6,o7,o8,o9] H)/\
  (∀(D:bK)(p:Addr)(o0 o1 o3 o4 o5 o6 o7 o8 o9:Option V)(H:Hp),PenAt H p->(∀a g w H',Stp p H H'->GridAt H' a g->dX g w->D.nx [o0,o1,some (.ref p),some (.ref a),o4,o5,o6,o7,o8,o9] H')->t1 D [o0,o1,some (.ref p),o3,o4,o5,o6,o7,o8,o9] H)/\
  (∀(D:bK)(p a:Addr)(o0 o1 o4 o5 o6 o7 o8 o9:Option V)(g:bG)(w':Nat)(H:Hp),PenAt H p->GridAt H a g->dX g w'->(∀d1 d2 m ns ms H',Stp p H H'->DlA H' d1 g w' ns->DlA H' d2 g w' ms->H' d2=some (.tup [.ref a,.ref m])->H' m=some (.tup (ms.map V.int))->D.nx [o0,o1,some (.ref p),some (.ref a),some (.ref d1),some (.ref d2),o6,o7,o8,o9] H')->
   t2 D [o0,o1,some (.ref p),some (.ref a),o4,o5,o6,o7,o8,o9] H):=by
 have nd:=scLaw.nd
 have r1:Room 1 (XL P w K mg base f c A outer s H0 E).A:=hr.mono (by decide)
 have r2:Room 2 (XL P w K mg base f c A outer s H0 E).A:=hr.mono (by decide)
 obtain⟨_,_,aP⟩:=L.pen
 obtain⟨_,_,aM⟩:=L.mead
 obtain⟨_,_,aD⟩:=L.dealt
 refine⟨_,_,_,cJ (i:=2) nd rfl (Or.inr rfl) (aX aP.ok r1 rfl aP.nm aP.kp aP.bd .nil bA (aE (pv 1) aA)),
  cJ (i:=3) nd rfl (Or.inl rfl) (aX aM.ok r2 rfl aM.nm aM.kp aM.bd .nil bA (aE (pv 2) (bU aH aA))),
  iQ (cZ (cC (aX aD.ok r2 rfl aD.nm aD.kp aD.bd .nil bA (aE (pv 2) (aE (pv 3) aA))) (cC (aX aD.ok r2 rfl aD.nm aD.kp aD.bd .nil bA (aE (pv 2) (aE (pv 3) aA))) aA))) (eQ rfl (cB (bE (i:=4) nd rfl (Or.inr rfl)) (cB (bE (i:=5) nd rfl (Or.inl rfl)) eP))),?_,?_,?_⟩
 ·intro D o0 o2 o3 o4 o5 o6 o7 o8 o9 i H hD
  exact⟨_,rfl,i,rfl,fun p H1 hp0 s1 pen=>hD p H1 hp0 s1 pen⟩
 ·intro D p o0 o1 o3 o4 o5 o6 o7 o8 o9 H hp hD
  exact⟨_,rfl,p,rfl,hp,fun a g w' H1 st hA G=>hD a g w' H1 st hA G⟩
 ·intro D p a o0 o1 o4 o5 o6 o7 o8 o9 g w' H hp hA G hD
  refine⟨_,rfl,_,rfl,p,a,g,w',rfl,hp,hA,G,fun d1 n ns H1 st1 e1 en hl hv=> ?_⟩
  have x1:=st1.ext hp
  refine⟨_,rfl,_,rfl,p,a,g,w',rfl,st1.pen,hA.ext x1,G,fun d2 m ms H2 st2 e2 em hl2 hv2=> ?_⟩
  have x2:=st2.ext st1.pen
  refine⟨by show 2<=sizeLine;decide,fun t ht=> ?_⟩
  have s3:=aV (o:=.tup [.ref d1,.ref d2]) ht
  refine⟨t,_,rfl,SqT.of aJ,rfl,_,_,rfl,_,_,rfl,rfl,?_⟩
  have x3:=s3.ext
  have x23:=x2.trans x3
  exact hD d1 d2 m ns ms _ ((st1.trans st2).same s3) ⟨G,⟨a,n,x23.tup _ _ e1,(hA.ext x1).ext x23,x23.tup _ _ en⟩,hl,hv⟩ ⟨G,⟨a,m,x3.tup _ _ e2,(hA.ext x1).ext x23,x3.tup _ _ em⟩,hl2,hv2⟩ (x3.tup _ _ e2) (x3.tup _ _ em)
theorem A6w (hr:Room 13 (XL P w K mg base f c A outer s H0 E).A)(C:W.CodeHd base c T)(B:cU mg base)(L:Calls P w K mg base cD T1):
  ∃t3 t4 t5,PS (XL P w K mg base f c A outer s H0 E) (lawF 3) t3/\PS (XL P w K mg base f c A outer s H0 E) (lawF 4) t4/\PS (XL P w K mg base f c A outer s H0 E) (lawF 5) t5/\
  (∀(D:bK)(ps:Array Value)(d1 d2:Addr)(o0 o1 o2 o3 o6 o7 o8 o9:Option V)(g:bG)(w':Nat)(ns ms:List Int)(H:Hp),TabI H T1 ps qR dO->DlA H d1 g w' ns->DlA H d2 g w' ms->(∀ps' H',Grow T1 H H'->TabI H' T1 ps' qR dO->D.nx [o0,o1,o2,o3,some (.ref d1),some (.ref d2),o6,o7,o8,o9] H')->t3 D [o0,o1,o2,o3,some (.ref d1),some (.ref d2),o6,o7,o8,o9] H)/\
  (∀(D:bK)(a d2 m:Addr)(o0 o1 o2 o4 o6 o7 o8 o9:Option V)(g:bG)(w':Nat)(ms:List Int)(H:Hp),GridAt H a g->dX g w'->DlA H d2 g w' ms->H d2=some (.tup [.ref a,.ref m])->H m=some (.tup (ms.map V.int))->(∀d3 H',Same H H'->DlA H' d3 (jD g) w' ms->D.nx [o0,o1,o2,some (.ref a),o4,some (.ref d2),some (.ref d3),o7,o8,o9] H')->t4 D [o0,o1,o2,some (.ref a),o4,some (.ref d2),o6,o7,o8,o9] H)/\
  (∀(D:bK)(ps:Array Value)(d1 d3:Addr)(o0 o1 o2 o3 o5 o7 o8 o9:Option V)(g:bG)(w':Nat)(ns ms:List Int)(H:Hp),TabI H T ps qL cX->DlA H d1 g w' ns->DlA H d3 (jD g) w' ms->(∀ps' H',Grow T H H'->TabI H' T ps' qL cX->D.nx [o0,o1,o2,o3,some (.ref d1),o5,some (.ref d3),o7,o8,o9] H')->t5 D [o0,o1,o2,o3,some (.ref d1),o5,some (.ref d3),o7,o8,o9] H):=by
 have nd:=scLaw.nd
 have r1:Room 1 (XL P w K mg base f c A outer s H0 E).A:=hr.mono (by decide)
 have r12:Room 12 (XL P w K mg base f c A outer s H0 E).A:=hr.mono (by decide)
 obtain⟨_,_,aR⟩:=L.right
 obtain⟨_,_,aO⟩:=L.other
 obtain⟨gT,dT,nT,kT,bT,oT⟩:=L.told
 obtain⟨_,_,aM⟩:=L.moved
 refine⟨_,_,_,bQ (PW.pt (fU (cQ (cS (aX aR.ok hr rfl aR.nm aR.kp aR.bd .nil bA (aE (pv 4) (aE (pv 5) aA))))) (iP (cQ (cS (aX aR.ok hr rfl aR.nm aR.kp aR.bd .nil bA (aE (pv 4) (aE (pv 4) aA)))))))) (aW (bB cT)) bO,
  cJ (i:=6) nd rfl (Or.inr rfl) (cZ (cC (aX aO.ok r1 rfl aO.nm aO.kp aO.bd .nil bA (aE (pv 3) aA)) (fM (bM cY (pv 5) aH (fun _ _=>rfl)) aA))),
  bQ (bN gA (iU oT r12 rfl nT kT bT (A4d C B)) iI (nomark _)) (aW (bB cT)) bO,?_,?_,?_⟩
 ·intro D ps d1 d2 o0 o1 o2 o3 o6 o7 o8 o9 g w' ns ms H hT D1 D2 hD
  refine⟨_,rfl,_,rfl,d1,d2,ps,g,w',ns,ms,rfl,hT,D1,D2,fun ps1 H1 g1 TT1=> ⟨_,rfl,cO ?_⟩⟩
  have D11:=DlA.ext D1 (g1.ext hT.at')
  exact⟨_,rfl,_,rfl,d1,d1,ps1,g,w',ns,ns,rfl,TT1,D11,D11,fun ps2 H2 g2 TT2=> ⟨_,rfl,cO (hD ps2 H2 (g1.trans g2) TT2)⟩⟩
 ·intro D a d2 m o0 o1 o2 o4 o6 o7 o8 o9 g w' ms H hA G D2 e2 em hD
  refine⟨_,rfl,a,g,w',rfl,hA,G,fun b H1 s1 hB=> ?_⟩
  refine⟨_,rfl,d2,_,1,.ref m,rfl,rfl,SqT.of (s1 _ _ e2),bL (j:=1) rfl,by show 2<=sizeLine;decide,fun d3 hd3=> ?_⟩
  have s2:=aV (o:=.tup [.ref b,.ref m]) hd3
  obtain⟨G',el,_,_⟩:=yC G
  exact hD d3 _ (s1.trans s2) ⟨G',⟨b,m,aJ,hB.same s2,s2 _ _ (s1 _ _ em)⟩,by rw [el];exact D2.len,D2.num⟩
 ·intro D ps d1 d3 o0 o1 o2 o3 o5 o7 o8 o9 g w' ns ms H hT D1 D3 hD
  refine⟨ps,[.ref d1,.ref d3],hT,rfl,fun j y v e1 e2=> ?_,fun fl1 ps2 H2 h2 gr2 TT2 R2=> ?_⟩
  ·match j with
   |0=>cases e1;cases e2;exact⟨4,rfl,rfl⟩
   |1=>cases e1;cases e2;exact⟨6,rfl,rfl⟩
   |j+2=>cases e1
  have D12:=DlA.ext D1 (gr2.ext hT.at')
  have D32:=DlA.ext D3 (gr2.ext hT.at')
  refine tell_gen R2 (fun c' cl A' outer' s' E' hr'=>aX aM.ok (hr'.deeper _) rfl aM.nm aM.kp aM.bd .nil jF (aE (pv 0) (aE (pv 1) aA))) fun Q' E' hv hx=> ?_
  refine⟨_,rfl,_,rfl,.ref d1,.ref d3,rfl,D12.kn 4,D32.kn 4,fun z=>absurd ((gJ D12).symm.trans z) (by decide),fun _ p1 g1 w1 ns1 e1 E1=> ⟨fun z=>absurd ((gJ D32).symm.trans z) (by decide),fun _ p2 k2 w2 ms1 e2 E2=> ?_⟩⟩
  cases e1
  cases e2
  obtain⟨eg,en⟩:=DlA.uniq E1 D12
  obtain⟨eg2,en2⟩:=DlA.uniq E2 D32
  subst eg2
  subst eg
  obtain⟨_,_,hsh,hne⟩:=yC D12.G
  exact⟨hsh,fun _ H' s'=>hx H' fun H3 s3=> ⟨rfl,_,rfl,cO (hD ps2 H3 (gr2.same (s'.trans s3)) (TT2.same (s'.trans s3)))⟩,fun z=>absurd z hne⟩
end
def nY (K:W.Frag)(T1 T:Addr):Sp:=fun vs H Q _=> ∃(a:Addr)(ns:List Int),vs=[.ref a]/\SqL K H a (ns.map V.int)/\H T1=some (.tbl #[])/\H T=some (.tbl #[])/\ns.length<=63/\∀H',Q (.bl true) H'
section
variable {P:Program}{w:World}{K:W.Frag}{mg:Str->Option Value}{base:Heap}
variable {f c T:Addr}{A:Around}{outer:List Env}{s:Shared}{H0:Hp}{E:XK}{cD T1:Addr}
theorem A7e (hr:Room 13 (XL P w K mg base f c A outer s H0 E).A)(TX:Txt mg)(T2x:dY mg)(C:W.CodeHd base c T)(B:cU mg base)(L:Calls P w K mg base cD T1)(hne:T1≠T):
  ∃tt,PSs (XL P w K mg base f c A outer s H0 E) (fG ((bJ eT).getD 0 pas)) tt/\
  ∀(D:bK)(o0 o2 o3 o4 o5 o6 o7 o8 o9:Option V)(i:Int)(ps1 ps:Array Value)(H:Hp),TabI H T1 ps1 qR dO->TabI H T ps qL cX->
   (∀o2 o3 o4 o5 o6 o7 o8 o9 ps1' ps' H',(∀b u,b≠T1->b≠T->H b=some u->H' b=some u)->TabI H' T1 ps1' qR dO->TabI H' T ps' qL cX->D.nx [o0,some (.int i),o2,o3,o4,o5,o6,o7,o8,o9] H')->tt D [o0,some (.int i),o2,o3,o4,o5,o6,o7,o8,o9] H:=by
 obtain⟨t0,t1,t2,h0,h1,h2,j0,j1,j2⟩:=A21 (P:=P) (w:=w) (K:=K) (mg:=mg) (base:=base) (f:=f) (c:=c) (A:=A) (outer:=outer) (s:=s) (H0:=H0) (E:=E) hr L
 obtain⟨t3,t4,t5,h3,h4,h5,j3,j4,j5⟩:=A6w (P:=P) (w:=w) (K:=K) (mg:=mg) (base:=base) (f:=f) (c:=c) (T:=T) (A:=A) (outer:=outer) (s:=s) (H0:=H0) (E:=E) hr C B L
 obtain⟨t6,h6,j6⟩:=A01 (P:=P) (w:=w) (K:=K) (mg:=mg) (base:=base) (f:=f) (c:=c) (T:=T) (A:=A) (outer:=outer) (s:=s) (H0:=H0) (E:=E) hr TX T2x C B L
 have e:fG ((bJ eT).getD 0 pas)=[lawF 0,lawF 1,lawF 2,lawF 3,lawF 4,lawF 5,lawF 6]:=rfl
 rw [e]
 generalize lawF 0=st0 at h0⊢
 generalize lawF 1=st1 at h1⊢
 generalize lawF 2=st2 at h2⊢
 generalize lawF 3=st3 at h3⊢
 generalize lawF 4=st4 at h4⊢
 generalize lawF 5=st5 at h5⊢
 generalize lawF 6=st6 at h6⊢
 refine⟨_,aU h0 (aU h1 (aU h2 (aU h3 (aU h4 (aU h5 (aW h6)))))),?_⟩
 intro D o0 o2 o3 o4 o5 o6 o7 o8 o9 i ps1 ps H hT1 hT hD
 refine j0 _ _ _ _ _ _ _ _ _ _ i H fun p H1 hp0 s1 pen=> ?_
 refine j1 _ p _ _ _ _ _ _ _ _ _ H1 pen fun a g w' H2 st2 hA G=> ?_
 refine j2 _ p a _ _ _ _ _ _ _ _ g w' H2 st2.pen hA G fun d1 d2 m ns ms H3 st3 D1 D2 e2 em=> ?_
 have st13:=st2.trans st3
 have A3:=(hT1.same s1).stp pen st13
 have B3:=(hT.same s1).stp pen st13
 have pen3:=st3.pen
 refine j3 _ ps1 d1 d2 _ _ _ _ _ _ _ _ g w' ns ms H3 A3 D1 D2 fun ps1' H4 g4 A4=> ?_
 have x4:=g4.ext A3.at'
 have B4:=B3.grow g4 A3.at' (Ne.symm hne)
 have pen4:PenAt H4 p:=let ⟨x,y,z⟩:=pen3;⟨x,y,g4.lst A3.at' z⟩
 have hA4:GridAt H4 a g:=hA.ext ((st3.ext st2.pen).trans x4)
 refine j4 _ a d2 m _ _ _ _ _ _ _ _ g w' ms H4 hA4 G (DlA.ext D2 x4) (x4.tup _ _ e2) (x4.tup _ _ em) fun d3 H5 s5 D3=> ?_
 have A5:=A4.same s5
 have B5:=B4.same s5
 have D15:=DlA.ext (DlA.ext D1 x4) s5.ext
 have pen5:PenAt H5 p:=let ⟨x,y,z⟩:=pen4;⟨x,y,s5 _ _ z⟩
 refine j5 _ ps d1 d3 _ _ _ _ _ _ _ _ g w' ns ms H5 B5 D15 D3 fun ps' H6 g6 B6=> ?_
 have x6:=g6.ext B5.at'
 have A6:=A5.grow g6 B5.at' hne
 have pen6:PenAt H6 p:=let ⟨x,y,z⟩:=pen5;⟨x,y,g6.lst B5.at' z⟩
 refine j6 _ ps' p d1 d3 _ _ _ _ _ _ _ g w' ns H6 B6 pen6 (DlA.ext D15 x6) (DlA.kn (DlA.ext D3 x6)) fun ps2 o7 o8 o9 H7 H8 st7 g8 B7 B8=> ?_
 have A7:=A6.stp pen6 st7
 have A8:=A7.grow g8 B7.at' hne
 refine hD _ _ _ _ _ _ _ _ ps1' ps2 H8 (fun b u n1 n2 hu=> ?_) A8 B8
 have hbp:b≠p:=bW hu hp0
 exact g8 _ _ n2 (st7.keep _ _ hbp (g6 _ _ n2 (s5 _ _ (g4 _ _ n1 (st13.keep _ _ hbp (s1 _ _ hu))))))
theorem A9f {f c T cD T1:Addr}{fd:FuncData}(F:Fun K "law" "law" eT f fd)(hc:fd.code= .ref c)(TX:Txt mg)(T2x:dY mg)(C:W.CodeHd base c T)(B:cU mg base)(L:Calls P w K mg base cD T1)(hne:T1≠T):FnOk P w K mg base CX0 14 f fd ["_law_script"] (nY K T1 T):=by
 refine F.okC scLaw hc (fun vs H Q E h=> ?_) (fun A outer s H vs Q E hr h=> ?_)
 ·obtain⟨a,ns,rfl,_⟩:=h;rfl
 ·obtain⟨a,ns,rfl,hS,hT1,hT,hlen,q⟩:=h
  have nd:=scLaw.nd
  have r1:Room 1 _:=hr.mono (by decide)
  obtain⟨_,_,aC⟩:=L.cell
  obtain⟨tb,hb,rb⟩:=A7e (P:=P) (w:=w) (K:=K) (mg:=mg) (base:=base) (f:=f) (c:=c) (T:=T) (A:=A) (outer:=outer) (s:=s) (H0:=H) (E:=E) hr TX T2x C B L hne
  refine⟨_,aU (iB PassesOwn.never rfl (jK (bF pT (dU (cC (aX aC.ok r1 rfl aC.nm aC.kp aC.bd .nil bA (aE (pv 0) (bU aH aA))) aA)) (iJ A3n (pv 0) (iD aH) (iD aH)))) (bE (i:=1) nd rfl (Or.inl rfl)) hb)<|
   aW (bB cT),?_⟩
  refine⟨_,rfl,a,ns,0,rfl,hS,by decide,fun c0=> ?_⟩
  refine⟨by show 1<=sizeLine;decide,fun l0 hl0=> ?_⟩
  have s0:=aV (o:=.lst [.int c0]) hl0
  refine⟨_,rfl,_,rfl,_,rfl,a,_,rfl,s0.seq hS,fun l1 hl1=> ?_⟩
  have s1:=aV (o:=.lst (eG (ns.map V.int) (some 1) (some 4))) hl1
  have hcl:=jA (ns.map V.int) (some 1) (some 4)
  rw [length_map]at hcl
  refine⟨l0,l1,_,_,rfl,rfl,s1 _ _ aJ,aJ,by rw [sizeLine_eq];show 1+_<=_;omega,fun lc hlc=> ?_⟩
  have s2:=aV (o:=.lst ([.int c0]++eG (ns.map V.int) (some 1) (some 4))) hlc
  have hTc:=((s0.trans s1).trans s2) _ _ hT
  have hTc1:=((s0.trans s1).trans s2) _ _ hT1
  have hlT:lc≠T:=fun z=>by
   have:=(s0.trans s1) _ _ hT
   rw [←z,hlc]at this;cases this
  have hlT1:lc≠T1:=fun z=>by
   have:=(s0.trans s1) _ _ hT1
   rw [←z,hlc]at this;cases this
  refine⟨lc,rfl,⟨_,SqL.of aJ⟩,?_⟩
  refine jX (K:=K) (a:=lc) (xs:=[.int c0]++eG (ns.map V.int) (some 1) (some 4)) (fun i σ H'=>(∃o1 o2 o3 o4 o5 o6 o7 o8 o9,σ=[some (.ref a),o1,o2,o3,o4,o5,o6,o7,o8,o9])/\H' lc=some (.lst ([.int c0]++eG (ns.map V.int) (some 1) (some 4)))/\(∃ps,TabI H' T1 ps qR dO)/\∃ps,TabI H' T ps qL cX)
   ⟨⟨_,_,_,_,_,_,_,_,_,rfl⟩,aJ,⟨#[],hTc1,True.intro,fun pos _=> .inl rfl⟩,#[],hTc,True.intro,fun pos _=> .inl rfl⟩ (fun i σ H' _ h=>SqL.of h.2.1) ?_ ?_
  ·rintro i y σ H' hi ⟨⟨o1,o2,o3,o4,o5,o6,o7,o8,o9,rfl⟩,hl,⟨ps1,hTI1⟩,ps,hTI⟩
   obtain⟨c,rfl⟩:∃c,y=V.int c:=by
    rcases mem_append.mp (mem_of_getElem? hi)with z|z
    ·exact⟨c0,mem_singleton.mp z⟩
    ·obtain⟨c,_,e⟩:=mem_map.mp (kP z)
     exact⟨c,e.symm⟩
   exact rb _ (some (.ref a)) o2 o3 o4 o5 o6 o7 o8 o9 c ps1 ps H' hTI1 hTI fun o2 o3 o4 o5 o6 o7 o8 o9 ps1' ps' H2 kp TA TB=> ⟨⟨_,_,_,_,_,_,_,_,_,rfl⟩,kp _ _ hlT1 hlT hl,⟨ps1',TA⟩,ps',TB⟩
  ·rintro σ H' _
   exact q H'
end
end M46
namespace L2
open PySem PySem.Spec PyProof.Rows PySem.W
theorem A9a {P:Program}{w:World}{K:W.Frag}{mg mb:Str->Option Value}{k:Nat}{fa a:Addr}{cts:List (Addr×Addr)}{fd:FuncData}{x:Str}{sp:Sp}{s₁:Shared}{vs:List Value}{ns:List Int}
  (KX:K.In s₁.heap)(hns:s₁.heap.Ns mainGlobals mg)(hb:s₁.heap.Ns builtinsNs mb)(hbb:∀x:Str,x≠ "__name__"->mb x=bootBuiltins x)(hlim:s₁.heap.NoLimit)(hg:s₁.gens= #[])
  (ha:s₁.heap.get? a=some {cls:=.type "list",data:=.seq vs.toArray})(hi:IntsAre vs ns)(hl:ns.length<=sizeLine)(hr:Room k callerA)(hT:∀q∈cts,s₁.heap.get? q.2=some (tabObj #[]))(hKT:∀q∈cts,K.lookup q.2=none)(hC:∀q∈cts,CodeHd s₁.heap q.1 q.2)(hBM:cU mg s₁.heap)
  (F:∀base:Heap,K.In base->base.Ns mainGlobals mg->(∀q∈cts,CodeHd base q.1 q.2)->cU mg base->FnOk P w K mg base CX0 k fa fd [x] sp)(hbind:∀(s:Shared)(u:Value),BindsTo s fd ⟨[u],[]⟩ [(x,u)])
  (hsp:∀H:Hp,(∀q∈cts,H q.2=some (.tbl #[]))->SqL K H a (ns.map V.int)->sp [.ref a] H (fun v _=>v= .bl true) fun _ _ _=>False):
  codeAny (model P w) callerA (.call (.ref fa) ⟨[.ref a],[]⟩) (fun r s'=>r= .ok (.ret (.bool true))/\OldK s₁.heap s'.heap/\s'.os=s₁.os/\AllBare s'.gens) s₁:=by
 have rv:=uN hi
 have lenV:=hi.length
 have tm:∀{b:Addr},b∈cts.map (·.2)->∃q∈cts,q.2=b:=fun h=>mem_map.mp h
 have hTa:a∉cts.map (·.2):=fun z=>by
  obtain⟨q,hq,e⟩:=tm z
  have:=hT q hq
  rw [e,ha]at this;cases this
 have core:∀H:Hp,(∀b∈cts.map (·.2),H b=some (.tbl #[]))->(∀b,b∉cts.map (·.2)->H b=none\/ ∃o xs,H b=some (.frz o (.lst xs)))->SqL K H a (ns.map V.int)->HOk P w H s₁.heap->(∀b,H b≠none->b=a\/b∈cts.map (·.2))->(H a≠none->K.lookup a=none)->
   codeAny (model P w) callerA (.call (.ref fa) ⟨[.ref a],[]⟩) (fun r s'=>r= .ok (.ret (.bool true))/\OldK s₁.heap s'.heap/\s'.os=s₁.os/\AllBare s'.gens) s₁:=by
  intro H hHT hO hS hok hA hK
  have base_of:∀{b:Addr}{o:Obj},s₁.heap.get? b=some o->H b=none->(gX s₁.heap H).get? b=some o:=fun e n=>A9l e n
  have noH:∀{b:Addr}{o:Obj},s₁.heap.get? b=some o->o.cls≠ .type "list"->o.cls≠ .none->H b=none:=fun{b o} e d1 d2=>by
   cases q:H b with
   |none=>rfl
   |some u=>
    rcases hA b (by rw [q];simp)with e'|e'
    ·rw [e',ha]at e;cases e;exact absurd rfl d1
    ·obtain⟨p,hp,ep⟩:=tm e'
     have:=hT p hp
     rw [ep,e]at this;cases this;exact absurd rfl d2
  have noA:∀{b:Addr}{o:Obj}{es:Array DictEntry}{ep:Nat},s₁.heap.get? b=some o->o.data= .dict es ep->H b=none:=fun{b o es ep} e d=>by
   cases q:H b with
   |none=>rfl
   |some u=>
    rcases hA b (by rw [q];simp)with e'|e'
    ·rw [e',ha]at e;cases e;cases d
    ·obtain⟨p,hp,ep'⟩:=tm e'
     have:=hT p hp
     rw [ep',e]at this;cases this;cases d
  have nsK:∀{b:Addr}{m:Str->Option Value},s₁.heap.Ns b m->(gX s₁.heap H).Ns b m:=fun{b m} ⟨o,es,ep,e,d,r⟩=> ⟨o,es,ep,base_of e (noA e d),d,r⟩
  have hKb:K.In (gX s₁.heap H):=fun b o e=>base_of (KX b o e) (by
   cases q:H b with
   |none=>rfl
   |some u=>
    rcases hA b (by rw [q];simp)with e'|e'
    ·subst e'
     rw [hK (by rw [q];simp)]at e;cases e
    ·obtain⟨p,hp,ep⟩:=tm e'
     have:=hKT p hp
     rw [ep,e]at this;cases this)
  have hM:Mod K mg (gX s₁.heap H):=⟨hKb,nsK hns,⟨mb,nsK hb,hbb⟩,let ⟨mc,h1,h2⟩:=hlim;⟨mc,nsK h1,h2⟩⟩
  have e0:jG P w K mg (gX s₁.heap H) callerA [] s₁ H:=⟨rfl,hM,fun b o e=>A0s e,Nat.le_of_eq (A5a _ _),trivial,fun b hb=>absurd (show b∈([]:List Addr)from hb) (by simp),hok,.of_eq hg⟩
  have hCb:∀q∈cts,CodeHd (gX s₁.heap H) q.1 q.2:=fun q hq=>by
   obtain⟨o,vs',file,tf,flags,tg,inF,text,tt,e1,e2,r⟩:=id (hC q hq)
   exact⟨o,vs',file,tf,flags,tg,inF,text,tt,base_of e1 (noH e1 (by rw [e2];decide) (by rw [e2];decide)),e2,r⟩
  have hBb:cU mg (gX s₁.heap H):=by
   obtain⟨bm,ob,b1,b2,b3,b4,r⟩:=id hBM
   exact⟨bm,ob,b1,b2,base_of b3 (noH b3 (by rw [b4];decide) (by rw [b4];decide)),b4,r⟩
  refine codeAny_mono ((F _ hKb (nsK hns) hCb hBb).run callerA [] s₁ H ⟨[.ref a],[]⟩ [.ref a] [.ref a] _ _ hr e0 (hbind s₁ (.ref a)) (.cons rfl .nil) (hsp H (fun q hq=>hHT _ (mem_map_of_mem hq)) hS)) fun r s' h=> ?_
  cases r with
  |error e=>exact False.elim h
  |ok fl=>
   cases fl with
   |next=>exact False.elim h
   |brk=>exact False.elim h
   |cont=>exact False.elim h
   |ret u=>
    obtain⟨v,H',os,bare,un,hok',r',q⟩:=h
    have q':v= .bl true:=q
    subst q'
    obtain rfl:u=Value.bool true:=r'
    have keep:∀b o,b∉cts.map (·.2)->s₁.heap.get? b=some o->s'.heap.get? b=some o:=fun b o hbT e=>by
     cases q:H b with
     |none=>exact un.keep b o e q (by intro z;exact absurd (show b∈([]:List Addr)from z) (by simp)) (by simp)
     |some u=>
      rcases hO b hbT with z| ⟨ob,xs,z⟩
      ·rw [q]at z;cases z
      ·have z2:=un.frzs b ob _ z
       obtain⟨e1,_⟩:=hok b _ z
       obtain⟨e2,_⟩:=hok' b _ z2
       rw [e]at e1;cases e1
       exact e2
    have tab:∀b∈cts.map (·.2),∃more,s'.heap.get? b=some {cls:=.none,data:=.fields (#[]++more)}:=fun b hb=>by
     obtain⟨more,hmore⟩:=un.tbls b _ (hHT b hb)
     exact⟨more,hok' b _ hmore⟩
    refine⟨rfl,⟨fun b o e=> ?_,fun b o e=> ?_⟩,os,bare⟩
    ·by_cases hbT:b∈cts.map (·.2)
     ·obtain⟨p,hp,ep⟩:=tm hbT
      obtain⟨more,hT'⟩:=tab b hbT
      have h0:=hT p hp
      rw [ep,e]at h0;cases h0
      subst ep
      exact .inr (.inl ⟨((hC p hp).tab e).isCodeTable,rfl,#[],more,rfl,hT'⟩)
     ·exact .inl (keep b o hbT e)
    ·by_cases hbT:b∈cts.map (·.2)
     ·obtain⟨more,hT'⟩:=tab b hbT
      exact⟨_,hT'⟩
     ·exact⟨o,keep b o hbT e⟩
 have okT:∀H:Hp,(∀b∈cts.map (·.2),H b=some (.tbl #[]))->(∀b,b∉cts.map (·.2)->∀u,H b=some u->ObjOk P w H s₁.heap b u)->HOk P w H s₁.heap:=fun H h1 h2 b u e=>by
  by_cases hbT:b∈cts.map (·.2)
  ·rw [h1 b hbT]at e;cases e
   obtain⟨p,hp,ep⟩:=tm hbT
   have:=hT p hp
   rw [ep]at this
   exact this
  ·exact h2 b hbT u e
 cases hk:K.lookup a with
 |some o=>
  have e:=KX a o hk
  rw [ha]at e
  cases e
  refine core (fun b=>if b∈cts.map (·.2)then some (.tbl #[])else none) (fun b hb=>if_pos hb) (fun b hb=> .inl (if_neg hb)) (.inr ⟨_,vs.toArray,_,hk,rfl,rfl,rfl,by rw [size_toArray,lenV];exact hl,by simpa using rv⟩) (okT _ (fun b hb=>if_pos hb) fun b hb u z=>by have z':=(if_neg hb).symm.trans z;cases z') (fun b z=> ?_) fun z=>absurd (if_neg hTa) z
  by_cases hb:b∈cts.map (·.2)
  ·exact .inr hb
  ·exact absurd (if_neg hb) z
 |none=>
  refine core (fun b=>if b∈cts.map (·.2)then some (.tbl #[])else if b=a then some (.frz {cls:=.type "list",data:=.seq vs.toArray} (.lst (ns.map V.int)))else none) (fun b hb=>if_pos hb) (fun b hbT=> ?_) (.inl (.inr ⟨{cls:=.type "list",data:=.seq vs.toArray},(if_neg hTa).trans (if_pos rfl)⟩)) (okT _ (fun b hb=>if_pos hb) fun b hbT u z=> ?_) (fun b z=> ?_) fun _=>hk
  ·by_cases hb:b=a
   ·exact .inr ⟨_,_,(if_neg hbT).trans (if_pos hb)⟩
   ·exact .inl ((if_neg hbT).trans (if_neg hb))
  ·have z1:=(if_neg hbT).symm.trans z
   by_cases hb:b=a
   ·have z':=(if_pos hb).symm.trans z1
    cases z'
    subst hb
    exact⟨ha,by rw [length_map];exact hl,vs,_,rv,ha⟩
   ·have z':=(if_neg hb).symm.trans z1
    cases z'
  ·by_cases hbT:b∈cts.map (·.2)
   ·exact .inr hbT
   ·by_cases hb:b=a
    ·exact .inl hb
    ·exact absurd ((if_neg hbT).trans (if_neg hb)) z
theorem walk_ofTs {l:W.OpenLaw}{n k:Nat}{q:Program}{loose:List Str}{XP:(Str->Option Value)->Heap->Prop}{YP:World->Heap->Prop}{d:DefRec}{K:Params->W.Frag}{sp:World->Sp}{x:Str}{cts:List (Addr×Addr)}
  (hn:l.most=some n)(hn2:n<=sizeLine)(hdf:d.params.defaults=[])(hr:Room k callerA)
  (hY:∀(w:World)(h:Heap),YP w h->(K w.params).In h/\∀q∈cts,h.get? q.2=some (tabObj #[]))(hKT:∀w:World,∀q∈cts,(K w.params).lookup q.2=none)(hKC:∀w:World,∀q∈cts,codeHdIn (K w.params) q.1 q.2=true)
  (F:∀(w:World)(mg:Str->Option Value)(fa:Addr)(h:Heap),(K w.params).In h->h.Ns mainGlobals mg->mg d.name=some (.ref fa)->
   ∃fd:FuncData,(∀(s:Shared)(u:Value),BindsTo s fd ⟨[u],[]⟩ [(x,u)])/\
    ∀base:Heap,(K w.params).In base->base.Ns mainGlobals mg->(∀q∈cts,CodeHd base q.1 q.2)->cU mg base->FnOk l.prog w (K w.params) mg base CX0 k fa fd [x] (sp w))
  (hsp:∀(w:World)(H:Hp)(a:Addr)(ns:List Int),ns.length<=n->(∀q∈cts,H q.2=some (.tbl #[]))->SqL (K w.params) H a (ns.map V.int)->sp w [.ref a] H (fun v _=>v= .bl true) fun _ _ _=>False):
  W.WalkO q loose XP YP l.row.toRowW d [] (fun f vs=>PySem.call f vs):=by
 refine Att.attach_call hn hdf fun w s₀ s₁ mg mb fa o pm cd doc a vs ns G Y ho hd hcd hmg hobj hints hlen hg=> ?_
 obtain⟨KX,hT⟩:=hY w _ Y
 obtain⟨fd,hb,hF⟩:=F w mg fa _ KX G.T.g hmg
 exact A9a KX G.T.g G.T.b G.T.builtins G.T.nolimit hg hobj hints (le_trans hlen hn2) hr hT (hKT w) (fun q hq=>codeHd_of_K KX (hKC w q hq)) G.T.bmain hF hb (fun H hO hS=>hsp w H a ns hlen hO hS)
end L2
namespace L2
open PySem PyProof.Rows
def Fk (K:W.Frag)(x:Str)(st:Stmt):Prop:=∃f fd,W.nsIn K mainGlobals x=some (some (.ref f))/\Fun K x x st f fd
def FkC (K:W.Frag)(x:Str)(st:Stmt)(c:Addr):Prop:=∃f fd,W.nsIn K mainGlobals x=some (some (.ref f))/\Fun K x x st f fd/\fd.code= .ref c
section
variable {K:W.Frag}{x:Str}{st:Stmt}{f c:Addr}{oc:Value}{od an:Option Addr}{osl:Array (Option Value)}{kV doc pm cdv ct:Value}{h:Heap}{mg:Str->Option Value}
theorem vK (a:W.nsIn K mainGlobals x=some (some (.ref f)))(l:K.lookup f=some ⟨oc,od,.func (W.fnOf x x (fH st) (bJ st) (aK st) .none kV doc pm an cdv ct),osl⟩)(c:W.codeIn K cdv x=true)(k:W.keepIn K (.ref f)=true):Fk K x st:=⟨_,_,a,wN l c k⟩
theorem vH (a:W.nsIn K mainGlobals x=some (some (.ref f)))(l:K.lookup f=some ⟨oc,od,.func (W.fnOf x x (fH st) (bJ st) (aK st) .none kV doc pm an (.ref c) ct),osl⟩)(e:W.codeIn K (.ref c) x=true)(k:W.keepIn K (.ref f)=true):FkC K x st c:=⟨_,_,a,wN l e k,rfl⟩
theorem Fk.fn (q:Fk K x st)(X:K.In h)(G:h.Ns mainGlobals mg):∃f fd,Fun K x x st f fd/\mg x=some (.ref f)/\W.keepIn K (.ref f)=true:=let ⟨f,fd,a,F⟩:=q;⟨f,fd,F,W.mg_of X G a,F.kp⟩
theorem FkC.fn (q:FkC K x st c)(X:K.In h)(G:h.Ns mainGlobals mg):∃f fd,Fun K x x st f fd/\mg x=some (.ref f)/\W.keepIn K (.ref f)=true/\fd.code= .ref c:=let ⟨f,fd,a,F,e⟩:=q;⟨f,fd,F,W.mg_of X G a,F.kp,e⟩
theorem FkC.law {y:Str}{fa:Addr}(q:FkC K x st c)(X:K.In h)(G:h.Ns mainGlobals mg)(hfa:mg x=some (.ref fa))(hb:∀(kV doc pm:Value)(an:Option Addr)(cdv ct:Value)(u:Value),bindArgs (W.fnOf x x (fH st) (bJ st) (aK st) .none kV doc pm an cdv ct) ⟨[u],[]⟩=pure [(y,u)]):∃fd,Fun K x x st fa fd/\fd.code= .ref c/\∀(s:Shared)(v:Value),BindsTo s fd ⟨[v],[]⟩ [(y,v)]:=by
 obtain⟨f,fd,a,F,e⟩:=q
 have e2:=hfa.symm.trans (W.mg_of X G a)
 cases e2
 obtain⟨oc,od,kV,doc,pm,an,cdv,ct,osl,rfl,lk,hcd⟩:=F.ex
 exact⟨_,F,e,fun s v=> .of_eq (hb _ _ _ _ _ _ _)⟩
end
theorem A8q {K:W.Frag}{cP cE:Addr}(h1:W.subIn K (.ref cE) (.type "BaseException")=some true)(h2:W.kitOne K (.ref cP) (.ref cE)=some true)(h3:(Value.ref cP==Value.ref cE)=false):W.exmOne K (.ref cP) (.ref cE)=some true:=by
 unfold W.kitOne at h2
 rw [if_neg (by rw [h3];decide)]at h2
 unfold W.exmOne
 rw [h1,if_pos (by decide)]
 exact h2
theorem A8d {K:W.Frag}{c:Addr}:W.kitOne K (.ref c) (.ref c)=some true:=by unfold W.kitOne;rw [if_pos (by simp)]
end L2
namespace M46
open PySem L2 PyProof.Rows Grd
theorem all_mk {l:W.OpenLaw}{w:World}{K:W.Frag}{h:Heap}{mg:Str->Option Value}{fa cL cR T1 T cE cM cP cD:Addr}{t0 t1 t2 t3 t4 t5:Tok}(hne:T1≠T)(X:K.In h)(G:h.Ns mainGlobals mg)(hfa:mg "law" =some (.ref fa))
  (q0:Fk K "is_number" nU)
  (q1:Fk K "is_number_within" rH)
  (q2:Fk K "is_tuple_within" qI)
  (q3:Fk K "is_row" oW)
  (q4:Fk K "is_mead" lQ)
  (q5:Fk K "check_mead" pY)
  (q6:Fk K "places_of_cells" kW)
  (q7:Fk K "cells_of" sU)
  (q8:Fk K "places_beside" rN)
  (q9:Fk K "is_dealt" nL)
  (q10:Fk K "check_dealt" pZ)
  (q11:Fk K "check_dealt_of" sQ)
  (q12:Fk K "seams_of" oN)
  (q13:Fk K "fences_of" mK)
  (q14:Fk K "fences_moved" nB)
  (q15:Fk K "_law_cell" tL)
  (q16:Fk K "_law_pen" pP)
  (q17:Fk K "_law_draw" qB)
  (q18:Fk K "_law_same" mQ)
  (q19:Fk K "_law_thing" iY)
  (q20:Fk K "_law_mead" iO)
  (q21:Fk K "_law_cells" oZ)
  (q22:Fk K "_law_next" qC)
  (q23:Fk K "_law_dealt" oG)
  (q24:Fk K "_law_fences" qS)
  (q25:Fk K "_law_moved" lX)
  (q26:Fk K "_law_good" lK)
  (q27:Fk K "_law_bent" cW)
  (q28:Fk K "_law_told" kU)
  (q29:FkC K "_law_right" eM cR)
  (q30:Fk K "_law_other_mead" oM)
  (q31:FkC K "law" eT cL)
  (v0:W.nsIn K mainGlobals "MOST_ROWS" =some (some (.int 4 t0)))
  (v1:W.nsIn K mainGlobals "MOST_COLUMNS" =some (some (.int 6 t1)))
  (v2:W.nsIn K mainGlobals "MOST_CELLS" =some (some (.int 10 t2)))
  (v3:W.nsIn K mainGlobals "MOST_WORTH" =some (some (.int 99 t3)))
  (v4:W.nsIn K mainGlobals "WATER" =some (some (.int (-2) t4)))
  (v5:W.nsIn K mainGlobals "MOST_HOLDERS" =some (some (.int 4 t5)))
  (z0:W.nsIn K mainGlobals "isinstance" =some none)
  (z1:W.nsIn K mainGlobals "int" =some none)
  (z2:W.nsIn K mainGlobals "bool" =some none)
  (z3:W.nsIn K mainGlobals "tuple" =some none)
  (z4:W.nsIn K mainGlobals "len" =some none)
  (z5:W.nsIn K mainGlobals "all" =some none)
  (z6:W.nsIn K mainGlobals "enumerate" =some none)
  (z7:W.nsIn K mainGlobals "range" =some none)
  (z8:W.nsIn K mainGlobals "list" =some none)
  (z9:W.nsIn K mainGlobals "zip" =some none)
  (z10:W.nsIn K mainGlobals "dict" =some none)
  (z11:W.nsIn K mainGlobals "set" =some none)
  (z12:W.nsIn K mainGlobals "sorted" =some none)
  (z13:W.nsIn K mainGlobals "abs" =some none)
  (z14:W.nsIn K mainGlobals "ValueError" =some none)
  (e0:W.nsIn K mainGlobals "MeadError" =some (some (.ref cE)))
  (e1:W.nsIn K mainGlobals "NoMead" =some (some (.ref cM)))
  (e2:W.nsIn K mainGlobals "NoParting" =some (some (.ref cP)))
  (e3:W.nsIn K mainGlobals "NoDealt" =some (some (.ref cD)))
  (x0:W.excIn K cD [.type "ValueError",.type "Exception",.type "BaseException",.type "object"] "ValueError.__new__" =true)
  (x1:W.subIn K (.ref cE) (.type "BaseException")=some true)
  (x3:W.kitOne K (.ref cD) (.ref cM)=some false)
  (x4:W.kitOne K (.ref cD) (.ref cP)=some false)
  (x5:W.kitOne K (.ref cD) (.type "ValueError")=some true)
  (x6:W.kitOne K (.ref cD) (.ref cE)=some true)
  (x7:(Value.ref cD==Value.ref cE)=false)
  (y1:W.findIn K (.ref cD) "__class__" =some (some (.builtin "object.__class__")))
  (y2:W.findIn K (.ref cD) "__getattribute__" =some (some (.builtin "BaseException.__getattribute__")))
  (y3:W.findIn K (.ref cD) "__getattr__" =some none)
  (y4:W.mroIn K cD (.type "object")=some true)
  (y5:W.mroIn K cD (.type "BaseException")=some true)
  (y6:W.specialIn K (.builtin "object.__class__") "__get__" =some (some (.builtin "getset_descriptor.__get__")))
  (y7:W.takesIn K (.builtin "object.__class__")=some true):
  ∃fd:FuncData,(∀(s:Shared)(v:Value),BindsTo s fd ⟨[v],[]⟩ [("_law_script",v)])/\∀base:Heap,K.In base->base.Ns mainGlobals mg->(∀q∈[(cR,T1),(cL,T)],W.CodeHd base q.1 q.2)->cU mg base->FnOk l.prog w K mg base CX0 14 fa fd ["_law_script"] (nY K T1 T):=by
 have T':Txt mg:=⟨W.mg_none_of X G z0,W.mg_none_of X G z1,W.mg_none_of X G z2,W.mg_none_of X G z3,W.mg_none_of X G z4,W.mg_none_of X G z5,W.mg_none_of X G z6,⟨_,W.mg_of X G v0⟩,⟨_,W.mg_of X G v1⟩,⟨_,W.mg_of X G v2⟩,⟨_,W.mg_of X G v3⟩,⟨_,W.mg_of X G v4⟩⟩
 have T2:dY mg:=⟨W.mg_none_of X G z7,W.mg_none_of X G z8,W.mg_none_of X G z9,W.mg_none_of X G z10,W.mg_none_of X G z11,W.mg_none_of X G z12,W.mg_none_of X G z13,⟨_,W.mg_of X G v5⟩⟩
 have C:Cls K mg cE cM cP cD:=⟨W.mg_of X G e0,W.mg_of X G e1,W.mg_of X G e2,W.mg_of X G e3,W.mg_none_of X G z14,⟨x0⟩,⟨A5p x0,y1,y2,y3,y4,y5,y6,y7⟩,A8q x1 x6 x7,A8d,x3,x4,x5⟩
 obtain⟨_,d0,F0,m0,k0⟩:=q0.fn X G
 have b0:=F0.binds (ps:=["thing"]) fun _ _ _ _ _ _ us hl=>match us,hl with| [_],_=>rfl
 obtain⟨_,d1,F1,m1,k1⟩:=q1.fn X G
 have b1:=F1.binds (ps:=["thing","least","most"]) fun _ _ _ _ _ _ us hl=>match us,hl with| [_,_,_],_=>rfl
 obtain⟨_,d2,F2,m2,k2⟩:=q2.fn X G
 have b2:=F2.binds (ps:=["thing","least","most"]) fun _ _ _ _ _ _ us hl=>match us,hl with| [_,_,_],_=>rfl
 obtain⟨_,d3,F3,m3,k3⟩:=q3.fn X G
 have b3:=F3.binds (ps:=["thing"]) fun _ _ _ _ _ _ us hl=>match us,hl with| [_],_=>rfl
 obtain⟨_,d4,F4,m4,k4⟩:=q4.fn X G
 have b4:=F4.binds (ps:=["thing"]) fun _ _ _ _ _ _ us hl=>match us,hl with| [_],_=>rfl
 obtain⟨_,d5,F5,m5,k5⟩:=q5.fn X G
 have b5:=F5.binds (ps:=["mead"]) fun _ _ _ _ _ _ us hl=>match us,hl with| [_],_=>rfl
 obtain⟨_,d6,F6,m6,k6⟩:=q6.fn X G
 have b6:=F6.binds (ps:=["mead"]) fun _ _ _ _ _ _ us hl=>match us,hl with| [_],_=>rfl
 obtain⟨_,d7,F7,m7,k7⟩:=q7.fn X G
 have b7:=F7.binds (ps:=["mead"]) fun _ _ _ _ _ _ us hl=>match us,hl with| [_],_=>rfl
 obtain⟨_,d8,F8,m8,k8⟩:=q8.fn X G
 have b8:=F8.binds (ps:=["place"]) fun _ _ _ _ _ _ us hl=>match us,hl with| [_],_=>rfl
 obtain⟨_,d9,F9,m9,k9⟩:=q9.fn X G
 have b9:=F9.binds (ps:=["thing"]) fun _ _ _ _ _ _ us hl=>match us,hl with| [_],_=>rfl
 obtain⟨_,d10,F10,m10,k10⟩:=q10.fn X G
 have b10:=F10.binds (ps:=["dealt"]) fun _ _ _ _ _ _ us hl=>match us,hl with| [_],_=>rfl
 obtain⟨_,d11,F11,m11,k11⟩:=q11.fn X G
 have b11:=F11.binds (ps:=["mead","dealt"]) fun _ _ _ _ _ _ us hl=>match us,hl with| [_,_],_=>rfl
 obtain⟨_,d12,F12,m12,k12⟩:=q12.fn X G
 have b12:=F12.binds (ps:=["mead"]) fun _ _ _ _ _ _ us hl=>match us,hl with| [_],_=>rfl
 obtain⟨_,d13,F13,m13,k13⟩:=q13.fn X G
 have b13:=F13.binds (ps:=["dealt"]) fun _ _ _ _ _ _ us hl=>match us,hl with| [_],_=>rfl
 obtain⟨_,d14,F14,m14,k14⟩:=q14.fn X G
 have b14:=F14.binds (ps:=["one","other"]) fun _ _ _ _ _ _ us hl=>match us,hl with| [_,_],_=>rfl
 obtain⟨_,d15,F15,m15,k15⟩:=q15.fn X G
 have b15:=F15.binds (ps:=["_law_script","_law_k"]) fun _ _ _ _ _ _ us hl=>match us,hl with| [_,_],_=>rfl
 obtain⟨_,d16,F16,m16,k16⟩:=q16.fn X G
 have b16:=F16.binds (ps:=["_law_cell_here"]) fun _ _ _ _ _ _ us hl=>match us,hl with| [_],_=>rfl
 obtain⟨_,d17,F17,m17,k17⟩:=q17.fn X G
 have b17:=F17.binds (ps:=["_law_pen_here","_law_many"]) fun _ _ _ _ _ _ us hl=>match us,hl with| [_,_],_=>rfl
 obtain⟨_,d18,F18,m18,k18⟩:=q18.fn X G
 have b18:=F18.binds (ps:=["_law_thing_here","_law_due"]) fun _ _ _ _ _ _ us hl=>match us,hl with| [_,_],_=>rfl
 obtain⟨_,d19,F19,m19,k19⟩:=q19.fn X G
 have b19:=F19.binds (ps:=["_law_pen_here","_law_deep"]) fun _ _ _ _ _ _ us hl=>match us,hl with| [_,_],_=>rfl
 obtain⟨_,d20,F20,m20,k20⟩:=q20.fn X G
 have b20:=F20.binds (ps:=["_law_pen_here","_law_most"]) fun _ _ _ _ _ _ us hl=>match us,hl with| [_,_],_=>rfl
 obtain⟨_,d21,F21,m21,k21⟩:=q21.fn X G
 have b21:=F21.binds (ps:=["_law_mead_here"]) fun _ _ _ _ _ _ us hl=>match us,hl with| [_],_=>rfl
 obtain⟨_,d22,F22,m22,k22⟩:=q22.fn X G
 have b22:=F22.binds (ps:=["_law_one","_law_other"]) fun _ _ _ _ _ _ us hl=>match us,hl with| [_,_],_=>rfl
 obtain⟨_,d23,F23,m23,k23⟩:=q23.fn X G
 have b23:=F23.binds (ps:=["_law_pen_here","_law_mead_here"]) fun _ _ _ _ _ _ us hl=>match us,hl with| [_,_],_=>rfl
 obtain⟨_,d24,F24,m24,k24⟩:=q24.fn X G
 have b24:=F24.binds (ps:=["_law_mead_here","_law_numbers"]) fun _ _ _ _ _ _ us hl=>match us,hl with| [_,_],_=>rfl
 obtain⟨_,d25,F25,m25,k25⟩:=q25.fn X G
 have b25:=F25.binds (ps:=["_law_mead_here","_law_one","_law_other"]) fun _ _ _ _ _ _ us hl=>match us,hl with| [_,_,_],_=>rfl
 obtain⟨_,d26,F26,m26,k26⟩:=q26.fn X G
 have b26:=F26.binds (ps:=["_law_thing_here"]) fun _ _ _ _ _ _ us hl=>match us,hl with| [_],_=>rfl
 obtain⟨_,d27,F27,m27,k27⟩:=q27.fn X G
 have b27:=F27.binds (ps:=["_law_pen_here","_law_dealt_here"]) fun _ _ _ _ _ _ us hl=>match us,hl with| [_,_],_=>rfl
 obtain⟨_,d28,F28,m28,k28⟩:=q28.fn X G
 have b28:=F28.binds (ps:=["_law_call"]) fun _ _ _ _ _ _ us hl=>match us,hl with| [_],_=>rfl
 obtain⟨_,d29,F29,m29,k29,hc29⟩:=q29.fn X G
 have b29:=F29.binds (ps:=["_law_one","_law_other"]) fun _ _ _ _ _ _ us hl=>match us,hl with| [_,_],_=>rfl
 obtain⟨_,d30,F30,m30,k30⟩:=q30.fn X G
 have b30:=F30.binds (ps:=["_law_mead_here"]) fun _ _ _ _ _ _ us hl=>match us,hl with| [_],_=>rfl
 obtain⟨d31,F31,hcL,hb⟩:=q31.law (y:="_law_script") X G hfa fun _ _ _ _ _ _ _=>rfl
 refine⟨d31,hb,fun base _ _ hCH hBM=> ?_⟩
 have hR:=hCH (cR,T1) zjR
 have hL:=hCH (cL,T) (zjS _ zjR)
 have g0:FnOk l.prog w K mg base CX0 1 _ d0 _ tV:=uB F0 T'
 have g2:FnOk l.prog w K mg base CX0 1 _ d2 _ mW:=A0t F2 T'
 have g1:FnOk l.prog w K mg base CX0 2 _ d1 _ pM:=A8k F1 T' F0 b0 m0
 have g3:FnOk l.prog w K mg base CX0 3 _ d3 _ sO:=A4e F3 T' b2 m2 k2 g2 b1 m1 k1 g1
 have gPla:FnOk l.prog w K mg base CX0 1 _ d6 _ rK:=A2u F6 T'
 have g4:FnOk l.prog w K mg base CX0 4 _ d4 _ nO:=A3w F4 T' b2 m2 k2 g2 b3 m3 k3 g3 b6 m6 k6 gPla
 have g6:FnOk l.prog w K mg base CX0 1 _ d6 _ (gE pos):=A38 F6 T'
 have g5:FnOk l.prog w K mg base CX0 5 _ d5 _ sV:=A0u F5 ⟨m4,k4,b4,g4⟩
 have g7:FnOk l.prog w K mg base CX0 6 _ d7 _ (gE pos):=A7n F7 ⟨m5,k5,b5,g5⟩ ⟨m6,k6,b6,g6⟩
 have g8:FnOk l.prog w K mg base CX0 1 _ d8 _ rP:=A40 F8
 have g9:FnOk l.prog w K mg base CX0 7 _ d9 _ iL:=A3f F9 T' T2 ⟨m2,k2,b2,g2⟩ ⟨m4,k4,b4,g4⟩ ⟨m7,k7,b7,g7⟩ ⟨m1,k1,b1,g1⟩
 have g10:FnOk l.prog w K mg base (CX1 l.prog w) 8 _ d10 _ (nH cD):=A9i F10 ⟨m9,k9,b9,g9⟩ C.mD C.eD
 have g11:FnOk l.prog w K mg base (CX1 l.prog w) 9 _ d11 _ (tQ cD):=A6l F11 ⟨m10,k10,b10,g10⟩ C.mD C.eD
 have g12:FnOk l.prog w K mg base CX0 7 _ d12 _ sW:=A3u F12 ⟨m7,k7,b7,g7⟩ ⟨m8,k8,b8,g8⟩
 have g13:FnOk l.prog w K mg base (CX1 l.prog w) 9 _ d13 _ (jY cD):=A36 F13 T2 ⟨m10,k10,b10,g10⟩ ⟨m7,k7,b7,g7⟩ ⟨m12,k12,b12,g12⟩
 have g14:FnOk l.prog w K mg base (CX1 l.prog w) 10 _ d14 _ (jV cD):=A2y F14 T' T2 ⟨m10,k10,b10,g10⟩ ⟨m11,k11,b11,g11⟩ ⟨m13,k13,b13,g13⟩
 have g15:FnOk l.prog w K mg base CX0 1 _ d15 _ (tM K):=A90 F15 T'
 have g16:FnOk l.prog w K mg base CX0 1 _ d16 _ qP:=A1d F16 T'
 have g17:FnOk l.prog w K mg base CX0 1 _ d17 _ iA:=A49 F17 T'
 have g18:FnOk l.prog w K mg base CX0 5 _ d18 _ (lV 4):=tZ F18 T' T2 m18 b18 4
 have g19:FnOk l.prog w K mg base CX0 9 _ d19 _ (oK 0):=uX F19 T' T2 m19 b19 b17 m17 k17 g17 7
 have g20:FnOk l.prog w K mg base CX0 2 _ d20 _ tU:=A6s F20 T' T2 b17 m17 k17 g17
 have g21:FnOk l.prog w K mg base CX0 1 _ d21 _ (gE pos):=A58 F21 T'
 have g22:FnOk l.prog w K mg base CX0 1 _ d22 _ tF:=A0i F22 T2
 have g23:FnOk l.prog w K mg base CX0 2 _ d23 _ sC:=A29 F23 T' ⟨m17,k17,b17,g17⟩ ⟨m21,k21,b21,g21⟩
 have g24:FnOk l.prog w K mg base CX0 2 _ d24 _ lO:=A52 F24 T' T2 ⟨m21,k21,b21,g21⟩ ⟨m22,k22,b22,g22⟩
 have g25:FnOk l.prog w K mg base CX0 3 _ d25 _ pG:=A1u F25 T' ⟨m24,k24,b24,g24⟩
 have g26:FnOk l.prog w K mg base CX0 1 _ d26 _ iL:=A2l F26 T' T2
 have g27:FnOk l.prog w K mg base CX0 2 _ d27 _ rX:=A54 F27 T' T2 ⟨m17,k17,b17,g17⟩
 have g30:FnOk l.prog w K mg base CX0 1 _ d30 _ qN:=A0k F30
 have g28:gW l.prog w K mg base 12 _ d28 _ (iE l.prog w K mg base cD):=A1p F28 T' C
 have g29:FnOk l.prog w K mg base CX0 13 _ d29 _ (rB T1):=A9u F29 hc29 T2 hR hBM m28 k28 b28 g28 ⟨m18,k18,b18,g18⟩ ⟨m13,k13,b13,g13⟩ ⟨m14,k14,b14,g14⟩ ⟨m25,k25,b25,g25⟩ ⟨m24,k24,b24,g24⟩
 exact A9f F31 hcL T' T2 hL hBM ⟨⟨_,_,⟨m15,k15,b15,g15⟩⟩,⟨_,_,⟨m16,k16,b16,g16⟩⟩,⟨_,_,⟨m20,k20,b20,g20⟩⟩,⟨_,_,⟨m23,k23,b23,g23⟩⟩,⟨_,_,⟨m29,k29,b29,g29⟩⟩,⟨_,_,⟨m30,k30,b30,g30⟩⟩,⟨_,_,m28,k28,b28,g28⟩,⟨_,_,⟨m19,k19,b19,g19⟩⟩,⟨_,_,⟨m27,k27,b27,g27⟩⟩,⟨_,_,⟨m9,k9,b9,g9⟩⟩,⟨_,_,⟨m26,k26,b26,g26⟩⟩,⟨_,_,⟨m13,k13,b13,g13⟩⟩,⟨_,_,⟨m14,k14,b14,g14⟩⟩⟩ hne
theorem walk {l:W.OpenLaw}{q:Program}{loose:List Str}{XP:(Str->Option Value)->Heap->Prop}{YP:World->Heap->Prop}{d:DefRec}{K:Params->W.Frag}{cR T1 cL T:Addr}(hn:l.most=some 63)(hdf:d.params.defaults=[])
  (hY:∀(w:World)(h:Heap),YP w h->(K w.params).In h/\h.get? T1=some (W.tabObj #[])/\h.get? T=some (W.tabObj #[]))
  (F:∀(w:World)(mg:Str->Option Value)(fa:Addr)(h:Heap),(K w.params).In h->h.Ns mainGlobals mg->mg d.name=some (.ref fa)->
   ∃fd:FuncData,(∀(s:Shared)(u:Value),BindsTo s fd ⟨[u],[]⟩ [("_law_script",u)])/\∀base:Heap,(K w.params).In base->base.Ns mainGlobals mg->(∀q∈[(cR,T1),(cL,T)],W.CodeHd base q.1 q.2)->cU mg base->FnOk l.prog w (K w.params) mg base CX0 14 fa fd ["_law_script"] (nY (K w.params) T1 T))
  (hK1:∀w:World,(K w.params).lookup T1=none)(hK2:∀w:World,(K w.params).lookup T=none)(hC1:∀w:World,W.codeHdIn (K w.params) cR T1=true)(hC2:∀w:World,W.codeHdIn (K w.params) cL T=true):
  W.WalkO q loose XP YP l.row.toRowW d [] (fun f vs=>PySem.call f vs):=by
 have two:∀{α:Addr×Addr->Prop},α (cR,T1)->α (cL,T)->∀q∈[(cR,T1),(cL,T)],α q:=fun h1 h2 q hq=>by
  rcases mem_cons.mp hq with rfl|hq
  ·exact h1
  ·rw [mem_singleton.mp hq];exact h2
 refine L2.walk_ofTs (n:=63) (k:=14) (x:="_law_script") (cts:=[(cR,T1),(cL,T)]) (sp:=fun w=>nY (K w.params) T1 T) hn (by decide) hdf ⟨rfl,by decide,by decide,rfl⟩ (fun w h y=> ⟨(hY w h y).1,two (hY w h y).2.1 (hY w h y).2.2⟩) (fun w=>two (hK1 w) (hK2 w)) (fun w=>two (hC1 w) (hC2 w)) F (fun _ H a ns hl hT hS=> ⟨a,ns,rfl,hS,hT (cR,T1) zjR,hT (cL,T) (zjS _ zjR),hl,fun _=>rfl⟩)
end M46
open PySem PySem.W PyProof.Rows L2
namespace PySem.W.Fast
theorem tw11044593277848117943:True:=⟨⟩
theorem tw15135050153573500299:True:=⟨⟩
theorem tw13641062743968630130:True:=⟨⟩
theorem tw11081208301842651237:True:=⟨⟩
theorem tw17047736631408893687:True:=⟨⟩
theorem tw17889882454251309232:True:=⟨⟩
theorem tw11834483064585405844:True:=⟨⟩
theorem tw2973306258591170338:True:=⟨⟩
theorem tw8759788725236164577:True:=⟨⟩
theorem tw5552871351716221634:True:=⟨⟩
theorem tw14212894894748840985:True:=⟨⟩
theorem tw9417396244283720323:True:=⟨⟩
theorem tw14804476621490018512:True:=⟨⟩
theorem tw6701148923193354291:True:=⟨⟩
theorem tw1007730420191589883:True:=⟨⟩
theorem tw343314099661873364:True:=⟨⟩
theorem tw5907570610722556470:True:=⟨⟩
theorem tw14623751614092704087:True:=⟨⟩
theorem tw3159675172863263133:True:=⟨⟩
theorem tw1572328445745154765:True:=⟨⟩
theorem tw18196419094114712524:True:=⟨⟩
theorem tw1678089910779954351:True:=⟨⟩
theorem tw18330833058581021377:True:=⟨⟩
theorem tw9682991698982253735:True:=⟨⟩
theorem tw2610042518387981374:True:=⟨⟩
theorem tw7637251526615512962:True:=⟨⟩
theorem tw10315076837509468153:True:=⟨⟩
theorem tw4196324943473990201:True:=⟨⟩
theorem tw6883511358717993525:True:=⟨⟩
theorem tw934216298477729760:True:=⟨⟩
theorem tw5945915770005429154:True:=⟨⟩
theorem tw8028346964256501672:True:=⟨⟩
theorem tw16316304535256129462:True:=⟨⟩
theorem tw14443277989873112300:True:=⟨⟩
theorem tw17212380343405289933:True:=⟨⟩
theorem tw61928612385492286:True:=⟨⟩
theorem tw10203060401170832069:True:=⟨⟩
theorem tw15316476893966367831:True:=⟨⟩
theorem tw10839543522246487803:True:=⟨⟩
theorem tw3974870616835749931:True:=⟨⟩
theorem tw3540710599615761771:True:=⟨⟩
theorem tw12268108572878770455:True:=⟨⟩
theorem tw3040953342193918515:True:=⟨⟩
theorem tw8664632617104603682:True:=⟨⟩
theorem tw3535198052164438010:True:=⟨⟩
theorem tw1519063597928532305:True:=⟨⟩
theorem tw5684410661403295683:True:=⟨⟩
theorem tw3052913212781999393:True:=⟨⟩
theorem tw16077440617411463170:True:=⟨⟩
theorem tw7634736225203784482:True:=⟨⟩
theorem tw15040426182954507297:True:=⟨⟩
theorem tw8204838907124489210:True:=⟨⟩
theorem tw731982158660020026:True:=⟨⟩
theorem tw18026519524061470424:True:=⟨⟩
theorem tw3168603973270107500:True:=⟨⟩
theorem tw16073604941794894820:True:=⟨⟩
theorem tw5956946557640884594:True:=⟨⟩
theorem tw13140735865710960349:True:=⟨⟩
theorem tw6746632970338754346:True:=⟨⟩
theorem tw9529149405115053506:True:=⟨⟩
theorem tw11004876254302925901:True:=⟨⟩
theorem tw7392572564346609057:True:=⟨⟩
theorem tw6341239576957817761:True:=⟨⟩
theorem tw12156134013569048666:True:=⟨⟩
theorem tw15765832638737918524:True:=⟨⟩
theorem tw8882398607530905900:True:=⟨⟩
theorem tw3837295342663027702:True:=⟨⟩
theorem tw4072302068630033082:True:=⟨⟩
theorem tw8545093584954947210:True:=⟨⟩
theorem tw1573329427209170876:True:=⟨⟩
theorem tw11501743541893102215:True:=⟨⟩
theorem tw12419853198883577292:True:=⟨⟩
theorem tw15129367223338472214:True:=⟨⟩
theorem tw11918089225598820612:True:=⟨⟩
theorem tw16633613084062659387:True:=⟨⟩
theorem tw284582407687364643:True:=⟨⟩
theorem tw6592507898843737363:True:=⟨⟩
theorem tw8515825533019533067:True:=⟨⟩
theorem tw3325738791880728879:True:=⟨⟩
theorem tw7618461058652553636:True:=⟨⟩
theorem tw9759594197628721287:True:=⟨⟩
theorem tw11488420061206635695:True:=⟨⟩
theorem tw11544662845700662801:True:=⟨⟩
theorem tw805241901352347906:True:=⟨⟩
theorem tw14022568946856184860:True:=⟨⟩
theorem tw10089085058519217978:True:=⟨⟩
theorem tw5335567032779530959:True:=⟨⟩
theorem tw17734816879520792203:True:=⟨⟩
theorem tw13158178894682062407:True:=⟨⟩
theorem tw17985975620158361129:True:=⟨⟩
theorem tw12309568205119813439:True:=⟨⟩
theorem tw6712381686937454515:True:=⟨⟩
theorem tw1863950366401327062:True:=⟨⟩
theorem tw8961673212034258370:True:=⟨⟩
theorem tw2015022733622265980:True:=⟨⟩
theorem tw11852450673375585507:True:=⟨⟩
theorem tw4184544105897972028:True:=⟨⟩
theorem tw5445525467409845113:True:=⟨⟩
theorem tw17839367504414697844:True:=⟨⟩
theorem tw9768618430325151835:True:=⟨⟩
theorem tw14244224568180496946:True:=⟨⟩
theorem tw3915849139999941573:True:=⟨⟩
theorem tw798578974328813275:True:=⟨⟩
theorem tw3701459209499648508:True:=⟨⟩
theorem tw13871184020164813487:True:=⟨⟩
theorem tw7503440239919944671:True:=⟨⟩
theorem tw14170085510261454001:True:=⟨⟩
theorem tw6450529674247866541:True:=⟨⟩
theorem tw8138075605358252992:True:=⟨⟩
theorem tw14023145521102078770:True:=⟨⟩
theorem tw4659407620806227003:True:=⟨⟩
theorem tw13018393801541564042:True:=⟨⟩
theorem tw11024688353509699702:True:=⟨⟩
theorem tw4076618454821437311:True:=⟨⟩
theorem tw17104855498925260488:True:=⟨⟩
theorem tw17601033366640135688:True:=⟨⟩
theorem tw14356277802023590448:True:=⟨⟩
theorem tw13614691201004947885:True:=⟨⟩
theorem tw14570886085796052472:True:=⟨⟩
theorem tw4825018542972927557:True:=⟨⟩
theorem tw12266453424962116067:True:=⟨⟩
theorem tw17232960210096980981:True:=⟨⟩
theorem tw3435039574828818055:True:=⟨⟩
theorem tw16130503670087090439:True:=⟨⟩
theorem tw11535139392305910476:True:=⟨⟩
theorem tw17144150821390591959:True:=⟨⟩
theorem tw17821735348376559834:True:=⟨⟩
theorem tw17490304714096515188:True:=⟨⟩
theorem tw6743531376720951990:True:=⟨⟩
theorem tw4376505292921502952:True:=⟨⟩
theorem tw10288090963169639712:True:=⟨⟩
theorem tw15880914413023287114:True:=⟨⟩
theorem tw15754424225615673632:True:=⟨⟩
theorem tw18096297933326985648:True:=⟨⟩
theorem tw7057519874542664067:True:=⟨⟩
theorem tw11090874261670033742:True:=⟨⟩
theorem tw9390153915042110910:True:=⟨⟩
theorem tw11184242344168963619:True:=⟨⟩
theorem tw8674479702511988690:True:=⟨⟩
theorem tw13209680754450242791:True:=⟨⟩
theorem tw7497187794911821668:True:=⟨⟩
theorem tw9835835312127445286:True:=⟨⟩
theorem tw7586176379232896140:True:=⟨⟩
theorem tw4882183767724725688:True:=⟨⟩
theorem tw6691985144437529799:True:=⟨⟩
theorem tw213137724336523263:True:=⟨⟩
theorem tw416152834342407642:True:=⟨⟩
theorem tw18307565408362734774:True:=⟨⟩
theorem tw9083398457029149989:True:=⟨⟩
theorem tw16358331722970967394:True:=⟨⟩
theorem tw18180584155458052180:True:=⟨⟩
theorem tw1862648357449399018:True:=⟨⟩
theorem tw128042989565110390:True:=⟨⟩
theorem tw6339539266642457425:True:=⟨⟩
theorem tw205661351675498207:True:=⟨⟩
theorem tw15554130289271089743:True:=⟨⟩
theorem tw174045219421703161:True:=⟨⟩
theorem tw585954807753981429:True:=⟨⟩
theorem tw12095629119459126323:True:=⟨⟩
theorem tw16468789041997293751:True:=⟨⟩
theorem tw5663060427189750647:True:=⟨⟩
theorem tw6328659523831090389:True:=⟨⟩
theorem tw17868682944787391872:True:=⟨⟩
theorem tw585601755219085551:True:=⟨⟩
theorem tw9788259248732150549:True:=⟨⟩
theorem tw3696461815659984365:True:=⟨⟩
theorem tw5269242432915731713:True:=⟨⟩
theorem tw8141559212697607260:True:=⟨⟩
theorem tw7488395801612122592:True:=⟨⟩
theorem tw8382593813574077898:True:=⟨⟩
theorem tw14893028432055220953:True:=⟨⟩
theorem tw4226582238152307435:True:=⟨⟩
theorem tw8823164184472015466:True:=⟨⟩
theorem tw85856370882622461:True:=⟨⟩
theorem tw13351960424617672770:True:=⟨⟩
theorem tw15833407730697121899:True:=⟨⟩
theorem tw12827717962515912172:True:=⟨⟩
theorem tw12146102210756814647:True:=⟨⟩
theorem tw15092057151358343877:True:=⟨⟩
theorem tw14775632101526141169:True:=⟨⟩
theorem tw10547090065915927091:True:=⟨⟩
theorem tw4524538615540365121:True:=⟨⟩
theorem tw325933204617708207:True:=⟨⟩
theorem tw4774225898171566674:True:=⟨⟩
theorem tw4072304667419135473:True:=⟨⟩
theorem tw17509583128040555499:True:=⟨⟩
theorem tw1543933651125370809:True:=⟨⟩
theorem tw7511156508368773500:True:=⟨⟩
theorem tw10923964719775081044:True:=⟨⟩
theorem tw16062810624819204122:True:=⟨⟩
theorem tw17514929311922283155:True:=⟨⟩
theorem tw15847537530363346498:True:=⟨⟩
theorem tw8632809340508188469:True:=⟨⟩
theorem tw5889446357600004797:True:=⟨⟩
theorem tw798749894158090376:True:=⟨⟩
theorem tw7988594682835354101:True:=⟨⟩
theorem tw3259569837319206500:True:=⟨⟩
theorem tw17494895646275004573:True:=⟨⟩
theorem tw4523745156647930503:True:=⟨⟩
theorem tw5038474494128649986:True:=⟨⟩
end PySem.W.Fast
set_option maxRecDepth 100000 in
set_option maxHeartbeats 0 in
theorem PySem.Challenge.cw_meadshares_k46_fences_holds : PySem.Challenge.rw_meadshares_k46_fences.Holds := by
 w_on;o_law;k_head;(case hw=>w_witness2)
 k_fill
 refine' M46.walk (l:=PySem.Challenge.rw_meadshares_k46_fences) rfl rfl (T1:=244) (T:=258) (fun w h Y=> ⟨PySem.W.km_in_of Y,PySem.W.km_tabs_of Y 244 (by simp),PySem.W.km_tabs_of Y 258 (by simp)⟩) ?F ?K1 ?K2 ?C1 ?C2
 case F=>
  intro w mg fa h KX G hmg
  refine' M46.all_mk (by decide) KX G hmg ?q0 ?q1 ?q2 ?q3 ?q4 ?q5 ?q6 ?q7 ?q8 ?q9 ?q10 ?q11 ?q12 ?q13 ?q14 ?q15 ?q16 ?q17 ?q18 ?q19 ?q20 ?q21 ?q22 ?q23 ?q24 ?q25 ?q26 ?q27 ?q28 ?q29 ?q30 ?q31 ?v0 ?v1 ?v2 ?v3 ?v4 ?v5 ?z0 ?z1 ?z2 ?z3 ?z4 ?z5 ?z6 ?z7 ?z8 ?z9 ?z10 ?z11 ?z12 ?z13 ?z14 ?e0 ?e1 ?e2 ?e3 ?x0 ?x1 ?x3 ?x4 ?x5 ?x6 ?x7 ?y1 ?y2 ?y3 ?y4 ?y5 ?y6 ?y7
  (case q0|q1|q2|q3|q4|q5|q6|q7|q8|q9|q10|q11|q12|q13|q14|q15|q16|q17|q18|q19|q20|q21|q22|q23|q24|q25|q26|q27|q28=>refine' vK ?a ?l ?c ?k;(case a|l|c|k=>k_is))
  (case q29=>refine' vH ?a ?l ?c ?k;(case a|l|c|k=>k_is))
  (case q30=>refine' vK ?a ?l ?c ?k;(case a|l|c|k=>k_is))
  (case q31=>refine' vH ?a ?l ?c ?k;(case a|l|c|k=>k_is))
  (case v0|v1|v2|v3|v4|v5|z0|z1|z2|z3|z4|z5|z6|z7|z8|z9|z10|z11|z12|z13|z14|e0|e1|e2|e3=>k_is)
  (case x0=>k_exc)
  (case x1=>k_is)
  (case x3|x4|x5|x6=>kit_is)
  (case x7=>first|rfl|decide)
  (case y1|y2|y3|y4|y5|y6|y7=>k_is)
 case K1=>intro w;first|rfl|kernel_rfl|k_is
 case K2=>intro w;first|rfl|kernel_rfl|k_is
 case C1=>intro w;first|kernel_rfl|k_is|rfl
 case C2=>intro w;first|kernel_rfl|k_is|rfl