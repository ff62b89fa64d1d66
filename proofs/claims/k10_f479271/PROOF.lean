import PyProof.Rows.All
import Wide.All
import OpenK.AllK
import Wide.FinOn
import Lean
import PyProof.EqAt
import PyProof.EqKinds
import PyProof.TupleCall
import KE.LcSums
import KE.KDictOf
import PyProof.Cells
import PyProof.ZipIter
import KE.KTryMore
import KE.KSortTup
import PyProof.DictItems
import PyProof.NeKinds
import PyProof.Rows.SetFrom
import PyProof.CollectWalk
import KE.KSortedM
import KE.KRevIter
import PyProof.DictIter
import PyProof.ReprRoads
import PyProof.ReprLen
import PyProof.CallFns
import PyProof.Rows.ReprOcc
import PySem.Challenge.RW_meadshares_k10_lacks
set_option Elab.async false
set_option linter.all false
set_option maxRecDepth 100000
open List (all_cons all_eq_true all_map any_cons any_eq_false any_eq_true any_map append_assoc append_nil cons_append countP_cons eq_nil_of_length_eq_zero exists_cons_of_ne_nil ext_getElem filter filterMap_cons filter_append filter_cons_of_neg filter_cons_of_pos find?_cons findIdx? flatten_cons foldl foldl_cons forIn_cons forIn_nil getD_eq_getElem?_getD getElem?_drop getElem?_eq_getElem getElem?_map getElem_inj getElem_mem getElem_of_mem head?_append length_append length_cons length_drop length_filter_le length_map length_nil length_range length_singleton length_take length_zip lookup lookup_append lookup_cons map_append map_congr_left map_cons map_drop map_map map_nil map_tail mem_append mem_append_left mem_append_right mem_cons mem_filter mem_filterMap mem_iff_getElem? mem_map mem_map_of_mem mem_of_getElem? mem_of_mem_take mem_singleton mem_zipIdx_iff_getElem? nodup_append nodup_cons nodup_nil not_mem_nil of_mem_zip pairwise_cons pairwise_iff_getElem pairwise_map replicate replicate_succ size_toArray sublist_nil sum_append sum_cons take_of_length_le take_succ toArray zipIdx_cons zipIdx_nil zip_cons_cons)
open PySem.Heap (get?_push_size get?_update_other get?_update_self size_push size_update)
open Nat (le_of_eq le_of_lt le_succ le_trans lt_irrefl lt_of_lt_of_le lt_of_succ_lt lt_succ_of_lt lt_succ_self lt_trans mod_lt mul_comm ne_of_gt ne_of_lt not_lt pow_le_pow_right zero_le)
def zjZ:=@PySem.wpAny_bind
def zjY:=@PySem.wpAny_pure
def zjX:=@PySem.Heap.get?_push_of_some
def zjW:=@List.getElem?_eq_some_iff
def zjV:=@decide_eq_true
def zjU:=@decide_eq_false
def zjT:=@PySem.Heap.lt_size
def zjS:=@List.mem_cons_of_mem
def zjR:=@List.mem_cons_self
def zjQ:=@Nat.le_refl
set_option hygiene false
local macro_rules | `(tactic| ac_nf) => `(tactic| intro nd f cdv A outer s H vs Q E hr h)
set_option hygiene true
local macro_rules | `(tactic| ac_rfl) => `(tactic| exact ⟨rfl, rfl, rfl, by decide +kernel, rfl, by decide +kernel, by decide +kernel⟩)
local macro_rules | `(tactic| omega) => `(tactic| lia)
namespace L2
open PySem PySem.Spec PyProof.Rows
abbrev Key:=Sum Int Str
def lL:Key->Value->Bool
 | .inl k,v=>Value.isInt k v
 | .inr x,v=>Value.isStrOf x v
def A35 (w:World):Key->Int
 | .inl k=>hashInt k
 | .inr x=>hashStr w x
theorem keyIs_shape:∀{k:Key}{v:Value},lL k v=true->(∃i t,k=Sum.inl i/\v=Value.int i t)\/(∃x t,k=Sum.inr x/\v=Value.str x t)
 | .inl i,v,h=>by
  obtain⟨t,e⟩:=Value.isInt_shape (k:=i) (v:=v) h;exact .inl ⟨i,t,rfl,e⟩
 | .inr x,v,h=>by
  obtain⟨t,e⟩:=Value.isStrOf_shape (x:=x) (v:=v) h;exact .inr ⟨x,t,rfl,e⟩
theorem A60 (i:Int)(t:Tok):lL (.inl i) (.int i t)=true:=by simp [lL,Value.isInt]
theorem A3n (x:Str)(t:Tok):lL (.inr x) (.str x t)=true:=by simp [lL,Value.isStrOf]
theorem A7w (a b:Int):decide ((Sum.inl a:Key)=Sum.inl b)=(a==b):=by
 by_cases e:a=b
 ·subst e;simp
 ·have h:¬(Sum.inl a:Key)=Sum.inl b:=fun q=>e (Sum.inl.inj q);rw [zjU h];exact(beq_eq_false_iff_ne.mpr e).symm
theorem B32 (a b:Str):decide ((Sum.inr a:Key)=Sum.inr b)=decide (a=b):=by
 by_cases e:a=b
 ·subst e;simp
 ·have h:¬(Sum.inr a:Key)=Sum.inr b:=fun q=>e (Sum.inr.inj q);rw [zjU h,zjU e]
theorem A84 (a:Int)(b:Str):decide ((Sum.inl a:Key)=Sum.inr b)=false:=zjU (fun q=>nomatch q)
theorem A70 (a:Str)(b:Int):decide ((Sum.inr a:Key)=Sum.inl b)=false:=zjU (fun q=>nomatch q)
def dN (prog:Program)(w:World):PySem.KeyKind prog w Key where
 is:=lL
 hash:=A35 w
 inj:=fun v a b ha hb=>by
  rcases keyIs_shape ha with⟨i,t,rfl,rfl⟩| ⟨x,t,rfl,rfl⟩
  ·rcases keyIs_shape hb with⟨j,u,rfl,e⟩| ⟨y,u,rfl,e⟩
   ·injection e with e1 _;rw [e1]
   ·exact nomatch e
  ·rcases keyIs_shape hb with⟨j,u,rfl,e⟩| ⟨y,u,rfl,e⟩
   ·exact nomatch e
   ·injection e with e1 _;rw [e1]
 byValue:=fun k v h=>by
  rcases keyIs_shape h with⟨i,t,rfl,rfl⟩| ⟨x,t,rfl,rfl⟩<;>rfl
 pyHash:=fun hv h=>by
  rcases keyIs_shape hv with⟨i,t,rfl,rfl⟩| ⟨x,t,rfl,rfl⟩
  ·exact wpAny_pyHash_int h
  ·exact wpAny_pyHash_str h
 eqBool:=fun hu hv h=>by
  rcases keyIs_shape hu with⟨i,t,rfl,rfl⟩| ⟨x,t,rfl,rfl⟩
  ·rcases keyIs_shape hv with⟨j,u,rfl,rfl⟩| ⟨y,u,rfl,rfl⟩
   ·rw [A7w]at h;exact wpAny_eqBool_int h
   ·rw [A84]at h;exact SeqAt.EqAt.int_str i t y u _ _ _ _ h
  ·rcases keyIs_shape hv with⟨j,u,rfl,rfl⟩| ⟨y,u,rfl,rfl⟩
   ·rw [A70]at h;exact SeqAt.EqAt.str_int x t j u _ _ _ _ h
   ·rw [B32]at h;exact wpAny_eqBool_str h
 «strs»:=fun k x t v h=>by
  rcases keyIs_shape h with⟨i,u,rfl,e⟩| ⟨y,u,rfl,e⟩
  ·exact nomatch e
  ·injection e with e1 _;subst e1;cases v<;>rfl
theorem A3x (prog:Program)(w:World)(i:Int)(t:Tok):(dN prog w).is (.inl i) (.int i t)=true:=A60 i t
theorem B3l (prog:Program)(w:World)(x:Str)(t:Tok):(dN prog w).is (.inr x) (.str x t)=true:=A3n x t
inductive V where
 |non|bl (b:Bool)|int (i:Int)|str (x:Str)|byt (b:Array UInt8)|flt (b:UInt64)|ref (a:Addr)|ty (n:String)
 deriving DecidableEq
def RelV:V->Value->Prop
 | .non,u=>u=Value.none
 | .bl b,u=>u=Value.bool b
 | .int i,u=> ∃t,u=Value.int i t
 | .str x,u=> ∃t,u=Value.str x t
 | .byt b,u=> ∃t,u=Value.bytes b t
 | .flt b,u=> ∃t,u=Value.float b t
 | .ref a,u=>u=Value.ref a
 | .ty n,u=>u=Value.type n
abbrev Vals:List V->List Value->Prop:=Paired RelV
theorem Vals.length {xs:List V}{us:List Value}(r:Vals xs us):xs.length=us.length:=Paired.length r
theorem Vals.get:∀{xs:List V}{us:List Value}{i:Nat}{x:V},Vals xs us->xs[i]?=some x->∃u,us[i]?=some u/\RelV x u
 |_,_,_,_,.nil,e=>by simp at e
 |_,_,0,_,.cons r _,e=>by simp at e;subst e;exact⟨_,rfl,r⟩
 |_,_,i+1,x,.cons _ t,e=>by
  obtain⟨u,h1,h2⟩:=Vals.get (i:=i) (x:=x) t (by simpa using e);exact⟨u,by simpa using h1,h2⟩
theorem Vals.set {x:V}{u:Value}(r:RelV x u):∀{xs:List V}{us:List Value}(i:Nat),Vals xs us->Vals (xs.set i x) (us.set i u)
 |_,_,_,.nil=> .nil
 |_,_,0,.cons _ t=> .cons r t
 |_,_,i+1,.cons q t=> .cons q (Vals.set r i t)
theorem Vals.append:∀{xs ys:List V}{us ws:List Value},Vals xs us->Vals ys ws->Vals (xs++ys) (us++ws)
 |_,_,_,_,.nil,s=>s
 |_,_,_,_,.cons r t,s=> .cons r (Vals.append t s)
theorem Vals.take:∀{xs:List V}{us:List Value}(n:Nat),Vals xs us->Vals (xs.take n) (us.take n)
 |_,_,0,_=> .nil
 |_,_,_+1,.nil=> .nil
 |_,_,n+1,.cons r t=> .cons r (Vals.take n t)
theorem Vals.drop:∀{xs:List V}{us:List Value}(n:Nat),Vals xs us->Vals (xs.drop n) (us.drop n)
 |_,_,0,r=>r
 |_,_,_+1,.nil=> .nil
 |_,_,n+1,.cons _ t=>Vals.drop n t
theorem Vals.none_of:∀{xs:List V}{us:List Value}{i:Nat},Vals xs us->xs[i]?=none->us[i]?=none:=fun{xs us i} r e=>by
 have h1:=r.length;have h2:xs.length<=i:=List.getElem?_eq_none_iff.mp e;exact List.getElem?_eq_none_iff.mpr (by omega)
def RelO:Option V->Option Value->Prop
 |some v,some u=>RelV v u
 |none,none=>True
 |_,_=>False
def KV {κ:Type}:List (κ×V)->List (κ×Value)->Prop:=Paired fun(p:κ×V) (q:κ×Value)=>p.1=q.1/\RelV p.2 q.2
def kV:Key->V
 | .inl i=> .int i
 | .inr x=> .str x
inductive HO where
  |lst (xs:List V)
  |tup (xs:List V)
  |dK (kvs:List (Key×V))|dT (kvs:List (List Key×V))
  |set (S:Int->Bool) (n:Nat)
  |ins (C dx:Addr) (fs:List (Str×V))
  |own (x:Addr)
  |xd (fs:List (Str×V))
  |met (f x:Addr)
  |rng (lo hi:Int)
  |frz (o:Obj) (u:HO)
  |tbl (ps:Array Value)
  |ext (φ:Heap->Prop)
abbrev Hp:=Addr->Option HO
def upd (H:Hp)(a:Addr)(o:HO):Hp:=fun b=>if b=a then some o else H b
theorem aD {H:Hp}{a:Addr}{o:HO}:upd H a o a=some o:=by unfold upd;rw [if_pos rfl]
theorem aV {H:Hp}{a b:Addr}{o:HO}(h:b≠a):upd H a o b=H b:=by unfold upd;rw [if_neg h]
theorem qW {H:Hp}{a b:Addr}{o u:HO}(h:H a=some o)(h':H b=some u)(d:o≠u):a≠b:=by intro e;subst e;rw [h]at h';exact d (Option.some.inj h')
theorem bL {H:Hp}{a b:Addr}{o:HO}(h:H a=some o)(h':H b=none):a≠b:=by intro e;subst e;rw [h]at h';cases h'
section
variable (P:Program)(w:World)
def ObjOk (H:Hp)(h:Heap)(a:Addr):HO->Prop
 | .lst xs=>xs.length<=sizeLine/\∃(its:List Value)(n:Nat),Vals xs its/\h.get? a=some {cls:=.type "list",data:=.seq its.toArray n}
 | .tup xs=>xs.length<=sizeLine/\∃its:List Value,Vals xs its/\IsTup h a its.toArray
 | .dK kvs=>kvs.length<=sizeLine/\(a==sysModules)=false/\∃vs,KV kvs vs/\h.DictOf (dN P w) a vs
 | .dT kvs=>kvs.length<=sizeLine/\(a==sysModules)=false/\∃xs:List (List Key×Addr×Value),
   Paired (fun(p:List Key×V) (q:List Key×Addr×Value)=>p.1=q.1/\H q.2.1=some (.tup (p.1.map kV))/\RelV p.2 q.2.2) kvs xs/\
   ∃o es ep,h.get? a=some o/\o.ExactDict/\o.data= .dict es ep/\es.toList=xs.map (entryOfKey (tupleKind (dN P w)))/\(xs.map (·.1)).Nodup
 | .set S n=>h.SetOf (intKind P w) a S n
 | .ins C dx fs=>H dx=some (.own a)/\fs.length<=1000/\dx≠a/\h.get? a=some (W.instObj C dx)/\
   ∃mA,h.Ns1 dx mA/\(∀f,RelO (fs.lookup f) (mA f))/\PySem.Within mA (fs.map (·.1))
 | .own _=> ∃o,h.get? a=some o
 | .xd fs=> ∃mA,h.Ns1 a mA/\∀f,RelO (fs.lookup f) (mA f)
 | .rng lo hi=> ∃t u v,h.get? a=some {cls:=.type "range",data:=.fields #[.int lo t,.int hi u,.int 1 v]}
 | .frz o u=>h.get? a=some o/\ObjOk H h a u
 | .tbl ps=>h.get? a=some {cls:=.none,data:=.fields ps}
 | .met f x=>h.get? a=some (W.methodObj (.ref f) (.ref x))
 | .ext φ=>φ h/\(∃o,h.get? a=some o)/\∀h1 h2:Heap,φ h1->(∀o,h1.get? a=some o->h2.get? a=some o)->φ h2
def HOk (H:Hp)(h:Heap):Prop:=∀a o,H a=some o->ObjOk P w H h a o
end
section
variable {P:Program}{w:World}{H H':Hp}{h h':Heap}{a:Addr}{o:HO}
theorem ObjOk.lt (x:ObjOk P w H h a o):a<h.objs.size:=by
 cases o with
 |lst xs=>obtain⟨_,_,_,_,e⟩:=x;exact zjT e
 |tup xs=>obtain⟨_,_,_,p⟩:=x;exact p.lt
 |dK kvs=>obtain⟨_,_,_,_,o,_,_,e,_⟩:=x;exact zjT e
 |dT kvs=>obtain⟨_,_,_,_,o,_,_,e,_⟩:=x;exact zjT e
 |set S n=>obtain⟨o,_,_,_,e,_⟩:=x;exact zjT e
 |ins C dx fs=>obtain⟨_,_,_,e,_⟩:=x;exact zjT e
 |own y=>obtain⟨_,e⟩:=x;exact zjT e
 |xd fs=>obtain⟨_,⟨_,_,_,e,_⟩,_⟩:=x;exact zjT e
 |rng lo hi=>obtain⟨_,_,_,e⟩:=x;exact zjT e
 |frz ob u=>obtain⟨e,_⟩:=x;exact zjT e
 |tbl ps=>exact zjT (show h.get? a=some _ from x)
 |met f y=>exact zjT (show h.get? a=some _ from x)
 |ext φ=>obtain⟨_,⟨_,e⟩,_⟩:=x;exact zjT e
theorem Paired.mapP {α β:Type}{F G:α->β->Prop}:∀{l₁:List α}{l₂:List β},Paired F l₁ l₂->(∀a b,F a b->G a b)->Paired G l₁ l₂
 |_,_,.nil,_=> .nil
 |_,_,.cons r t,f=> .cons (f _ _ r) (Paired.mapP t f)
theorem ObjOk.stay (x:ObjOk P w H h a o)(k:∀b u,(b=a\/H b=some (.own a))->h.get? b=some u->h'.get? b=some u)
  (ho:∀b,H b=some (.own a)->H' b=some (.own a))(ht:∀b xs,H b=some (.tup xs)->H' b=some (.tup xs)):ObjOk P w H' h' a o:=by
 induction o with
 |lst xs=>obtain⟨z,its,n,r,e⟩:=x;exact⟨z,its,n,r,k _ _ (.inl rfl) e⟩
 |tup xs=>obtain⟨z,its,r,ob,e,c⟩:=x;exact⟨z,its,r,ob,k _ _ (.inl rfl) e,c⟩
 |dK kvs=>obtain⟨z,y,vs,r,ob,es,ep,e,c⟩:=x;exact⟨z,y,vs,r,ob,es,ep,k _ _ (.inl rfl) e,c⟩
 |dT kvs=>
  obtain⟨z,y,xs,r,ob,es,ep,e,c⟩:=x;exact⟨z,y,xs,Paired.mapP r fun p q z=> ⟨z.1,ht _ _ z.2.1,z.2.2⟩,ob,es,ep,k _ _ (.inl rfl) e,c⟩
 |set S n=>obtain⟨ob,es,ep,t,e,c⟩:=x;exact⟨ob,es,ep,t,k _ _ (.inl rfl) e,c⟩
 |ins C dx fs=>
  obtain⟨d,z,ne,e,mA,⟨od,es,ep,e2,c⟩,r⟩:=x;exact⟨ho _ d,z,ne,k _ _ (.inl rfl) e,mA,⟨od,es,ep,k _ _ (.inr d) e2,c⟩,r⟩
 |own y=>obtain⟨ob,e⟩:=x;exact⟨ob,k _ _ (.inl rfl) e⟩
 |xd fs=>obtain⟨mA,⟨od,es,ep,e,c⟩,r⟩:=x;exact⟨mA,⟨od,es,ep,k _ _ (.inl rfl) e,c⟩,r⟩
 |rng lo hi=>obtain⟨t,u,v,e⟩:=x;exact⟨t,u,v,k _ _ (.inl rfl) e⟩
 |frz ob u ih=>obtain⟨e,q⟩:=x;exact⟨k _ _ (.inl rfl) e,ih q⟩
 |tbl ps=>
  have e:h.get? a=some {cls:=.none,data:=.fields ps}:=x;show h'.get? a=some {cls:=.none,data:=.fields ps};exact k a _ (.inl rfl) e
 |met f y=>
  have e:h.get? a=some (W.methodObj (.ref f) (.ref y)):=x;show h'.get? a=some (W.methodObj (.ref f) (.ref y));exact k a _ (.inl rfl) e
 |ext φ=>obtain⟨p,⟨o,e⟩,st⟩:=x;exact⟨st _ _ p fun o q=>k _ _ (.inl rfl) q,⟨o,k _ _ (.inl rfl) e⟩,st⟩
theorem HOk.lt (x:HOk P w H h)(e:H a=some o):a<h.objs.size:=(x a o e).lt
theorem HOk.fresh (x:HOk P w H h)(e:h.objs.size<=a):H a=none:=by
 cases q:H a with
 |none=>rfl
 |some u=>exact absurd (lt_of_lt_of_le (x.lt q) e) (lt_irrefl _)
theorem HOk.kept (x:HOk P w H h)(k:∀b u,h.get? b=some u->h'.get? b=some u):HOk P w H h':=fun a o e=>
 (x a o e).stay (fun b u _ q=>k b u q) (fun _ q=>q) fun _ _ q=>q
theorem HOk.laid (x:HOk P w H h)(k:∀b u,h.get? b=some u->h'.get? b=some u)(hp:h.objs.size<=a)(new:ObjOk P w (upd H a o) h' a o):HOk P w (upd H a o) h':=fun b u e=>by
 have hn:=x.fresh hp;by_cases hb:b=a
 ·subst hb;rw [aD]at e;cases e;exact new
 ·rw [aV hb]at e;exact(x b u e).stay (fun c v _ q=>k c v q) (fun c q=>by rw [aV (bL q hn)];exact q) fun c xs q=>by rw [aV (bL q hn)];exact q
end
def Rd (H:Hp)(a:Addr)(u:HO):Prop:=H a=some u\/ ∃o,H a=some (.frz o u)
theorem Rd.ok {P:Program}{w:World}{H:Hp}{h:Heap}{a:Addr}{u:HO}(r:Rd H a u)(x:HOk P w H h):ObjOk P w H h a u:=by
 rcases r with r| ⟨o,r⟩
 ·exact x a u r
 ·obtain⟨_,q⟩:=x a _ r;exact q
def Mut:Option HO->Prop
 |some (.lst _)=>True
 |some (.dK _)=>True
 |some (.dT _)=>True
 |some (.set _ _)=>True
 |some (.ins _ _ _)=>True
 |some (.ext _)=>True
 |_=>False
section
variable {P:Program}{w:World}{H:Hp}{h h':Heap}{x e:Addr}{o':HO}
theorem HOk.write (ok:HOk P w H h)(mu:Mut (H x))(he:e=x\/H e=some (.own x))(k:∀b u,b≠e->h.get? b=some u->h'.get? b=some u)(heo:∃u,h'.get? e=some u)
  (new:ObjOk P w (upd H x o') h' x o'):HOk P w (upd H x o') h':=fun b u q=>by
 have nown:∀c y,H c=some (.own y)->c≠x:=fun c y r z=>by subst z;rw [r]at mu;exact mu
 have ntup:∀c xs,H c=some (.tup xs)->c≠x:=fun c xs r z=>by subst z;rw [r]at mu;exact mu
 by_cases hb:b=x
 ·subst hb;rw [aD]at q;cases q;exact new
 ·rw [aV hb]at q;by_cases hbe:b=e
  ·have q':H b=some (.own x):=by
    rcases he with z|z
    ·exact absurd (hbe.trans z) hb
    ·rw [hbe];exact z
   rw [q]at q';cases q';obtain⟨v,hv⟩:=heo;exact⟨v,by rw [hbe];exact hv⟩
  ·refine(ok b u q).stay (fun c v hc r=>k c v ?_ r) (fun c r=>by rw [aV (nown c b r)];exact r) fun c xs r=>by rw [aV (ntup c xs r)];exact r
   rcases hc with rfl|hc
   ·exact hbe
   ·rintro rfl;rcases he with z|z
    ·exact nown c b hc z
    ·rw [hc]at z;cases z;exact hb rfl
end
structure Un (fs ex:List Addr)(H H':Hp)(h h':Heap):Prop where
 keep:∀b o,h.get? b=some o->H b=none->b∉fs->b∉ex->h'.get? b=some o
 slot:∀b o,h.get? b=some o->H b=none->b∈fs->b∉ex->∃sl,h'.get? b=some {o with slots:=sl}
 free:∀b o,h.get? b=some o->H b=none->b∉ex->H' b=none
 there:∀b o,h.get? b=some o->b∉ex->∃o',h'.get? b=some o'
 tups:∀b xs,H b=some (.tup xs)->H' b=some (.tup xs)
 frzs:∀b o u,H b=some (.frz o u)->H' b=some (.frz o u)
 tbls:∀b ps,H b=some (.tbl ps)->∃more,H' b=some (.tbl (ps++more))
section
variable {fs fs' ex ex':List Addr}{H H1 H2:Hp}{h h1 h2 h':Heap}{a x e:Addr}{o:HO}
theorem Un.any (u:Un fs ex H H1 h h1){b:Addr}{ob:Obj}(q:h.get? b=some ob)(n:H b=none)(hx:b∉ex):∃sl,h1.get? b=some {ob with slots:=sl}:=by
 by_cases hb:b∈fs
 ·exact u.slot b ob q n hb hx
 ·exact⟨ob.slots,u.keep b ob q n hb hx⟩
theorem Un.kept (k:∀b u,h.get? b=some u->h'.get? b=some u):Un fs ex H H h h':=
 ⟨fun b ob q _ _ _=>k b ob q,fun b ob q _ _ _=> ⟨ob.slots,k b ob q⟩,fun _ _ _ n _=>n,fun b ob q _=> ⟨ob,k b ob q⟩,fun _ _ q=>q,fun _ _ _ q=>q,fun _ ps q=> ⟨#[],by rw [q];simp⟩⟩
theorem Un.refl:Un fs ex H H h h:=Un.kept fun _ _ q=>q
theorem Un.laid (k:∀b u,h.get? b=some u->h'.get? b=some u)(hp:h.objs.size<=a)(hn:H a=none):Un fs ex H (upd H a o) h h' where
 keep:=fun b u q _ _ _=>k b u q
 slot:=fun b u q _ _ _=> ⟨u.slots,k b u q⟩
 free:=fun b u q n _=>by rw [aV (ne_of_lt (lt_of_lt_of_le (zjT q) hp))];exact n
 there:=fun b u q _=> ⟨u,k b u q⟩
 tups:=fun b xs q=>by rw [aV (bL q hn)];exact q
 frzs:=fun b u xs q=>by rw [aV (bL q hn)];exact q
 tbls:=fun b ps q=> ⟨#[],by rw [aV (bL q hn),q];simp⟩
theorem Un.write (mu:Mut (H x))(he:e=x\/H e=some (.own x))(k:∀b u,b≠e->h.get? b=some u->h'.get? b=some u)(heo:∃u,h'.get? e=some u):Un fs ex H (upd H x o) h h':=by
 have hx:∀b,H b=none->b≠x:=fun b n z=>by subst z;rw [n]at mu;exact mu
 have hb:∀b,H b=none->b≠e:=fun b n z=>by
  subst z;rcases he with r|r
  ·exact hx b n r
  ·rw [n]at r;cases r
 have hm:∀b u,H b=some u->¬Mut (some u)->b≠x:=fun b u q nm z=>by subst z;rw [q]at mu;exact nm mu
 refine⟨fun b u q n _ _=>k b u (hb b n) q,fun b u q n _ _=> ⟨u.slots,k b u (hb b n) q⟩,fun b u q n _=>by rw [aV (hx b n)];exact n,fun b u q _=> ?_,
  fun b xs q=>by rw [aV (hm b _ q fun z=>z)];exact q,fun b u xs q=>by rw [aV (hm b _ q fun z=>z)];exact q,fun b ps q=> ⟨#[],by rw [aV (hm b _ q fun z=>z),q];simp⟩⟩
 by_cases hbe:b=e
 ·subst hbe;exact heo
 ·exact⟨u,k b u hbe q⟩
end
def trk (h:Heap)(H:Hp):List Addr:=(List.range h.objs.size).filter fun a=>(H a).isSome
def iU (h:Heap)(H:Hp):Heap:=W.hideAll h (trk h H)
theorem A6b (h:Heap)(H:Hp):(iU h H).objs.size=h.objs.size:=W.hideAll_size _ _
theorem A5z {h:Heap}{H:Hp}{b:Addr}{o:Obj}(e:h.get? b=some o)(n:H b=none):(iU h H).get? b=some o:=
 W.hideAll_get _ e fun hm=>by
  have q:(H b).isSome=true:=(mem_filter.mp hm).2;rw [n]at q;simp at q
theorem A8f {h:Heap}{H:Hp}{b:Addr}{o:Obj}(e:(iU h H).get? b=some o):h.get? b=some o/\H b=none:=by
 have e':h.get? b=some o:=W.of_hideAll (trk h H) e;refine⟨e',?_⟩;cases q:H b with
 |none=>rfl
 |some x=>
  have hm:b∈trk h H:=mem_filter.mpr ⟨List.mem_range.mpr (zjT e'),by simp [q]⟩;have z:(iU h H).get? b=none:=W.hideAll_none (trk h H) hm;rw [z]at e;cases e
def A49 (g h:Heap)(L:Addr):List (Addr×Obj):=(List.range h.objs.size).filterMap fun a=>if a=L\/(g.get? a).isSome=true then none else(h.get? a).map fun o=>(a,o)
def rest (g h:Heap)(L d:Addr):List (Addr×Obj):=(A49 g h L).filter fun p=>decide (p.1≠d)
structure Mod (K:W.Frag)(mg:Str->Option Value)(base:Heap):Prop where
 kin:K.In base
 glob:base.Ns mainGlobals mg
 blt:∃mb,base.Ns builtinsNs mb/\∀x:Str,x≠ "__name__"->mb x=bootBuiltins x
 nolimit:base.NoLimit
structure Cx where
 prog:Program
 w:World
 K:W.Frag
 mg:Str->Option Value
 base:Heap
 A:Around
 N:List Str
 s₀:Shared
 H₀:Hp
 env:Env
 outer:List Env
 stack:List Env
 ex:List Addr
 fn:Str->Bool
 calm:Bool
 pn:List (Addr×Obj)
 xe:Value->Shared->Prop
def frs (l:List Env):List Addr:=l.filterMap (·.frame)
abbrev Cx.fs (X:Cx):List Addr:=frs X.outer
def Vis (sc:Scope)(x:Str):Prop:=sc.names.lookup x=some .local\/sc.names.lookup x=some .cell\/sc.names.lookup x=some .free
def Loc (sc:Scope)(x:Str):Prop:=sc.names.lookup x=some .local\/sc.names.lookup x=some .cell
def A5d (env:Env)(h:Heap)(m:Str->Option Value)(x:Str)(u:Value):Prop:=
 (env.kindOf x=some .local/\m x=some u)\/((env.kindOf x=some .cell\/env.kindOf x=some .free)/\∃c,env.cells.lookup x=some c/\h.IsCell c (some u))
structure Cx.Ok (X:Cx):Prop where
 mod:Mod X.K X.mg X.base
 kind:X.env.scope.kind= .function
 glob:X.env.globals=mainGlobals
 blt:X.env.builtins=builtinsNs
 above:X.s₀.heap.objs.size<=X.env.locals
 inj:∀x y c,X.env.cells.lookup x=some c->X.env.cells.lookup y=some c->x=y
 has:∀x,(X.env.kindOf x=some .cell\/X.env.kindOf x=some .free)->∃c,X.env.cells.lookup x=some c
 cab:∀x c,X.fn x=true->X.env.cells.lookup x=some c->X.s₀.heap.objs.size<=c
 hd:X.calm=true->X.A.handled=none
 frames:X.A.frames=some X.stack
 stk:X.stack=X.outer\/(X.stack=X.env::X.outer/\X.env.frame=some X.env.locals)
 exf:∀b∈X.ex,b≠X.env.locals/\∀x c,X.env.cells.lookup x=some c->c≠b
 bs:∀b o,X.base.get? b=some o->X.s₀.heap.get? b=some o/\X.H₀ b=none
 bsz:X.base.objs.size<=X.s₀.heap.objs.size
 noex:∀b o,X.base.get? b=some o->b∉X.ex
 exfs:∀b∈X.ex,b∉X.fs
 funs:X.s₀.heap.FunFrames X.base X.outer
 frf:∀b∈X.fs,X.H₀ b=none
structure Inv (X:Cx)(pins:List (Addr×Obj))(σ:List (Option V))(H:Hp)(s:Shared):Prop where
 ok:X.Ok
 os:s.os=X.s₀.os
 bare:AllBare s.gens
 base:Un X.fs X.ex X.H₀ H X.s₀.heap s.heap
 loc:∃m,s.heap.Ns X.env.locals m/\∀(i:Nat)(x:Str)(v:V),X.N[i]?=some x->σ[i]?=some (some v)->Vis X.env.scope x->∃u,RelV v u/\A5d X.env s.heap m x u
 cell:∀x c,X.env.cells.lookup x=some c->∃v,s.heap.IsCell c v
 free:H X.env.locals=none
 freeC:∀x c,X.env.cells.lookup x=some c->H c=none
 pin:∀p∈X.pn++pins,s.heap.get? p.1=some p.2/\H p.1=none/\p.1≠X.env.locals/\p.1∉X.fs/\∀v,p.2.data≠ .cell v
 hok:HOk X.prog X.w H s.heap
 len:σ.length=X.N.length
section
variable {X:Cx}{pins:List (Addr×Obj)}{σ:List (Option V)}{H H':Hp}{s:Shared}{h':Heap}
theorem Cx.Ok.nofr (ok:X.Ok){b:Addr}{o:Obj}(e:X.base.get? b=some o):b∉X.fs:=fun hb=>by
 have:=(ok.funs.mem hb).1;rw [e]at this;cases this
theorem Inv.bs (I:Inv X pins σ H s):∀b o,X.base.get? b=some o->s.heap.get? b=some o/\H b=none:=fun b o e=>
 ⟨I.base.keep b o (I.ok.bs b o e).1 (I.ok.bs b o e).2 (I.ok.nofr e) (I.ok.noex b o e),I.base.free b o (I.ok.bs b o e).1 (I.ok.bs b o e).2 (I.ok.noex b o e)⟩
theorem Inv.bk (I:Inv X pins σ H s):∀b o,X.base.get? b=some o->s.heap.get? b=some o:=fun b o e=>(I.bs b o e).1
theorem Inv.mod (I:Inv X pins σ H s):Mod X.K X.mg X.base:=I.ok.mod
theorem Inv.kIn (I:Inv X pins σ H s):X.K.In s.heap:=I.ok.mod.kin.keeps I.bk
theorem Inv.lt (I:Inv X pins σ H s):X.env.locals<s.heap.objs.size:=let ⟨_,hn,_⟩:=I.loc;hn.lt
theorem Inv.sz (I:Inv X pins σ H s):X.s₀.heap.objs.size<=s.heap.objs.size:=le_trans I.ok.above (le_of_lt I.lt)
theorem Inv.nofs (I:Inv X pins σ H s){a:Addr}(h:s.heap.objs.size<=a):a∉X.fs:=fun hb=>by
 obtain⟨_,o,ho,_⟩:=I.ok.funs.mem hb;exact absurd (lt_of_lt_of_le (zjT ho) (le_trans I.sz h)) (lt_irrefl _)
theorem Inv.cne (I:Inv X pins σ H s):∀x c,X.env.cells.lookup x=some c->c≠X.env.locals:=fun x c e z=>by
 obtain⟨v,o,ho,hd⟩:=I.cell x c e;obtain⟨m,⟨o',es,ep,ho',hd',_⟩,_⟩:=I.loc;rw [z,ho']at ho;cases ho;rw [hd']at hd;cases hd
theorem Inv.funs (I:Inv X pins σ H s):s.heap.FunFrames X.base X.outer:=by
 have all:∀(l:List Env),(∀b∈frs l,b∈X.fs)->X.s₀.heap.FunFrames X.base l->s.heap.FunFrames X.base l:=by
  intro l
  induction l with
  |nil=>intro _ _;trivial
  |cons env r ih=>
   intro hs hl;obtain⟨hk,⟨L,o,hf,hn,ho,hd⟩,hr⟩:=hl;have hL:L∈X.fs:=hs L (by unfold frs;rw [filterMap_cons,hf];exact zjR);obtain⟨sl,e⟩:=I.base.slot L o ho (I.ok.frf L hL) hL fun z=>I.ok.exfs L z hL;exact⟨hk,⟨L,_,hf,hn,e,hd⟩,ih (fun b hb=>hs b (by unfold frs;rw [filterMap_cons,hf];exact zjS _ hb)) hr⟩
 exact all X.outer (fun _ hb=>hb) I.ok.funs
theorem Inv.stack (I:Inv X pins σ H s):s.heap.FunFrames X.base X.stack:=by
 rcases I.ok.stk with e| ⟨e,hf⟩
 ·rw [e];exact I.funs
 ·rw [e];obtain⟨m,hn,_⟩:=I.loc;refine .cons (by rw [I.ok.kind];decide) hf hn ?_ I.funs;exact Heap.get?_none_of_le (le_trans I.ok.bsz I.ok.above)
theorem Inv.stkSub (I:Inv X pins σ H s):∀b∈frs X.stack,b∈X.env.locals::X.fs:=fun b hb=>by
 rcases I.ok.stk with e| ⟨e,hf⟩
 ·rw [e]at hb;exact zjS _ hb
 ·rw [e]at hb;unfold frs at hb;rw [filterMap_cons,hf]at hb;exact hb
theorem Inv.stkFree (I:Inv X pins σ H s):∀b∈frs X.stack,H b=none:=fun b hb=>by
 rcases mem_cons.mp (I.stkSub b hb)with e|hb
 ·rw [e];exact I.free
 ·obtain⟨_,o,ho,_⟩:=I.ok.funs.mem hb;exact I.base.free b o ho (I.ok.frf b hb) fun z=>I.ok.exfs b z hb
theorem Inv.step {g':Array GenState}{t':Nat}{d':Drawn}{ch:List Addr}(I:Inv X pins σ H s)
  (hch:∀b∈ch,(b∈X.ex\/X.s₀.heap.objs.size<=b)/\b≠X.env.locals/\(∀x c,X.env.cells.lookup x=some c->c≠b)/\∀p∈X.pn++pins,p.1≠b)
  (keep:∀b o,b≠X.env.locals->b∉X.fs->b∉ch->s.heap.get? b=some o->H b=none->h'.get? b=some o)
  (slot:∀b o,b≠X.env.locals->b∈X.fs->b∉ch->s.heap.get? b=some o->H b=none->∃sl,h'.get? b=some {o with slots:=sl})(free:∀b o,b∉ch->s.heap.get? b=some o->H b=none->H' b=none)
  (there:∀b o,b∉ch->s.heap.get? b=some o->∃o',h'.get? b=some o')
  (tups:∀b xs,H b=some (.tup xs)->H' b=some (.tup xs))(frzs:∀b o u,H b=some (.frz o u)->H' b=some (.frz o u))(tbls:∀b ps,H b=some (.tbl ps)->∃more,H' b=some (.tbl (ps++more)))
  (ns:∀m,s.heap.Ns X.env.locals m->h'.Ns X.env.locals m)(hok:HOk X.prog X.w H' h')(hg:AllBare g'):
  Inv X pins σ H' {s with heap:=h',gens:=g',drawn:=d',toks:=t'}:=by
 have neL:∀b o,X.s₀.heap.get? b=some o->b≠X.env.locals:=fun b o e=>ne_of_lt (lt_of_lt_of_le (zjT e) I.ok.above);have neC:∀b o,X.s₀.heap.get? b=some o->b∉X.ex->b∉ch:=fun b o e hx hb=>by
  rcases(hch b hb).1 with z|z
  ·exact hx z
  ·exact absurd (lt_of_lt_of_le (zjT e) z) (lt_irrefl _)
 have cellK:∀x c,X.env.cells.lookup x=some c->∀v,s.heap.IsCell c v->h'.IsCell c v:=fun x c e v ⟨o,ho,hd⟩=>by
  have nch:c∉ch:=fun z=>(hch c z).2.2.1 x c e rfl;by_cases hc:c∈X.fs
  ·obtain⟨sl,q⟩:=slot c o (I.cne x c e) hc nch ho (I.freeC x c e);exact⟨_,q,hd⟩
  ·exact⟨o,keep c o (I.cne x c e) hc nch ho (I.freeC x c e),hd⟩
 refine⟨I.ok,I.os,hg,⟨fun b o e n hb hx=> ?_,fun b o e n hb hx=> ?_,fun b o e n hx=> ?_,fun b o e hx=> ?_,fun b xs e=>tups b xs (I.base.tups b xs e),fun b o xs e=>frzs b o xs (I.base.frzs b o xs e),fun b ps e=> ?_⟩,?_,fun x c e=> ?_,?_,fun x c e=> ?_,fun p hp=> ?_,hok,I.len⟩
 ·exact keep b o (neL b o e) hb (neC b o e hx) (I.base.keep b o e n hb hx) (I.base.free b o e n hx)
 ·obtain⟨sl,e1⟩:=I.base.slot b o e n hb hx;obtain⟨sl',e2⟩:=slot b _ (neL b o e) hb (neC b o e hx) e1 (I.base.free b o e n hx);exact⟨sl',e2⟩
 ·obtain⟨o',e1⟩:=I.base.there b o e hx;exact free b o' (neC b o e hx) e1 (I.base.free b o e n hx)
 ·obtain⟨o',e1⟩:=I.base.there b o e hx;exact there b o' (neC b o e hx) e1
 ·obtain⟨m1,e1⟩:=I.base.tbls b ps e;obtain⟨m2,e2⟩:=tbls b _ e1;exact⟨m1++m2,by rw [e2,Array.append_assoc]⟩
 ·obtain⟨m,hn,hl⟩:=I.loc;refine⟨m,ns m hn,fun i x v e1 e2 e3=> ?_⟩;obtain⟨u,r,l⟩:=hl i x v e1 e2 e3;refine⟨u,r,?_⟩;rcases l with l| ⟨k,c,e,z⟩
  ·exact .inl l
  ·exact .inr ⟨k,c,e,cellK x c e _ z⟩
 ·obtain⟨v,z⟩:=I.cell x c e;exact⟨v,cellK x c e v z⟩
 ·obtain⟨m,⟨o,_,_,ho,_⟩,_⟩:=I.loc;exact free _ o (fun z=>(hch _ z).2.1 rfl) ho I.free
 ·obtain⟨v,o,ho,hd⟩:=I.cell x c e;exact free c o (fun z=>(hch c z).2.2.1 x c e rfl) ho (I.freeC x c e)
 ·obtain⟨e,n,ne,nf,d⟩:=I.pin p hp;have nch:p.1∉ch:=fun z=>(hch p.1 z).2.2.2 p hp rfl;exact⟨keep p.1 p.2 ne nf nch e n,free p.1 p.2 nch e n,ne,nf,d⟩
theorem Inv.un {t':Nat}(I:Inv X pins σ H s)(u:Un X.fs [] H H' s.heap h')(hok:HOk X.prog X.w H' h'):Inv X pins σ H' {s with heap:=h',toks:=t'}:=by
 obtain⟨m,⟨o,es,ep,ho,r⟩,_⟩:=id I.loc;obtain⟨sl,hL⟩:=u.any ho I.free (by simp);exact I.step (g':=s.gens) (d':=s.drawn) (ch:=[]) (fun _ z=>nomatch z) (fun b o _ hb _ e n=>u.keep b o e n hb (by simp)) (fun b o _ hb _ e n=>u.slot b o e n hb (by simp)) (fun b o _ e n=>u.free b o e n (by simp)) (fun b o _ e=>u.there b o e (by simp)) u.tups u.frzs u.tbls (fun m' hm=>by
  obtain⟨o',es',ep',ho',r'⟩:=hm;rw [ho]at ho';cases ho';exact⟨_,es',ep',hL,r'⟩) hok I.bare
theorem Inv.call {g':Array GenState}{t':Nat}{d':Drawn}{ch:List Addr}(I:Inv X pins σ H s)(u:Un (frs X.stack) ch H H' s.heap h')(hok:HOk X.prog X.w H' h')(hg:AllBare g')
  (hch:∀b∈ch,(b∈X.ex\/X.s₀.heap.objs.size<=b)/\b≠X.env.locals/\(∀x c,X.env.cells.lookup x=some c->c≠b)/\∀p∈X.pn++pins,p.1≠b):
  Inv X pins σ H' {s with heap:=h',gens:=g',drawn:=d',toks:=t'}:=by
 obtain⟨m,⟨o,es,ep,ho,r⟩,_⟩:=id I.loc;obtain⟨sl,hL⟩:=u.any ho I.free fun z=>(hch _ z).2.1 rfl;exact I.step (ch:=ch) hch (fun b o hL hb hc e n=>u.keep b o e n (fun z=>(mem_cons.mp (I.stkSub b z)).elim hL hb) hc) (fun b o _ _ hc e n=>u.any e n hc) (fun b o hc e n=>u.free b o e n hc) (fun b o hc e=>u.there b o e hc) u.tups u.frzs u.tbls (fun m' hm=>by
  obtain⟨o',es',ep',ho',r'⟩:=hm;rw [ho]at ho';cases ho';exact⟨_,es',ep',hL,r'⟩) hok hg
theorem Inv.turned {t':Nat}{it:Addr}(I:Inv X pins σ H s)(k:∀b o,b≠it->s.heap.get? b=some o->h'.get? b=some o)(hn:H it=none)(hL:it≠X.env.locals)
  (h1:it∈X.ex\/X.s₀.heap.objs.size<=it)(h2:∀x c,X.env.cells.lookup x=some c->c≠it)(h3:∀p∈X.pn++pins,p.1≠it):Inv X pins σ H {s with heap:=h',toks:=t'}:=by
 have nit:∀b u,H b=some u->b≠it:=fun b u e z=>by rw [z,hn]at e;cases e
 refine I.step (g':=s.gens) (d':=s.drawn) (ch:=[it]) (fun b hb=> ?_) (fun b o _ _ hc e _=>k b o (fun z=>hc (by simp [z])) e) (fun b o _ _ hc e _=> ⟨o.slots,k b o (fun z=>hc (by simp [z])) e⟩) (fun _ _ _ _ n=>n)
  (fun b o hc e=> ⟨o,k b o (fun z=>hc (by simp [z])) e⟩) (fun _ _ e=>e) (fun _ _ _ e=>e) (fun b ps e=> ⟨#[],by rw [e];simp⟩) (fun m hm=> ?_) (fun b u e=> ?_) I.bare
 ·have e:b=it:=by simpa using hb
  subst e;exact⟨h1,hL,h2,h3⟩
 ·obtain⟨o,es,ep,ho,r⟩:=hm;exact⟨o,es,ep,k _ o (Ne.symm hL) ho,r⟩
 ·refine(I.hok b u e).stay (fun c v hc q=>k c v ?_ q) (fun _ q=>q) fun _ _ q=>q;rcases hc with z|z
  ·rw [z];exact nit b u e
  ·exact nit c _ z
theorem Inv.tok (I:Inv X pins σ H s)(t:Nat):Inv X pins σ H {s with toks:=t}:=I.un (h':=s.heap) (t':=t) Un.refl I.hok
theorem Inv.kept {t':Nat}(I:Inv X pins σ H s)(k:∀b u,s.heap.get? b=some u->h'.get? b=some u):Inv X pins σ H {s with heap:=h',toks:=t'}:=I.un (Un.kept k) (I.hok.kept k)
theorem Inv.laid {a:Addr}{o:HO}{t':Nat}(I:Inv X pins σ H s)(k:∀b u,s.heap.get? b=some u->h'.get? b=some u)(hp:s.heap.objs.size<=a)(new:ObjOk X.prog X.w (upd H a o) h' a o):
  Inv X pins σ (upd H a o) {s with heap:=h',toks:=t'}:=I.un (Un.laid k hp (I.hok.fresh hp)) (I.hok.laid k hp new)
theorem Inv.write {x e:Addr}{o:HO}{t':Nat}(I:Inv X pins σ H s)(mu:Mut (H x))(he:e=x\/H e=some (.own x))(k:∀b u,b≠e->s.heap.get? b=some u->h'.get? b=some u)(heo:∃u,h'.get? e=some u)
  (new:ObjOk X.prog X.w (upd H x o) h' x o):Inv X pins σ (upd H x o) {s with heap:=h',toks:=t'}:=I.un (Un.write mu he k heo) (I.hok.write mu he k heo new)
theorem Inv.pins_of {pins':List (Addr×Obj)}(I:Inv X pins σ H s)(h:∀p∈pins',s.heap.get? p.1=some p.2/\H p.1=none/\p.1≠X.env.locals/\p.1∉X.fs/\∀v,p.2.data≠ .cell v):Inv X pins' σ H s:=
 ⟨I.ok,I.os,I.bare,I.base,I.loc,I.cell,I.free,I.freeC,fun p hp=>(mem_append.mp hp).elim (fun z=>I.pin p (mem_append_left _ z)) (h p),I.hok,I.len⟩
theorem A0s {N:List Str}(hN:N.Nodup){i j:Nat}{x:Str}(a:N[i]?=some x)(b:N[j]?=some x):i=j:=by obtain⟨h1,e1⟩:=zjW.mp a;obtain⟨h2,e2⟩:=zjW.mp b;exact(getElem_inj hN).mp (e1.trans e2.symm)
theorem xP {M:Model}{A:Around}{E:Value->Shared->Prop}{i:Nat}{x:Str}{v:V}{u:Value}{Q:Unit->Shared->Prop}(I:Inv X pins σ H s)(hN:X.N.Nodup)(hi:X.N[i]?=some x)(hx:Loc X.env.scope x)(r:RelV v u)
  (h:∀s',Inv X pins (σ.set i (some v)) H s'->(∃a,Heap.SameBut a s.heap s'.heap/\(a=X.env.locals\/X.env.cells.lookup x=some a))->Q () s')(hf:X.fn x=true\/X.env.scope.names.lookup x=some .local:=by first|exact .inl rfl|exact .inr rfl|assumption):wpAny M A (storeName X.env x u) Q E s:=by
 obtain⟨m,hn,hl⟩:=id I.loc;have hcls:(X.env.scope.kind== .class|| (X.env.scope.kind== .module&&X.env.locals !=X.env.globals))=false:=by rw [I.ok.kind];rfl
 have hiσ:i<σ.length:=by rw [I.len];exact(zjW.mp hi).1
 have cne:=I.cne;have tracked:∀{a:Addr}{h':Heap},(∃o,s.heap.get? a=some o/\H a=none)->Heap.SameBut a s.heap h'->HOk X.prog X.w H h':=fun{a h'} ha hs b ob e=>by
  obtain⟨_,_,hfree⟩:=ha;refine(I.hok b ob e).stay (fun c w' hc q=>(hs.2 c ?_).trans q) (fun _ q=>q) fun _ _ q=>q;rintro rfl;rcases hc with rfl|hc
  ·rw [hfree]at e;cases e
  ·rw [hfree]at hc;cases hc
 rcases hx with hk|hk
 ·refine wpAny_storeName_local hk hn (fun h' hn' hs=> ?_) hcls;obtain⟨oL,_,_,hoL,_⟩:=id hn;refine h _ ⟨I.ok,I.os,I.bare,⟨fun b o e n hb hx=> ?_,fun b o e n hb hx=> ?_,I.base.free,fun b o e hx=> ?_,I.base.tups,I.base.frzs,I.base.tbls⟩,⟨_,hn',fun j y v' e1 e2 e3=> ?_⟩,fun y c e=> ?_,I.free,I.freeC,fun p hp=> ?_,tracked ⟨oL,hoL,I.free⟩ hs,by simpa using I.len⟩ ⟨_,hs,.inl rfl⟩
  ·exact(hs.2 b (ne_of_lt (lt_of_lt_of_le (zjT e) I.ok.above))).trans (I.base.keep b o e n hb hx)
  ·obtain⟨sl,e1⟩:=I.base.slot b o e n hb hx;exact⟨sl,(hs.2 b (ne_of_lt (lt_of_lt_of_le (zjT e) I.ok.above))).trans e1⟩
  ·obtain⟨o',e1⟩:=I.base.there b o e hx;exact⟨o',(hs.2 b (ne_of_lt (lt_of_lt_of_le (zjT e) I.ok.above))).trans e1⟩
  ·by_cases hj:j=i
   ·subst hj;rw [hi]at e1;cases e1;rw [List.getElem?_set_self hiσ]at e2;cases e2;exact⟨u,r,.inl ⟨hk,by simp⟩⟩
   ·rw [List.getElem?_set_ne (Ne.symm hj)]at e2;obtain⟨u',r',q⟩:=hl j y v' e1 e2 e3;refine⟨u',r',?_⟩;rcases q with⟨k,e⟩| ⟨k,c,e,z⟩
    ·refine .inl ⟨k,?_⟩;have:y≠x:=fun e=>hj (A0s hN e1 (e▸hi));simp [this,e]
    ·exact .inr ⟨k,c,e,z.sameBut hs (cne y c e)⟩
  ·obtain⟨w',z⟩:=I.cell y c e;exact⟨w',z.sameBut hs (cne y c e)⟩
  ·obtain⟨e,n,ne,nf,d⟩:=I.pin p hp;exact⟨(hs.2 p.1 ne).trans e,n,ne,nf,d⟩
 ·have hfn:X.fn x=true:=by
   rcases hf with z|z
   ·exact z
   ·rw [z]at hk;cases hk
  obtain⟨c,hc⟩:=I.ok.has x (.inl hk);obtain⟨w',z⟩:=I.cell x c hc;refine wpAny_storeName_cell I.ok.kind hk hc z (fun h' hc' hs=> ?_);obtain⟨oc,hoc,hocd⟩:=id z;refine h {s with heap:=h'} ⟨I.ok,I.os,I.bare,⟨fun b o e n hb hx=> ?_,fun b o e n hb hx=> ?_,I.base.free,fun b o e hx=> ?_,I.base.tups,I.base.frzs,I.base.tbls⟩,⟨m,hn.sameBut hs (Ne.symm (cne x c hc)),fun j y v' e1 e2 e3=> ?_⟩,fun y c' e=> ?_,I.free,I.freeC,fun p hp=> ?_,tracked ⟨oc,hoc,I.freeC x c hc⟩ hs,by simpa using I.len⟩ ⟨c,hs,.inr hc⟩
  ·exact(hs.2 b (ne_of_lt (lt_of_lt_of_le (zjT e) (I.ok.cab x c hfn hc)))).trans (I.base.keep b o e n hb hx)
  ·obtain⟨sl,e1⟩:=I.base.slot b o e n hb hx;exact⟨sl,(hs.2 b (ne_of_lt (lt_of_lt_of_le (zjT e) (I.ok.cab x c hfn hc)))).trans e1⟩
  ·obtain⟨o',e1⟩:=I.base.there b o e hx;exact⟨o',(hs.2 b (ne_of_lt (lt_of_lt_of_le (zjT e) (I.ok.cab x c hfn hc)))).trans e1⟩
  ·by_cases hj:j=i
   ·subst hj;rw [hi]at e1;cases e1;rw [List.getElem?_set_self hiσ]at e2;cases e2;exact⟨u,r,.inr ⟨.inl hk,c,hc,hc'⟩⟩
   ·rw [List.getElem?_set_ne (Ne.symm hj)]at e2;obtain⟨u',r',q⟩:=hl j y v' e1 e2 e3;refine⟨u',r',?_⟩;rcases q with q| ⟨k,c',e,z'⟩
    ·exact .inl q
    ·refine .inr ⟨k,c',e,z'.sameBut hs ?_⟩;rintro rfl;exact hj (A0s hN e1 (I.ok.inj _ _ _ e hc▸hi))
  ·by_cases hcc:c'=c
   ·subst hcc;exact⟨_,hc'⟩
   ·obtain⟨w2,z2⟩:=I.cell y c' e;exact⟨w2,z2.sameBut hs hcc⟩
  ·obtain⟨e,n,ne,nf,d⟩:=I.pin p hp;refine⟨(hs.2 p.1 ?_).trans e,n,ne,nf,d⟩;intro q;rw [q,hoc]at e;have q':oc=p.2:=Option.some.inj e;exact d w' (by rw [←q'];exact hocd)
theorem lO {M:Model}{A:Around}{E:Value->Shared->Prop}{i:Nat}{x:Str}{v:V}{u:Value}{Q:Unit->Shared->Prop}(I:Inv X pins σ H s)(hN:X.N.Nodup)(hi:X.N[i]?=some x)(hx:Loc X.env.scope x)(r:RelV v u)
  (h:∀s',Inv X pins (σ.set i (some v)) H s'->Q () s')(hf:X.fn x=true\/X.env.scope.names.lookup x=some .local:=by first|exact .inl rfl|exact .inr rfl|assumption):wpAny M A (storeName X.env x u) Q E s:=
 xP I hN hi hx r (fun s' I' _=>h s' I') hf
theorem Inv.call' {s':Shared}{ch:List Addr}(I:Inv X pins σ H s)(ho:s'.os=s.os)(u:Un (frs X.stack) ch H H' s.heap s'.heap)(hok:HOk X.prog X.w H' s'.heap)(hg:AllBare s'.gens)
  (hch:∀b∈ch,(b∈X.ex\/X.s₀.heap.objs.size<=b)/\b≠X.env.locals/\(∀x c,X.env.cells.lookup x=some c->c≠b)/\∀p∈X.pn++pins,p.1≠b):Inv X pins σ H' s':=by
 obtain⟨h',g',d',t',o'⟩:=s';have e:o'=s.os:=ho;subst e;exact I.call (g':=g') (t':=t') (d':=d') u hok hg hch
end
abbrev XK:=Value->Option Addr->Hp->Prop
abbrev St:=List (Option V)
abbrev VK:=V->Hp->Prop
abbrev TE:=St->Hp->VK->Prop
abbrev TT:=St->Hp->(Bool->Hp->Prop)->Prop
abbrev TA:=St->Hp->(List V->Hp->Prop)->Prop
structure dE where
 nx:St->Hp->Prop
 rt:VK
 bk:St->Hp->Prop:=fun _ _=>False
 ct:St->Hp->Prop:=fun _ _=>False
abbrev TS:=dE->St->Hp->Prop
def EP (X:Cx)(pins:List (Addr×Obj))(σ:St)(Q:VK)(u:Value)(s':Shared):Prop:=∃v H',Inv X pins σ H' s'/\RelV v u/\Q v H'
def TP (X:Cx)(pins:List (Addr×Obj))(σ:St)(Q:Bool->Hp->Prop)(b:Bool)(s':Shared):Prop:=∃H',Inv X pins σ H' s'/\Q b H'
def AP (X:Cx)(pins:List (Addr×Obj))(σ:St)(Q:List V->Hp->Prop)(us:List Value)(s':Shared):Prop:=∃vs H',Inv X pins σ H' s'/\Vals vs us/\Q vs H'
def SP (X:Cx)(pins:List (Addr×Obj))(D:dE)(f:Flow)(s':Shared):Prop:=
 match f with
 | .next=> ∃σ' H',Inv X pins σ' H' s'/\D.nx σ' H'
 | .brk=> ∃σ' H',Inv X pins σ' H' s'/\D.bk σ' H'
 | .cont=> ∃σ' H',Inv X pins σ' H' s'/\D.ct σ' H'
 | .ret u=> ∃v σ' H',Inv X pins σ' H' s'/\RelV v u/\D.rt v H'
def PE (X:Cx)(e:Expr)(t:TE):Prop:=
 ∀(pins:List (Addr×Obj))(s:Shared)(σ:St)(H:Hp)(Q:VK),Inv X pins σ H s->t σ H Q->wpAny (model X.prog X.w) X.A (eval e X.env) (EP X pins σ Q) X.xe s
def PT (X:Cx)(e:Expr)(t:TT):Prop:=
 ∀(pins:List (Addr×Obj))(s:Shared)(σ:St)(H:Hp)(Q:Bool->Hp->Prop),Inv X pins σ H s->t σ H Q->wpAny (model X.prog X.w) X.A (isTrue e X.env (eval e X.env)) (TP X pins σ Q) X.xe s
def PW (X:Cx)(e:Expr)(t:TT):Prop:=
 ∀(whole:Sem Value)(pins:List (Addr×Obj))(s:Shared)(σ:St)(H:Hp)(Q:Bool->Hp->Prop),Inv X pins σ H s->t σ H Q->wpAny (model X.prog X.w) X.A (isTrue e X.env whole) (TP X pins σ Q) X.xe s
theorem PW.pt {X:Cx}{e:Expr}{t:TT}(h:PW X e t):PT X e t:=h _
def PA (X:Cx)(es:List Expr)(t:TA):Prop:=
 ∀(pos:Pos)(pins:List (Addr×Obj))(s:Shared)(σ:St)(H:Hp)(Q:List V->Hp->Prop),Inv X pins σ H s->t σ H Q->wpAny (model X.prog X.w) X.A (spliced (backTo pos (starEach es X.env))) (AP X pins σ Q) X.xe s
def PS (X:Cx)(st:Stmt)(t:TS):Prop:=
 ∀(pins:List (Addr×Obj))(s:Shared)(σ:St)(H:Hp)(D:dE),Inv X pins σ H s->t D σ H->wpAny (model X.prog X.w) X.A (exec st X.env) (SP X pins D) X.xe s
def PSs (X:Cx)(st:List Stmt)(t:TS):Prop:=
 ∀(pins:List (Addr×Obj))(s:Shared)(σ:St)(H:Hp)(D:dE),Inv X pins σ H s->t D σ H->wpAny (model X.prog X.w) X.A (execs st X.env) (SP X pins D) X.xe s
theorem thn {α:Type}{t:Sem α}{Q Q':α->Shared->Prop}{M:Model}{A:Around}{E:Value->Shared->Prop}{s:Shared}(h:wpAny M A t Q E s)(hQ:∀a s,Q a s->Q' a s):wpAny M A t Q' E s:=wpAny_mono h hQ fun _ _ x=>x
section
variable {X:Cx}
def cY (i:Nat):TE:=fun σ H Q=> ∃v,σ[i]?=some (some v)/\Q v H
def tC (v:V):TE:=fun _ H Q=>Q v H
theorem A7l {i:Nat}{x:Str}{pos:Pos}(hN:X.N[i]?=some x)(hv:Vis X.env.scope x)(hd:(x==("__debug__":Str))=false:=by decide)(hcd:(x==("__classdict__":Str))=false:=by decide):PE X (.Name x pos) (cY i):=by
 intro pins s σ H Q I h;obtain⟨v,e,h⟩:=h;obtain⟨m,hn,hl⟩:=I.loc;obtain⟨u,r,l⟩:=hl i x v hN e hv;have fin:EP X pins σ Q u s:=⟨v,H,I,r,h⟩;rcases l with⟨hk,hm⟩| ⟨hk,c,hc,hcell⟩
 ·exact wpAny_Name (wpAny_loadName_local I.ok.kind hk hn hm fin) hd
 ·rcases hk with hk|hk
  ·exact wpAny_Name (wpAny_loadName_cell I.ok.kind hk hc hcell fin) hd
  ·exact wpAny_Name (wpAny_loadName_free I.ok.kind hk hc hcell fin hcd) hd
theorem aM {i j pos}:PE X (.Constant (.int i) j pos) (tC (.int i)):=fun _ _ _ H _ I h=>wpAny_Constant_int ⟨.int i,H,I.tok _,⟨_,rfl⟩,h⟩
theorem cZ {b j pos}:PE X (.Constant (.bool b) j pos) (tC (.bl b)):=fun _ _ _ H _ I h=>Constant_bool ⟨.bl b,H,I,rfl,h⟩
theorem pR {j pos}:PE X (.Constant .none j pos) (tC .non):=fun _ _ _ H _ I h=>Constant_none ⟨.non,H,I,rfl,h⟩
theorem A98 {x j pos}:PE X (.Constant (.str x) j pos) (tC (.str x)):=fun _ _ _ H _ I h=>Calls.Constant_str ⟨.str x,H,I.tok _,⟨_,rfl⟩,h⟩
def Gl (X:Cx)(x:Str):Prop:=X.env.kindOf x=some .globalImplicit
theorem xR {E:Value->Shared->Prop}{pins:List (Addr×Obj)}{s:Shared}{σ:St}{H:Hp}{x:Str}{u:Value}{pos:Pos}{Q:Value->Shared->Prop}(I:Inv X pins σ H s)(hg:Gl X x)(hm:X.mg x=some u)(h:Q u s)
  (hd:(x==("__debug__":Str))=false:=by decide):wpAny (model X.prog X.w) X.A (eval (.Name x pos) X.env) Q E s:=
 Calls.Name_function_global I.ok.kind hg (Calls.loadGlobal_global (by rw [I.ok.glob];exact I.mod.glob.keeps I.bk) hm h) hd
theorem jV {E:Value->Shared->Prop}{pins:List (Addr×Obj)}{s:Shared}{σ:St}{H:Hp}{x:Str}{u:Value}{pos:Pos}{Q:Value->Shared->Prop}(I:Inv X pins σ H s)(hg:Gl X x)(hm:X.mg x=none)(hv:bootBuiltins x=some u)(h:Q u s)
  (hn:x≠ "__name__":=by decide)(hd:(x==("__debug__":Str))=false:=by decide):wpAny (model X.prog X.w) X.A (eval (.Name x pos) X.env) Q E s:=by
 obtain⟨mb,h1,h2⟩:=I.mod.blt;exact Calls.Name_function_global I.ok.kind hg (Calls.loadGlobal_builtin (by rw [I.ok.glob];exact I.mod.glob.keeps I.bk) hm (by rw [I.ok.blt];exact h1.keeps I.bk) ((h2 x hn).trans hv) h) hd
theorem fN {x:Str}{v:V}{u:Value}{pos:Pos}(hg:Gl X x)(hm:X.mg x=some u)(r:RelV v u)(hd:(x==("__debug__":Str))=false:=by decide):PE X (.Name x pos) (tC v):=
 fun _ _ _ H _ I h=>xR I hg hm ⟨v,H,I,r,h⟩ hd
theorem eO {x:Str}{v:V}{u:Value}{pos:Pos}(hg:Gl X x)(hm:X.mg x=none)(hv:bootBuiltins x=some u)(r:RelV v u)(hn:x≠ "__name__":=by decide)(hd:(x==("__debug__":Str))=false:=by decide):PE X (.Name x pos) (tC v):=
 fun _ _ _ H _ I h=>jV I hg hm hv ⟨v,H,I,r,h⟩ hn hd
variable {a b:Expr}{ta tb:TE}{pos:Pos}
def tB (t:TE):TT:=fun σ H Q=>t σ H fun x H1=> ∃c,x= .bl c/\Q c H1
theorem bN {e:Expr}{t:TE}(h:PE X e t)(he:∀whole,isTrue e X.env whole=(do let v←whole;standAt e.pos;holding [v] (truthy v)):=by intro _;rfl):PT X e (tB t):=by intro pins s σ H Q I hw;refine isTrue_plain (thn (h pins s σ H _ I hw) fun v s1 ⟨x,H1,I1,r1,q1⟩=> ?_) (he _);obtain⟨d,rfl,q⟩:=q1;cases r1;exact wpAny_truthy_bool ⟨H1,I1,q⟩
variable {tA tB':TT}{rest:List Expr}
def A7o (t u:TT):TT:=fun σ H Q=>t σ H fun c H1=>if c=true then u σ H1 Q else Q false H1
def tOr (t u:TT):TT:=fun σ H Q=>t σ H fun c H1=>if c=true then Q true H1 else u σ H1 Q
def A8r (t:TT):TT:=fun σ H Q=>t σ H fun c H1=>Q (!c) H1
theorem rO (ha:PT X a tA):PW X (.BoolOp .And [a] pos) tA:=by
 intro wh pins s σ H Q I h;refine isTrue_and (thn (ha pins s σ H Q I h) fun c s1 e=> ?_);cases c with
 |true=>exact isTrue_and_nil e
 |false=>exact e
theorem iA (ha:PT X a tA):PW X (.BoolOp .Or [a] pos) tA:=by
 intro wh pins s σ H Q I h;refine isTrue_or (thn (ha pins s σ H Q I h) fun c s1 e=> ?_);cases c with
 |false=>exact isTrue_or_nil e
 |true=>exact e
theorem uD (ha:PT X a tA)(hb:PW X (.BoolOp .And (b::rest) pos) tB'):PW X (.BoolOp .And (a::b::rest) pos) (A7o tA tB'):=by
 intro wh pins s σ H Q I h;refine isTrue_and (thn (ha pins s σ H _ I h) fun c s1 ⟨H1,I1,q1⟩=> ?_);cases c with
 |true=>exact hb wh pins s1 σ H1 Q I1 q1
 |false=>exact⟨H1,I1,q1⟩
theorem fS (ha:PT X a tA)(hb:PW X (.BoolOp .Or (b::rest) pos) tB'):PW X (.BoolOp .Or (a::b::rest) pos) (tOr tA tB'):=by
 intro wh pins s σ H Q I h;refine isTrue_or (thn (ha pins s σ H _ I h) fun c s1 ⟨H1,I1,q1⟩=> ?_);cases c with
 |true=>exact⟨H1,I1,q1⟩
 |false=>exact hb wh pins s1 σ H1 Q I1 q1
theorem cE (ha:PT X a tA):PT X (.UnaryOp .Not a pos) (A8r tA):=by intro pins s σ H Q I h;exact isTrue_not (ha pins s σ H (fun c H1=>Q (!c) H1) I h)
def B4e (ta tb:TE):TE:=fun σ H Q=>ta σ H fun x H1=> ∃c,x= .bl c/\if c=true then tb σ H1 Q else Q (.bl false) H1
def A5q (ta tb:TE):TE:=fun σ H Q=>ta σ H fun x H1=> ∃c,x= .bl c/\if c=true then Q (.bl true) H1 else tb σ H1 Q
def A68 (ta:TE):TE:=fun σ H Q=>ta σ H fun x H1=> ∃c,x= .bl c/\Q (.bl (!c)) H1
theorem fO {op}{t:TE}(h:PE X a t):PE X (.BoolOp op [a] pos) t:=fun pins s σ H Q I hw=>BoolOp_one (h pins s σ H Q I hw)
theorem fP (ha:PE X a ta)(hb:PE X (.BoolOp .And (b::rest) pos) tb):PE X (.BoolOp .And (a::b::rest) pos) (B4e ta tb):=by
 intro pins s σ H Q I h;refine BoolOp_and (thn (ha pins s σ H _ I h) fun v s1 ⟨x,H1,I1,r1,q1⟩=> ?_);obtain⟨c,rfl,q1⟩:=q1;cases r1;refine wpAny_truthy_bool ?_;cases c with
 |true=>exact hb pins s1 σ H1 Q I1 q1
 |false=>exact⟨.bl false,H1,I1,rfl,q1⟩
theorem B1f (ha:PE X a ta)(hb:PE X (.BoolOp .Or (b::rest) pos) tb):PE X (.BoolOp .Or (a::b::rest) pos) (A5q ta tb):=by
 intro pins s σ H Q I h;refine BoolOp_or (thn (ha pins s σ H _ I h) fun v s1 ⟨x,H1,I1,r1,q1⟩=> ?_);obtain⟨c,rfl,q1⟩:=q1;cases r1;refine wpAny_truthy_bool ?_;cases c with
 |false=>exact hb pins s1 σ H1 Q I1 q1
 |true=>exact⟨.bl true,H1,I1,rfl,q1⟩
theorem A0g (ha:PE X a ta):PE X (.UnaryOp .Not a pos) (A68 ta):=by intro pins s σ H Q I h;refine UnaryOp_ (thn (ha pins s σ H _ I h) fun v s1 ⟨x,H1,I1,r1,q1⟩=> ?_);obtain⟨c,rfl,q1⟩:=q1;cases r1;exact not_of (wpAny_truthy_bool ⟨.bl (!c),H1,I1,rfl,q1⟩)
def tIf (t:TT)(ta tb:TE):TE:=fun σ H Q=>t σ H fun c H1=>if c=true then ta σ H1 Q else tb σ H1 Q
theorem B2j {c:Expr}(hc:PT X c tA)(ha:PE X a ta)(hb:PE X b tb):PE X (.IfExp c a b pos) (tIf tA ta tb):=by
 intro pins s σ H Q I h;refine wpAny_IfExp (thn (hc pins s σ H _ I h) fun d s1 ⟨H1,I1,q1⟩=> ?_);cases d with
 |true=>exact ha pins s1 σ H1 Q I1 q1
 |false=>exact hb pins s1 σ H1 Q I1 q1
end
def SqL (K:W.Frag)(H:Hp)(a:Addr)(xs:List V):Prop:=
 Rd H a (.lst xs)\/
  ∃(o:Obj)(its:Array Value)(n:Nat),K.lookup a=some o/\o.cls= .type "list"/\o.dict=none/\o.data= .seq its n/\its.size<=sizeLine/\Vals xs its.toList
def SqT (K:W.Frag)(H:Hp)(a:Addr)(xs:List V):Prop:=
 Rd H a (.tup xs)\/
  ∃(o:Obj)(its:Array Value)(n:Nat),K.lookup a=some o/\o.cls= .type "tuple"/\o.data= .seq its n/\its.size<=sizeLine/\Vals xs its.toList
def B4f:Value->Option V
 | .none=>some .non
 | .bool b=>some (.bl b)
 | .int i _=>some (.int i)
 | .str x _=>some (.str x)
 | .bytes b _=>some (.byt b)
 | .float b _=>some (.flt b)
 | .ref a=>some (.ref a)
 | .type n=>some (.ty n)
 |_=>none
theorem RelV.abs {x:V}{u:Value}(r:RelV x u):B4f u=some x:=by
 cases x with
 |non=>cases r;rfl
 |bl _=>cases r;rfl
 |int _=>obtain⟨t,rfl⟩:=r;rfl
 |str _=>obtain⟨t,rfl⟩:=r;rfl
 |byt _=>obtain⟨t,rfl⟩:=r;rfl
 |flt _=>obtain⟨t,rfl⟩:=r;rfl
 |ref _=>cases r;rfl
 |ty _=>cases r;rfl
theorem RelV.inj {x y:V}{u:Value}(r:RelV x u)(q:RelV y u):x=y:=Option.some.inj (r.abs.symm.trans q.abs)
theorem Vals.inj:∀{xs ys:List V}{us:List Value},Vals xs us->Vals ys us->xs=ys
 |_,_,_,.nil,.nil=>rfl
 |_,_,_,.cons r t,.cons r' t'=>by rw [r.inj r',Vals.inj t t']
section
variable {X:Cx}{pins:List (Addr×Obj)}{σ:St}{H:Hp}{s:Shared}{a:Addr}{xs ys:List V}
theorem SqL.of {K:W.Frag}(h:H a=some (.lst xs)):SqL K H a xs:=.inl (.inl h)
theorem SqT.of {K:W.Frag}(h:H a=some (.tup xs)):SqT K H a xs:=.inl (.inl h)
theorem Inv.list (I:Inv X pins σ H s)(h:SqL X.K H a xs):∃its:List Value,Vals xs its/\PlainL s.heap a its.toArray/\xs.length<=sizeLine:=by
 rcases h with h| ⟨o,its,n,hk,hc,hd,hs,hz,r⟩
 ·obtain⟨z,its,n,r,e⟩:=h.ok I.hok;exact⟨its,r,⟨_,n,e,rfl,rfl,rfl⟩,z⟩
 ·refine⟨its.toList,r,⟨o,n,I.kIn a o hk,hc,hd,by simpa using hs⟩,?_⟩;have e:=r.length;simp only [Array.length_toList]at e;omega
theorem Inv.tuple (I:Inv X pins σ H s)(h:SqT X.K H a xs):∃its:List Value,Vals xs its/\IsTup s.heap a its.toArray/\xs.length<=sizeLine:=by
 rcases h with h| ⟨o,its,n,hk,hc,hs,hz,r⟩
 ·obtain⟨z,its,r,p⟩:=h.ok I.hok;exact⟨its,r,p,z⟩
 ·refine⟨its.toList,r,⟨o,I.kIn a o hk,hc,n,by simpa using hs⟩,?_⟩;have e:=r.length;simp only [Array.length_toList]at e;omega
theorem Inv.list_inj (I:Inv X pins σ H s)(h:SqL X.K H a xs)(h':SqL X.K H a ys):xs=ys:=by
 obtain⟨its,r,⟨o,n,e,_,_,d⟩,_⟩:=I.list h;obtain⟨its',r',⟨o',n',e',_,_,d'⟩,_⟩:=I.list h';rw [e]at e';cases e';rw [d]at d';injection d' with d1 _
 have:its=its':=by simpa using congrArg Array.toList d1
 subst this;exact r.inj r'
theorem Inv.tuple_inj (I:Inv X pins σ H s)(h:SqT X.K H a xs)(h':SqT X.K H a ys):xs=ys:=by
 obtain⟨its,r,⟨o,e,_,n,d⟩,_⟩:=I.tuple h;obtain⟨its',r',⟨o',e',_,n',d'⟩,_⟩:=I.tuple h';rw [e]at e';cases e';rw [d]at d';injection d' with d1 _
 have:its=its':=by simpa using congrArg Array.toList d1
 subst this;exact r.inj r'
end
abbrev Cx.wish (X:Cx)(E:Value->Shared->Prop):Cx:={X with xe:=E}
abbrev Cx.nox (X:Cx):Cx:=X.wish fun _ _=>False
theorem Cx.Ok.wish {X:Cx}(ok:X.Ok)(E:Value->Shared->Prop):(X.wish E).Ok:=
 ⟨ok.mod,ok.kind,ok.glob,ok.blt,ok.above,ok.inj,ok.has,ok.cab,ok.hd,ok.frames,ok.stk,ok.exf,ok.bs,ok.bsz,ok.noex,ok.exfs,ok.funs,ok.frf⟩
theorem Cx.Ok.unwish {X:Cx}{E:Value->Shared->Prop}(ok:(X.wish E).Ok):X.Ok:=
 ⟨ok.mod,ok.kind,ok.glob,ok.blt,ok.above,ok.inj,ok.has,ok.cab,ok.hd,ok.frames,ok.stk,ok.exf,ok.bs,ok.bsz,ok.noex,ok.exfs,ok.funs,ok.frf⟩
section
variable {X:Cx}{pins:List (Addr×Obj)}{σ:St}{H:Hp}{s:Shared}{E:Value->Shared->Prop}
theorem Inv.wish (I:Inv X pins σ H s)(E:Value->Shared->Prop):Inv (X.wish E) pins σ H s:=⟨I.ok.wish E,I.os,I.bare,I.base,I.loc,I.cell,I.free,I.freeC,I.pin,I.hok,I.len⟩
theorem Inv.unwish (I:Inv (X.wish E) pins σ H s):Inv X pins σ H s:=⟨I.ok.unwish,I.os,I.bare,I.base,I.loc,I.cell,I.free,I.freeC,I.pin,I.hok,I.len⟩
theorem SP.unwish {D:dE}{f:Flow}{s':Shared}(h:SP (X.wish E) pins D f s'):SP X pins D f s':=by
 cases f with
 |next=>obtain⟨σ',H',I,q⟩:=h;exact⟨σ',H',I.unwish,q⟩
 |brk=>obtain⟨σ',H',I,q⟩:=h;exact⟨σ',H',I.unwish,q⟩
 |cont=>obtain⟨σ',H',I,q⟩:=h;exact⟨σ',H',I.unwish,q⟩
 |ret u=>obtain⟨v,σ',H',I,r,q⟩:=h;exact⟨v,σ',H',I.unwish,r,q⟩
theorem PSs.nox {st:List Stmt}{t:TS}(h:PSs X.nox st t):PSs X st t:=fun pins s σ H D I hw=>
 wpAny_mono (h pins s σ H D (I.wish _) hw) (fun _ _ q=>q.unwish) fun _ _ z=>False.elim z
end
section
variable {X:Cx}{st:Stmt}{rest:List Stmt}{t u:TS}{e:Expr}{te:TE}{pos:Pos}
def A9w:TS:=fun D σ H=>D.nx σ H
def mQ (t u:TS):TS:=fun D σ H=>t {D with nx:=u D} σ H
theorem bQ:PSs X [] A9w:=fun _ _ σ H _ I h=>wpAny_execs_nil ⟨σ,H,I,h⟩
theorem aU (h1:PS X st t)(h2:PSs X rest u):PSs X (st::rest) (mQ t u):=by
 intro pins s σ H D I h;refine wpAny_execs_cons (thn (h1 pins s σ H {D with nx:=u D} I h) fun f s1 q=> ?_);cases f with
 |next=>
  obtain⟨σ',H',I',q⟩:=q;exact h2 pins s1 σ' H' D I' q
 |ret v=>exact q
 |brk=>exact q
 |cont=>exact q
theorem aR (h1:PS X st t):PSs X [st] t:=by
 intro pins s σ H D I h;refine wpAny_execs_cons (thn (h1 pins s σ H D I h) fun f s1 q=> ?_);cases f with
 |next=>exact wpAny_execs_nil q
 |ret v=>exact q
 |brk=>exact q
 |cont=>exact q
theorem Inv.quiet {pins:List (Addr×Obj)}{σ:St}{H:Hp}{s:Shared}(I:Inv X pins σ H s):interactive X.env=false:=by simp [interactive,I.ok.kind]
def qI (te:TE):TS:=fun D σ H=>te σ H fun _ H1=>D.nx σ H1
theorem eF (he:PE X e te)(hs:swapsWith e none pos.line X.env=pure false:=by rfl):PS X (.Expr e pos) (qI te):=by intro pins s σ H D I h;exact wpAny_Expr_any (thn (he pins s σ H _ I h) fun v s1 ⟨x,H1,I1,r1,q1⟩=> ⟨σ,H1,I1,q1⟩) I.quiet hs
def nF (te:TE):TS:=fun D σ H=>te σ H D.rt
theorem aY (he:PE X e te):PS X (.Return (some e) pos) (nF te):=by intro pins s σ H D I h;exact wpAny_Return_some (thn (he pins s σ H _ I h) fun v s1 ⟨x,H1,I1,r1,q1⟩=> ⟨x,σ,H1,I1,r1,q1⟩)
def A2x (c:TT)(t u:TS):TS:=fun D σ H=>c σ H fun b H1=>if b=true then t D σ H1 else u D σ H1
theorem bR {c:Expr}{a b:List Stmt}{tc:TT}(hc:PT X c tc)(ha:PSs X a t)(hb:PSs X b u):PS X (.If c a b pos) (A2x tc t u):=by
 intro pins s σ H D I h;refine wpAny_If (thn (hc pins s σ H _ I h) fun d s1 ⟨H1,I1,q1⟩=> ?_);cases d with
 |true=>exact ha pins s1 σ H1 D I1 q1
 |false=>exact hb pins s1 σ H1 D I1 q1
def B0n:TS:=fun _ _ _=>False
theorem iB {sts:List Stmt}:PSs X sts B0n:=fun _ _ _ _ _ _ h=>h.elim
end
abbrev TG:=V->St->Hp->(St->Hp->Prop)->Prop
abbrev TGs:=List V->St->Hp->(St->Hp->Prop)->Prop
def PG (X:Cx)(target:Expr)(t:TG):Prop:=
 ∀(pins:List (Addr×Obj))(s:Shared)(σ:St)(H:Hp)(v:V)(u:Value)(Q:St->Hp->Prop),Inv X pins σ H s->RelV v u->t v σ H Q->
  wpAny (model X.prog X.w) X.A (assign target X.env u) (fun _ s'=> ∃σ' H',Inv X pins σ' H' s'/\Q σ' H') X.xe s
def PGs (X:Cx)(ts:List Expr)(t:TGs):Prop:=
 ∀(pins:List (Addr×Obj))(s:Shared)(σ:St)(H:Hp)(vs:List V)(us:List Value)(Q:St->Hp->Prop),Inv X pins σ H s->Vals vs us->t vs σ H Q->
  wpAny (model X.prog X.w) X.A (assignInOrder ((assignEach ts X.env).map (·.2)) us) (fun _ s'=> ∃σ' H',Inv X pins σ' H' s'/\Q σ' H') X.xe s
abbrev vB:=V->V->V->Hp->(Hp->Prop)->Prop
def A04 (X:Cx)(t:vB):Prop:=
 ∀(pins:List (Addr×Obj))(s:Shared)(σ:St)(H:Hp)(o i v:V)(ov iv u:Value)(Q:Hp->Prop),Inv X pins σ H s->RelV o ov->RelV i iv->RelV v u->t o i v H Q->
  wpAny (model X.prog X.w) X.A (setItem ov iv u) (fun _ s'=> ∃H',Inv X pins σ H' s'/\Q H') X.xe s
abbrev TIp:=V->V->Hp->VK->Prop
def PIp (X:Cx)(op:Operator)(t:TIp):Prop:=
 ∀(pins:List (Addr×Obj))(s:Shared)(σ:St)(H:Hp)(x y:V)(v u:Value)(Q:VK),Inv X pins σ H s->RelV x v->RelV y u->t x y H Q->
  wpAny (model X.prog X.w) X.A (inplaceOp op v u) (EP X pins σ Q) X.xe s
section
variable {X:Cx}{pos:Pos}
def dD (i:Nat):TG:=fun v σ H Q=>Q (σ.set i (some v)) H
theorem aJ {i:Nat}{x:Str}(hN:X.N.Nodup)(hi:X.N[i]?=some x)(hx:Loc X.env.scope x)(hf:X.fn x=true\/X.env.scope.names.lookup x=some .local:=by first|exact .inl rfl|exact .inr rfl|assumption):PG X (.Name x pos) (dD i):=by intro pins s σ H v u Q I r h;exact wpAny_assign_Name (lO I hN hi hx r (fun s' I'=> ⟨_,H,I',h⟩) hf)
theorem nm1 (i:Nat)(hN:X.N.Nodup)(hi:X.N[i]?=some x:=by rfl)(hx:Loc X.env.scope x:=by exact .inl rfl)(hf:X.fn x=true\/X.env.scope.names.lookup x=some .local:=by first|exact .inl rfl|exact .inr rfl|assumption):PG X (.Name x pos) (dD i):=aJ hN hi hx hf
def kF:TGs:=fun vs σ H Q=>vs=[]/\Q σ H
def fM (t:TG)(u:TGs):TGs:=fun vs σ H Q=> ∃v r,vs=v::r/\t v σ H fun σ' H'=>u r σ' H' Q
theorem bT:PGs X [] kF:=by intro pins s σ H vs us Q I r h;obtain⟨e,h⟩:=h;subst e;cases r;exact assignInOrder_nil ⟨σ,H,I,h⟩
theorem aW {e:Expr}{es:List Expr}{t:TG}{u:TGs}(h1:PG X e t)(h2:PGs X es u)
  (hs:(assignEach (e::es) X.env).map (·.2)=assign e X.env::(assignEach es X.env).map (·.2):=by rfl):PGs X (e::es) (fM t u):=by
 intro pins s σ H vs us Q I r h;obtain⟨v,vr,e1,h⟩:=h;subst e1;cases r with
 |cons r rr=>
  rw [hs];refine assignInOrder_cons (thn (h1 pins s σ H _ _ _ I r h) fun _ s1 ⟨σ1,H1,I1,q1⟩=> ?_);exact h2 pins s1 σ1 H1 _ _ Q I1 rr q1
def kK (K:W.Frag)(n:Nat)(t:TGs):TG:=fun v σ H Q=> ∃a xs,v= .ref a/\SqT K H a xs/\xs.length=n/\t xs σ H Q
theorem bU {es:List Expr}{k:Nat}{t:TGs}{n:Nat}(hc:X.calm=true)(h:PGs X es t)
  (hn:(assignEach es X.env).length=n:=by rfl)(hst:(assignEach es X.env).findIdx? (·.1)=none:=by rfl):PG X (.Tuple es k pos) (kK X.K n t):=by
 intro pins s σ H v u Q I r hw;obtain⟨a,xs,e1,hq,hl,hw⟩:=hw;subst e1;cases r;obtain⟨its,rv,ht,hz⟩:=I.tuple hq;refine assign_Tuple_tuple (I.ok.hd hc) ht (by simp [hn,←hl,rv.length]) hst fun h' hx=> ?_;have I1:Inv X pins σ H {s with heap:=h'}:=I.kept (t':=s.toks) fun b o e=>hx b o (ne_of_lt (zjT e)) e;exact h pins _ σ H xs _ Q I1 (by simpa using rv) hw
def A7k (to ti:TE)(t:vB):TG:=fun v σ H Q=>to σ H fun o H1=>ti σ H1 fun i H2=>t o i v H2 fun H3=>Q σ H3
theorem rS {o i:Expr}{to ti:TE}{t:vB}(ho:PE X o to)(hi:PE X i ti)(hs:A04 X t)
  (ha:∀v,assign (.Subscript o i pos) X.env v=(do
   let ov←holding [v] (eval o X.env);let iv←holding [v,ov] (eval i X.env)
   standAt pos
   holding [v,ov,iv] (setItem ov iv v)
   release [v,ov,iv] []):=by intro _;rfl):PG X (.Subscript o i pos) (A7k to ti t):=by
 intro pins s σ H v u Q I r h;rw [ha];refine zjZ (wpAny_holding (thn (ho pins s σ H _ I h) fun ov s1 ⟨x,H1,I1,r1,q1⟩=> ?_));refine zjZ (wpAny_holding (thn (hi pins s1 σ H1 _ I1 q1) fun iv s2 ⟨y,H2,I2,r2,q2⟩=> ?_));refine zjZ (wpAny_standAt (zjZ (wpAny_holding (thn (hs pins s2 σ H2 x y v ov iv u _ I2 r1 r2 r q2) fun _ s3 ⟨H3,I3,q3⟩=> ?_))));exact wpAny_release ⟨σ,H3,I3,q3⟩
def iE (te:TE)(g:TG):TS:=fun D σ H=>te σ H fun x H1=>g x σ H1 D.nx
theorem dP {tg e:Expr}{te:TE}{g:TG}(he:PE X e te)(hg:PG X tg g)(hs:swapsWithSole [tg] e pos.line X.env=pure false:=by rfl)(hw:swappedStores [tg] e X.env=pure none:=by rfl)
  (h1:(assignEach [tg] X.env).map (·.2)=[assign tg X.env]:=by rfl):PS X (.Assign [tg] e pos) (iE te g):=by
 intro pins s σ H D I h;refine wpAny_Assign_stores (thn (he pins s σ H _ I h) fun v s1 ⟨x,H1,I1,r1,q1⟩=> ?_) hs hw;rw [h1];exact thn (hg pins s1 σ H1 x v _ I1 r1 q1) fun _ s2 q=>q
theorem bK {i:Nat}{x:Str}{e:Expr}{te:TE}{pos':Pos}(hN:X.N.Nodup)(hi:X.N[i]?=some x)(hx:Loc X.env.scope x)(he:PE X e te)(hs:swapsWith e (some (.Name x pos')) pos.line X.env=pure false:=by rfl)(hf:X.fn x=true\/X.env.scope.names.lookup x=some .local:=by first|exact .inl rfl|exact .inr rfl|assumption):
  PS X (.Assign [.Name x pos'] e pos) (iE te (dD i)):=by
 intro pins s σ H D I h;refine wpAny_Assign_Name (thn (he pins s σ H _ I h) fun v s1 ⟨y,H1,I1,r1,q1⟩=> ?_) hs;exact lO I1 hN hi hx r1 (fun s2 I2=> ⟨_,H1,I2,q1⟩) hf
def A6y (i j:Nat)(ta:TA):TS:=fun D σ H=>ta σ H fun vs H1=> ∃v w,vs=[v,w]/\D.nx ((σ.set i (some v)).set j (some w)) H1
theorem lH {i j:Nat}{x y:Str}{a b:Expr}{ta:TA}{px py pt:Pos}{kt k2 pt2}(hc:X.calm=true)(hN:X.N.Nodup)(hi:X.N[i]?=some x)(hj:X.N[j]?=some y)(hij:i≠j)
  (hx:X.env.scope.names.lookup x=some .local)(hy:X.env.scope.names.lookup y=some .local)(ha:PA X [a,b] ta)
  (hw:swappedStores [.Tuple [.Name x px,.Name y py] kt pt] (.Tuple [a,b] k2 pt2) X.env=pure (some [x,y]))
  (hs:swapsWithSole [.Tuple [.Name x px,.Name y py] kt pt] (.Tuple [a,b] k2 pt2) pos.line X.env=pure false:=by rfl):
  PS X (.Assign [.Tuple [.Name x px,.Name y py] kt pt] (.Tuple [a,b] k2 pt2) pos) (A6y i j ta):=by
 intro pins s σ H D I h;rw [exec_Assign_arm];refine zjZ (wpAny_standAt ?_);rw [hs];refine zjZ (zjY ?_);rw [if_neg (by decide)];refine zjZ (Tuple_ (thn (ha _ pins s σ H _ I h) fun us s1 ⟨vs,H1,I1,r1,q1⟩=> ?_));obtain⟨v,w,e1,q1⟩:=q1;subst e1;obtain⟨u1,u2,rfl,rv,rw'⟩:∃u1 u2,us=[u1,u2]/\RelV v u1/\RelV w u2:=by
  cases r1 with
  |cons p q=>
   cases q with
   |cons p' q'=>
    cases q';exact⟨_,_,rfl,p,p'⟩
 refine wpAny_newObj_type ?_ (by show 2<=sizeLine;decide);have I2:Inv X pins σ H1 {s1 with heap:=s1.heap.push {cls:=.type "tuple",data:=.seq [u1,u2].toArray}}:=I1.kept (t':=s1.toks) fun b o e=>zjX _ e;rw [hw];refine zjZ (zjY ?_)
 show wpAny (model X.prog X.w) X.A (do rule "assign.swapped-stores";let items←unpackItems (.ref s1.heap.objs.size) 2 none;assignInOrder [fun v=>bindName X.env y v,fun v=>bindName X.env x v] items.reverse;pure Flow.next) _ _ _;refine zjZ (wpAny_rule (zjZ (unpackItems_tuple (items:=#[u1,u2]) (I.ok.hd hc) (IsTup.new s1.heap _) fun h' hx'=> ?_)));have I3:=I2.kept (h':=h') (t':=s1.toks) fun b o e=>hx' b o (ne_of_lt (zjT e)) e;show wpAny _ _ (assignInOrder [fun v=>bindName X.env y v,fun v=>bindName X.env x v] [u2,u1]>>=fun _=>pure Flow.next) _ _ _;refine zjZ (assignInOrder_cons (wpAny_bindName (lO I3 hN hj (.inl hy) rw' (fun s2 I4=> ?_) (.inr hy))));refine assignInOrder_cons (wpAny_bindName (lO I4 hN hi (.inl hx) rv (fun s3 I5=>assignInOrder_nil (zjY ?_)) (.inr hx)));rw [List.set_comm _ _ (Ne.symm hij)]at I5;exact⟨_,H1,I5,q1⟩
def B0w (i:Nat)(te:TE)(ti:TIp):TS:=fun D σ H=> ∃x,σ[i]?=some (some x)/\te σ H fun y H1=>ti x y H1 fun z H2=>D.nx (σ.set i (some z)) H2
theorem A9i {i:Nat}{x:Str}{e:Expr}{te:TE}{op:Operator}{ti:TIp}{pos':Pos}(hN:X.N.Nodup)(hi:X.N[i]?=some x)(hx:Loc X.env.scope x)(he:PE X e te)(ho:PIp X op ti)(hf:X.fn x=true\/X.env.scope.names.lookup x=some .local:=by first|exact .inl rfl|exact .inr rfl|assumption):
  PS X (.AugAssign (.Name x pos') op e pos) (B0w i te ti):=by
 intro pins s σ H D I h;obtain⟨v,e1,h⟩:=h;obtain⟨m,hn,hl⟩:=I.loc;have vis:Vis X.env.scope x:=by rcases hx with k|k;exact .inl k;exact .inr (.inl k)
 obtain⟨u,r,l⟩:=hl i x v hi e1 vis;refine wpAny_AugAssign_Name ?_;have go:wpAny (model X.prog X.w) X.A (eval e X.env) (fun w s₂=>wpAny (model X.prog X.w) X.A (inplaceOp op u w) (fun r s₃=>wpAny (model X.prog X.w) X.A (storeName X.env x r) (fun _=>SP X pins D .next) X.xe s₃) X.xe s₂) X.xe s:=by
  refine thn (he pins s σ H _ I h) fun w s1 ⟨y,H1,I1,r1,q1⟩=> ?_;refine thn (ho pins s1 σ H1 v y u w _ I1 r r1 q1) fun z s2 ⟨zv,H2,I2,r2,q2⟩=> ?_;exact lO I2 hN hi hx r2 (fun s3 I3=> ⟨_,H2,I3,q2⟩) hf
 rcases l with⟨hk,hm⟩| ⟨hk,c,hc,hcell⟩
 ·exact wpAny_loadName_local I.ok.kind hk hn hm go
 ·rcases hk with hk|hk
  ·exact wpAny_loadName_cell I.ok.kind hk hc hcell go
  ·rcases hx with k|k
   ·have:X.env.scope.names.lookup x=some .free:=hk;rw [k]at this;cases this
   ·have:X.env.scope.names.lookup x=some .free:=hk;rw [k]at this;cases this
def ipI (f:Int->Int->Int):TIp:=fun x y H Q=> ∃i j,x= .int i/\y= .int j/\Q (.int (f i j)) H
theorem A6p:PIp X .Add (ipI fun i j=>i+j):=by intro pins s σ H x y v u Q I r1 r2 h;obtain⟨i,j,e1,e2,q⟩:=h;subst e1;subst e2;obtain⟨t,rfl⟩:=r1;obtain⟨t',rfl⟩:=r2;exact iadd_int ⟨.int _,H,I.tok _,⟨_,rfl⟩,q⟩
end
section
variable {X:Cx}{pos:Pos}
def vZ (c:TT)(tb:TS):TS:=fun D σ H=> ∃W:Nat->St->Hp->Prop,(∃m,W m σ H)/\∀m σ H,W m σ H->
 c σ H fun b H1=>if b=true then∃N:St->Hp->Prop,(∀σ' H',N σ' H'->∃m',m'<m/\W m' σ' H')/\tb {D with nx:=N,ct:=N,bk:=D.nx} σ H1 else D.nx σ H1
theorem A0b {c:Expr}{body:List Stmt}{tc:TT}{tb:TS}(hp:PassesOwn (model X.prog X.w) X.A X.env X.xe)(hc:PT X c tc)(hb:PSs X body tb):PS X (.While c body [] pos) (vZ tc tb):=by
 intro pins s σ H D I h;obtain⟨W,⟨m0,w0⟩,turn⟩:=h;refine wpAny_While (codeAny_whileLoop (fun n s'=> ∃σ' H',Inv X pins σ' H' s'/\W n σ' H') ?_ m0 ⟨σ,H,I,w0⟩);rintro n s1 ⟨σ1,H1,I1,w1⟩;refine wpAny_passesOwn hp (thn (hc pins s1 σ1 H1 _ I1 (turn n σ1 H1 w1)) fun b s2 ⟨H2,I2,q2⟩=> ?_);cases b with
 |true=>
  obtain⟨N,hN,q2⟩:=q2;rw [if_pos rfl];refine wpAny_passesOwn hp (thn (hb pins s2 σ1 H2 _ I2 q2) fun f s3 q3=> ?_);cases f with
  |next=>
   obtain⟨σ3,H3,I3,n3⟩:=q3;obtain⟨m',hm,w3⟩:=hN σ3 H3 n3;exact⟨m',hm,σ3,H3,I3,w3⟩
  |cont=>
   obtain⟨σ3,H3,I3,n3⟩:=q3;obtain⟨m',hm,w3⟩:=hN σ3 H3 n3;exact⟨m',hm,σ3,H3,I3,w3⟩
  |brk=>exact q3
  |ret v=>exact q3
 |false=>
  rw [if_neg Bool.false_ne_true];exact wpAny_execs_nil ⟨σ1,H2,I2,q2⟩
end
structure It where
 go:Nat->Hp->Prop
 yld:Nat->Hp->V->Hp->Prop
 stop:Nat->Hp->Prop
def fG (X:Cx)(pins:List (Addr×Obj))(H:Hp)(b:Addr):Prop:=
 H b=none/\b≠X.env.locals/\b∉X.fs/\(b∈X.ex\/X.s₀.heap.objs.size<=b)/\(∀x c,X.env.cells.lookup x=some c->c≠b)/\∀p∈X.pn++pins,p.1≠b
theorem Inv.fpOk {X:Cx}{pins:List (Addr×Obj)}{σ:St}{H H':Hp}{s:Shared}{b:Addr}(I:Inv X pins σ H s)(hb:s.heap.objs.size<=b)(hn:H' b=none):fG X pins H' b:=by
 refine⟨hn,ne_of_gt (lt_of_lt_of_le I.lt hb),I.nofs hb,.inr (le_trans I.sz hb),fun x c e z=> ?_,fun p hp z=> ?_⟩
 ·obtain⟨v,q⟩:=I.cell x c e;exact absurd (lt_of_lt_of_le q.lt (by rw [z];exact hb)) (lt_irrefl _)
 ·exact absurd (lt_of_lt_of_le (zjT (I.pin p hp).1) (by rw [z];exact hb)) (lt_irrefl _)
structure gE (P:Program)(w:World)(K:W.Frag)(tg:Expr)(J:It)(fp:List Addr)(it:Addr)(tn:Nat->Heap->Prop):Prop where
 mem:it∈fp
 obj:∀i h,tn i h->∀b∈fp,∃o,h.get? b=some o/\∀v,o.data≠ .cell v
 keep:∀i h h',tn i h->(∀b∈fp,∀o,h.get? b=some o->h'.get? b=some o)->tn i h'
 item:∀(X:Cx),X.prog=P->X.w=w->X.K=K->X.calm=true->∀(i:Nat)(pins:List (Addr×Obj))(s:Shared)(σ:St)(H:Hp)(E:Value->Shared->Prop),Inv X pins σ H s->(∀b∈fp,fG X pins H b)->tn i s.heap->J.go i H->
  wpAny (model P w) X.A (pyNext (.ref it)) (fun r s1=> ∃u,r=some u/\
   wpAny (model P w) X.A (letOwnedTupleGo tg (.ref it) u) (fun _ s2=> ∃x H',Inv X pins σ H' s2/\RelV x u/\J.yld i H x H'/\tn (i+1) s2.heap/\∀b∈fp,H' b=none) E s1) E s
 done:∀(X:Cx),X.prog=P->X.w=w->X.K=K->X.calm=true->∀(i:Nat)(pins:List (Addr×Obj))(s:Shared)(σ:St)(H:Hp)(E:Value->Shared->Prop),Inv X pins σ H s->(∀b∈fp,fG X pins H b)->tn i s.heap->J.stop i H->
  wpAny (model P w) X.A (pyNext (.ref it)) (fun r s1=>r=none/\Inv X pins σ H s1) E s
 self:∀(A:Around)(i:Nat)(s:Shared)(Q:Value->Shared->Prop)(E:Value->Shared->Prop),tn i s.heap->Q (.ref it) s->wpAny (model P w) A (pyIter (.ref it)) Q E s
abbrev TI:=St->Hp->(It->Hp->Prop)->Prop
def PIE (X:Cx)(pins:List (Addr×Obj))(σ:St)(tg:Expr)(R:It->Hp->Prop)(itv:Value)(s2:Shared):Prop:=
 ∃(it:Addr)(fp:List Addr)(tn:Nat->Heap->Prop)(J:It)(H':Hp),itv= .ref it/\Inv X pins σ H' s2/\gE X.prog X.w X.K tg J fp it tn/\tn 0 s2.heap/\(∀b∈fp,fG X pins H' b)/\R J H'
def PI (X:Cx)(tg iter:Expr)(wi:TI):Prop:=
 ∀(pins:List (Addr×Obj))(s:Shared)(σ:St)(H:Hp)(R:It->Hp->Prop),Inv X pins σ H s->wi σ H R->
  wpAny (model X.prog X.w) X.A (eval iter X.env) (fun v s1=>wpAny (model X.prog X.w) X.A (pyIter v) (PIE X pins σ tg R) X.xe s1) X.xe s
theorem lY {M:Model}{A:Around}{E:Value->Shared->Prop}{s:Shared}{tg:Expr}{it:Addr}{u:Value}{o:Obj}{n:String}{vs:Array Value}{Q:Unit->Shared->Prop}(ho:s.heap.get? it=some o)(hc:o.cls= .type n)(hd:o.data= .fields vs)
    (hn:["enumerate","zip","dict_itemiterator","dict_reverseitemiterator","odict_iterator","itertools.zip_longest","itertools.pairwise"].contains n=false)(hQ:Q () s):wpAny M A (letOwnedTupleGo tg (.ref it) u) Q E s:=by
  unfold letOwnedTupleGo;cases tg<;>first
    |exact zjY hQ
    | (cases u<;>first
        |exact zjY hQ
        | (refine zjZ (wpAny_load ho ?_)
           rw [hc,hd];show wpAny M A (if (["enumerate","zip","dict_itemiterator","dict_reverseitemiterator","odict_iterator","itertools.zip_longest","itertools.pairwise"].contains n&&vs[0]?==some (rawInt _))=true then _ else _) Q E s;rw [if_neg (by intro h;rw [hn,Bool.false_and]at h;cases h)];exact zjY hQ))
def Itl (K:W.Frag)(a:Addr):It:=
 ⟨fun i H=> ∃xs x,SqL K H a xs/\xs[i]?=some x,fun i H x H'=>H'=H/\∀xs,SqL K H a xs->xs[i]?=some x,fun i H=> ∃xs,SqL K H a xs/\xs.length<=i⟩
def Itt (K:W.Frag)(a:Addr):It:=
 ⟨fun i H=> ∃xs x,SqT K H a xs/\xs[i]?=some x,fun i H x H'=>H'=H/\∀xs,SqT K H a xs->xs[i]?=some x,fun i H=> ∃xs,SqT K H a xs/\xs.length<=i⟩
def Itr (lo:Int)(n:Nat):It:=⟨fun i _=>i<n,fun i H x H'=>H'=H/\x= .int (lo+i),fun i _=>n<=i⟩
theorem A41 {P:Program}{w:World}{K:W.Frag}{tg:Expr}(a it:Addr):gE P w K tg (Itl K a) [it] it (fun i h=>h.IsListIter it a i)where
 mem:=by simp
 obj:=fun i h st b hb=>by
  have e:b=it:=by simpa using hb
  subst e;obtain⟨o,e,c,d⟩:=st;exact⟨o,e,fun v z=>by rw [d]at z;cases z⟩
 keep:=fun i h h' st k=>st.at fun o e=>k it (by simp) o e
 item:=by
  intro X hP hw hK hc i pins s σ H E I hf st hg;subst hP hw hK;obtain⟨xs,x,hq,hx⟩:=hg;obtain⟨its,rv,p,hz⟩:=I.list hq;obtain⟨u,hu,ru⟩:=rv.get hx;obtain⟨f0,f1,f2,f3,f4,f5⟩:=hf it (by simp);refine wpAny_pyNext_list_item st p.isList (x:=u) (by simpa using hu) fun h' st' sb=> ?_;have I1:Inv X pins σ H {s with heap:=h'}:=I.turned (t':=s.toks) (fun b o hb e=>(sb.2 b hb).trans e) f0 f1 f3 f4 f5;obtain⟨o,e,c,d⟩:=id st';exact⟨u,rfl,lY (s:={s with heap:=h'}) e c d (by decide) ⟨x,H,I1,ru,⟨rfl,fun ys hy=>by rw [I.list_inj hy hq];exact hx⟩,st',fun b hb=>(hf b hb).1⟩⟩
 done:=by
  intro X hP hw hK hc i pins s σ H E I hf st hg;subst hP hw hK;obtain⟨xs,hq,hx⟩:=hg;obtain⟨its,rv,p,hz⟩:=I.list hq;obtain⟨f0,f1,f2,f3,f4,f5⟩:=hf it (by simp);have hl:=rv.length;exact wpAny_pyNext_list_end (I.ok.hd hc) st p.isList (by simp;omega) fun h' eb=> ⟨rfl,I.turned (t':=s.toks) (fun b o hb e=>eb b o hb e) f0 f1 f3 f4 f5⟩
 self:=fun _ _ _ _ _ st h=>wpAny_pyIter_listiter st h
theorem A4p {P:Program}{w:World}{K:W.Frag}{tg:Expr}(a it:Addr):gE P w K tg (Itt K a) [it] it (fun i h=>h.IsTupleIter it a i)where
 mem:=by simp
 obj:=fun i h st b hb=>by
  have e:b=it:=by simpa using hb
  subst e;obtain⟨o,e,c,d⟩:=st;exact⟨o,e,fun v z=>by rw [d]at z;cases z⟩
 keep:=fun i h h' st k=>st.at fun o e=>k it (by simp) o e
 item:=by
  intro X hP hw hK hc i pins s σ H E I hf st hg;subst hP hw hK;obtain⟨xs,x,hq,hx⟩:=hg;obtain⟨its,rv,p,hz⟩:=I.tuple hq;obtain⟨u,hu,ru⟩:=rv.get hx;obtain⟨f0,f1,f2,f3,f4,f5⟩:=hf it (by simp);refine wpAny_pyNext_tuple_item st (show s.heap.IsTuple a its.toArray from p) (x:=u) (by simpa using hu) fun h' st' sb=> ?_;have I1:Inv X pins σ H {s with heap:=h'}:=I.turned (t':=s.toks) (fun b o hb e=>(sb.2 b hb).trans e) f0 f1 f3 f4 f5;obtain⟨o,e,c,d⟩:=id st';exact⟨u,rfl,lY (s:={s with heap:=h'}) e c d (by decide) ⟨x,H,I1,ru,⟨rfl,fun ys hy=>by rw [I.tuple_inj hy hq];exact hx⟩,st',fun b hb=>(hf b hb).1⟩⟩
 done:=by
  intro X hP hw hK hc i pins s σ H E I hf st hg;subst hP hw hK;obtain⟨xs,hq,hx⟩:=hg;obtain⟨its,rv,p,hz⟩:=I.tuple hq;obtain⟨f0,f1,f2,f3,f4,f5⟩:=hf it (by simp);have hl:=rv.length;exact wpAny_pyNext_tuple_end (I.ok.hd hc) st (show s.heap.IsTuple a its.toArray from p) (by simp;omega) fun h' eb=> ⟨rfl,I.turned (t':=s.toks) (fun b o hb e=>eb b o hb e) f0 f1 f3 f4 f5⟩
 self:=fun _ _ _ _ _ st h=>wpAny_pyIter_tupleiter st h
theorem A6n {P:Program}{w:World}{K:PySem.W.Frag}{tg:Expr}(it:Addr)(lo:Int)(n:Nat):gE P w K tg (Itr lo n) [it] it (fun i h=>IsRangeIter h it (lo+(i:Nat)*1) ((n:Int) -(i:Nat)) 1)where
 mem:=by simp
 obj:=fun i h st b hb=>by
  have e:b=it:=by simpa using hb
  subst e;exact⟨_,st,fun v z=>by
   have z':Data.fields _=Data.cell v:=z;cases z'⟩
 keep:=fun i h h' st k=>k it (by simp) _ st
 item:=by
  intro X hP hw hK hc i pins s σ H E I hf st hg;subst hP hw hK;obtain⟨f0,f1,f2,f3,f4,f5⟩:=hf it (by simp);have W:=Walks.range (prog:=X.prog) (w:=X.w) (I.ok.hd hc) it lo 1 n;refine W.item i s _ _ hg st fun v h' tk hv st' kk=> ?_;obtain⟨t,rfl⟩:=hv;have I1:Inv X pins σ H {s with heap:=h',toks:=tk}:=I.turned (fun b o hb e=>kk b o (by simpa using hb) e) f0 f1 f3 f4 f5;refine⟨_,rfl,lY (s:={s with heap:=h',toks:=tk}) (n:="range_iterator") st' rfl rfl (by decide) ⟨.int (lo+i),H,I1,⟨t,?_⟩,⟨rfl,rfl⟩,st',fun b hb=>(hf b hb).1⟩⟩;rw [Int.mul_one]
 done:=by
  intro X hP hw hK hc i pins s σ H E I hf st hg;subst hP hw hK;obtain⟨f0,f1,f2,f3,f4,f5⟩:=hf it (by simp);exact wpAny_pyNext_range_end (I.ok.hd hc) st (by have:n<=i:=hg;omega) fun h' eb=> ⟨rfl,I.turned (t':=s.toks) (fun b o hb e=>eb b o hb e) f0 f1 f3 f4 f5⟩
 self:=fun _ _ _ _ _ st h=>wpAny_pyIter_rangeiter st h
section
variable {X:Cx}{tg:Expr}
def A94 (K:W.Frag)(tl:TE):TI:=fun σ H R=>tl σ H fun x H1=> ∃a,x= .ref a/\(∃xs,SqL K H1 a xs)/\R (Itl K a) H1
def B3d (K:W.Frag)(tl:TE):TI:=fun σ H R=>tl σ H fun x H1=> ∃a,x= .ref a/\(∃xs,SqT K H1 a xs)/\R (Itt K a) H1
theorem cT {l:Expr}{tl:TE}(hl:PE X l tl):PI X tg l (A94 X.K tl):=by
 intro pins s σ H R I h;refine thn (hl pins s σ H _ I h) fun v s1 ⟨x,H1,I1,r1,q1⟩=> ?_;obtain⟨a,e,⟨xs,hq⟩,q⟩:=q1;subst e;cases r1;obtain⟨its,rv,p,hz⟩:=I1.list hq;refine wpAny_pyIter_list p.isList ?_;refine⟨s1.heap.objs.size,[s1.heap.objs.size],_,_,H1,rfl,I1.kept (t':=s1.toks) fun b o e=>zjX _ e,A41 a _,⟨_,get?_push_size _ rfl,rfl,rfl⟩,fun b hb=> ?_,q⟩;have e:b=s1.heap.objs.size:=by simpa using hb
 subst e;exact I1.fpOk (zjQ _) (I1.hok.fresh (zjQ _))
theorem cP {l:Expr}{tl:TE}(hl:PE X l tl):PI X tg l (B3d X.K tl):=by
 intro pins s σ H R I h;refine thn (hl pins s σ H _ I h) fun v s1 ⟨x,H1,I1,r1,q1⟩=> ?_;obtain⟨a,e,⟨xs,hq⟩,q⟩:=q1;subst e;cases r1;obtain⟨its,rv,p,hz⟩:=I1.tuple hq;refine wpAny_pyIter_tuple (show s1.heap.IsTuple a its.toArray from p) ?_;refine⟨s1.heap.objs.size,[s1.heap.objs.size],_,_,H1,rfl,I1.kept (t':=s1.toks) fun b o e=>zjX _ e,A4p a _,⟨_,get?_push_size _ rfl,rfl,rfl⟩,fun b hb=> ?_,q⟩;have e:b=s1.heap.objs.size:=by simpa using hb
 subst e;exact I1.fpOk (zjQ _) (I1.hok.fresh (zjQ _))
theorem A4x {pins:List (Addr×Obj)}{σ:St}{H:Hp}{s:Shared}{R:It->Hp->Prop}{E:Value->Shared->Prop}{lo hi:Int}{t u v:Tok}{tk:Nat}(I:Inv X pins σ H s)(h1:-(2^62)<=lo)(h2:lo<2^62)(h3:-(2^62)<=hi)(h4:hi<2^62)
  (q:R (Itr lo (hi - lo).toNat) H):wpAny (model X.prog X.w) X.A (pyIter (.ref s.heap.objs.size)) (PIE X pins σ tg R) E {s with heap:=s.heap.push {cls:=.type "range",data:=.fields #[.int lo t,.int hi u,.int 1 v]},toks:=tk}:=by
 refine wpAny_pyIter_range (IsRange.new ..) (small_one h1 h2 h3 h4) ?_;have I1:Inv X pins σ H {s with heap:=s.heap.push {cls:=.type "range",data:=.fields #[.int lo t,.int hi u,.int 1 v]},toks:=tk}:=I.kept fun b o e=>zjX _ e;refine⟨(s.heap.push {cls:=.type "range",data:=.fields #[.int lo t,.int hi u,.int 1 v]}).objs.size,[(s.heap.push {cls:=.type "range",data:=.fields #[.int lo t,.int hi u,.int 1 v]}).objs.size],_,_,H,rfl,
  I1.kept (t':=tk) fun b o e=>zjX _ e,A6n _ lo (hi - lo).toNat,?_,fun b hb=> ?_,q⟩
 ·have e1:lo+((0:Nat):Int)*1=lo:=by simp
  have e2:(((hi - lo).toNat:Nat):Int) -((0:Nat):Int)=Builtin.Range.rangeSize lo hi 1:=by rw [rangeSize_one];split<;>omega
  show IsRangeIter _ _ (lo+((0:Nat):Int)*1) ((((hi - lo).toNat:Nat):Int) -((0:Nat):Int)) 1;rw [e1,e2];exact get?_push_size _ rfl
 ·have e:b=(s.heap.push {cls:=.type "range",data:=.fields #[.int lo t,.int hi u,.int 1 v]}).objs.size:=by simpa using hb
  subst e;exact I1.fpOk (zjQ _) (I1.hok.fresh (zjQ _))
def A90 (ta:TA):TI:=fun σ H R=>ta σ H fun vs H1=> ∃j:Int,vs=[.int j]/\-(2^62)<=j/\j<2^62/\R (Itr 0 j.toNat) H1
theorem iZ {a:Expr}{ta:TA}{p pos:Pos}(hg:Gl X "range")(hm:X.mg "range" =none)(ha:PA X [a] ta)(hs:starEach [a] X.env=[(false,eval a X.env)]:=by rfl):PI X tg (.Call (.Name "range" p) [a] [] pos) (A90 ta):=by
 intro pins s σ H R I h;refine Call_ (jV I hg hm boot_range (PyProof.Rows.callWith_type1 (thn (ha pos pins s σ H _ I h) fun us s1 ⟨vs,H1,I1,r1,q1⟩=> ?_) hs rfl));obtain⟨j,e,q1,q2,q⟩:=q1;subst e;cases r1 with
 |cons r rr=>
  cases rr;obtain⟨t,rfl⟩:=r;exact call_range_1 (A4x I1 (by omega) (by omega) q1 q2 (by simpa using q))
def A29 (wi:TI)(g:TG)(tb:TS):TS:=fun D σ H=>wi σ H fun J H1=> ∃W:Nat->Nat->St->Hp->Prop,(∃m,W 0 m σ H1)/\∀i m σ H,W i m σ H->
 (J.stop i H/\D.nx σ H)\/(J.go i H/\∃N:St->Hp->Prop,(∀σ' H',N σ' H'->∃m',m'<m/\W (i+1) m' σ' H')/\∀x H',J.yld i H x H'->g x σ H' fun σ2 H2=>tb {D with nx:=N,ct:=N,bk:=D.nx} σ2 H2)
def kP (fp:List Addr)(h:Heap):List (Addr×Obj):=fp.filterMap fun b=>(h.get? b).map fun o=>(b,o)
theorem lF {fp:List Addr}{h:Heap}{b:Addr}{o:Obj}(hb:b∈fp)(e:h.get? b=some o):(b,o)∈kP fp h:=mem_filterMap.mpr ⟨b,hb,by rw [e];rfl⟩
theorem A9j {fp:List Addr}{h:Heap}{p:Addr×Obj}(hp:p∈kP fp h):p.1∈fp/\h.get? p.1=some p.2:=by
 obtain⟨b,hb,e⟩:=mem_filterMap.mp hp;cases q:h.get? b with
 |none=>rw [q]at e;cases e
 |some o=>
  rw [q]at e;have e':(b,o)=p:=Option.some.inj e;subst e';exact⟨hb,q⟩
theorem Inv.pinned {pins:List (Addr×Obj)}{σ:St}{H:Hp}{s:Shared}{fp:List Addr}(I:Inv X pins σ H s)(hf:∀b∈fp,fG X pins H b)(ho:∀b∈fp,∃o,s.heap.get? b=some o/\∀v,o.data≠ .cell v):Inv X (pins++kP fp s.heap) σ H s:=
 I.pins_of fun p hp=>(mem_append.mp hp).elim (fun z=>I.pin p (mem_append_right _ z)) fun z=>by
  obtain⟨hb,e⟩:=A9j z;obtain⟨f0,f1,f2,_⟩:=hf p.1 hb;obtain⟨o,e',d⟩:=ho p.1 hb;rw [e]at e';cases e';exact⟨e,f0,f1,f2,d⟩
theorem Inv.unpinned {pins pl:List (Addr×Obj)}{σ:St}{H:Hp}{s:Shared}(I:Inv X (pins++pl) σ H s):Inv X pins σ H s:=I.pins_of fun p hp=>I.pin p (mem_append_right _ (mem_append_left _ hp))
theorem eG {iter:Expr}{body:List Stmt}{wi:TI}{g:TG}{tb:TS}{pos:Pos}(hp:PassesOwn (model X.prog X.w) X.A X.env X.xe)(hc:X.calm=true)(hi:PI X tg iter wi)(hg:PG X tg g)(hb:PSs X body tb)
  (hs:∀x,foldedSetIterable iter X.env x=pure x:=by intro _;rfl):PS X (.For tg iter body [] pos) (A29 wi g tb):=by
 intro pins s σ H D I h;refine wpAny_For (thn (hi pins s σ H _ I h) fun v s1 h1=>thn h1 fun itv s2 h2=> ?_) hs;obtain⟨it,fp,tn,J,H2,e,I2,T,st2,f2,W,⟨m0,w0⟩,turn⟩:=h2;subst e;have stat:∀{H':Hp},(∀b∈fp,H' b=none)->∀b∈fp,fG X pins H' b:=fun hn b hb=> ⟨hn b hb,(f2 b hb).2⟩;refine codeAny_forLoop_any (fun n s'=> ∃i σ' H',Inv X pins σ' H' s'/\tn i s'.heap/\(∀b∈fp,H' b=none)/\W i n σ' H') ?_ m0 ⟨0,σ,H2,I2,st2,fun b hb=>(f2 b hb).1,w0⟩;rintro n s3 ⟨i,σ3,H3,I3,st3,fr3,w3⟩;rcases turn i n σ3 H3 w3 with⟨stop,qn⟩| ⟨go,N,hN,step⟩
 ·refine wpAny_passesOwn hp (thn (T.done X rfl rfl rfl hc i pins s3 σ3 H3 X.xe I3 (stat fr3) st3 stop) fun r s4 ⟨hr,I4⟩=> ?_);subst hr;exact wpAny_execs_nil ⟨σ3,H3,I4,qn⟩
 ·refine wpAny_passesOwn hp (thn (T.item X rfl rfl rfl hc i pins s3 σ3 H3 X.xe I3 (stat fr3) st3 go) fun r s4 ⟨u,hr,h4⟩=> ?_);subst hr;refine wpAny_passesOwn hp (thn h4 fun _ s5 ⟨x,H5,I5,r5,y5,st5,fr5⟩=> ?_);have I5':=I5.pinned (stat fr5) (T.obj _ _ st5);refine wpAny_passesOwn hp (thn (hg _ s5 σ3 H5 x u _ I5' r5 (step x H5 y5)) fun _ s6 ⟨σ6,H6,I6,q6⟩=> ?_);refine wpAny_passesOwn hp (thn (hb _ s6 σ6 H6 _ I6 q6) fun f s7 q7=> ?_);have again:∀{σ7:St}{H7:Hp},Inv X (pins++kP fp s5.heap) σ7 H7 s7->N σ7 H7->∃m,m<n/\∃i σ' H',Inv X pins σ' H' s7/\tn i s7.heap/\(∀b∈fp,H' b=none)/\W i m σ' H':=fun{σ7 H7} I7 n7=>by
   obtain⟨m',hm,w7⟩:=hN σ7 H7 n7;refine⟨m',hm,i+1,σ7,H7,I7.unpinned,T.keep _ _ _ st5 fun b hb o e=>(I7.pin (b,o) (mem_append_right _ (mem_append_right _ (lF hb e)))).1,fun b hb=> ?_,w7⟩;obtain⟨o,e,d⟩:=T.obj _ _ st5 b hb;exact(I7.pin (b,o) (mem_append_right _ (mem_append_right _ (lF hb e)))).2.1
  cases f with
  |next=>obtain⟨σ7,H7,I7,n7⟩:=q7;exact again I7 n7
  |cont=>obtain⟨σ7,H7,I7,n7⟩:=q7;exact again I7 n7
  |brk=>obtain⟨σ7,H7,I7,q7⟩:=q7;exact⟨σ7,H7,I7.unpinned,q7⟩
  |ret v=>obtain⟨x7,σ7,H7,I7,r7,q7⟩:=q7;exact⟨x7,σ7,H7,I7.unpinned,r7,q7⟩
end
theorem fX {K:PySem.W.Frag}{a:Addr}{xs:List V}{g:TG}{tb:TS}{D:dE}{σ:St}{H:Hp}(Pv:Nat->St->Hp->Prop)(h0:Pv 0 σ H)(hl:∀i σ H,i<=xs.length->Pv i σ H->SqL K H a xs)
  (hs:∀i x σ H,xs[i]?=some x->Pv i σ H->g x σ H fun σ2 H2=>tb {D with nx:=Pv (i+1),ct:=Pv (i+1),bk:=D.nx} σ2 H2)(hd:∀σ H,Pv xs.length σ H->D.nx σ H):
  ∃W:Nat->Nat->St->Hp->Prop,(∃m,W 0 m σ H)/\∀i m σ H,W i m σ H->
   ((Itl K a).stop i H/\D.nx σ H)\/((Itl K a).go i H/\∃N:St->Hp->Prop,(∀σ' H',N σ' H'->∃m',m'<m/\W (i+1) m' σ' H')/\∀x H',(Itl K a).yld i H x H'->g x σ H' fun σ2 H2=>tb {D with nx:=N,ct:=N,bk:=D.nx} σ2 H2):=by
 refine⟨fun i m σ H=>m=xs.length - i/\i<=xs.length/\Pv i σ H,⟨xs.length,by simp,zero_le _,h0⟩,?_⟩;rintro i m σ H ⟨rfl,hi,p⟩;have q:=hl i σ H hi p;by_cases hlt:i<xs.length
 ·refine .inr ⟨⟨xs,xs[i],q,by simp [hlt]⟩,Pv (i+1),fun σ' H' p'=> ⟨xs.length -(i+1),by omega,rfl,hlt,p'⟩,fun x H' y=> ?_⟩;obtain⟨e,y⟩:=y;subst e;exact hs i x σ _ (y xs q) p
 ·have e:i=xs.length:=by omega
  subst e;exact .inl ⟨⟨xs,q,zjQ _⟩,hd σ H p⟩
theorem gM {K:PySem.W.Frag}{a:Addr}{xs:List V}{g:TG}{tb:TS}{D:dE}{σ:St}{H:Hp}(Pv:Nat->St->Hp->Prop)(h0:Pv 0 σ H)(hl:∀i σ H,i<=xs.length->Pv i σ H->SqT K H a xs)
  (hs:∀i x σ H,xs[i]?=some x->Pv i σ H->g x σ H fun σ2 H2=>tb {D with nx:=Pv (i+1),ct:=Pv (i+1),bk:=D.nx} σ2 H2)(hd:∀σ H,Pv xs.length σ H->D.nx σ H):
  ∃W:Nat->Nat->St->Hp->Prop,(∃m,W 0 m σ H)/\∀i m σ H,W i m σ H->
   ((Itt K a).stop i H/\D.nx σ H)\/((Itt K a).go i H/\∃N:St->Hp->Prop,(∀σ' H',N σ' H'->∃m',m'<m/\W (i+1) m' σ' H')/\∀x H',(Itt K a).yld i H x H'->g x σ H' fun σ2 H2=>tb {D with nx:=N,ct:=N,bk:=D.nx} σ2 H2):=by
 refine⟨fun i m σ H=>m=xs.length - i/\i<=xs.length/\Pv i σ H,⟨xs.length,by simp,zero_le _,h0⟩,?_⟩;rintro i m σ H ⟨rfl,hi,p⟩;have q:=hl i σ H hi p;by_cases hlt:i<xs.length
 ·refine .inr ⟨⟨xs,xs[i],q,by simp [hlt]⟩,Pv (i+1),fun σ' H' p'=> ⟨xs.length -(i+1),by omega,rfl,hlt,p'⟩,fun x H' y=> ?_⟩;obtain⟨e,y⟩:=y;subst e;exact hs i x σ _ (y xs q) p
 ·have e:i=xs.length:=by omega
  subst e;exact .inl ⟨⟨xs,q,zjQ _⟩,hd σ H p⟩
theorem jE {lo:Int}{n:Nat}{g:TG}{tb:TS}{D:dE}{σ:St}{H:Hp}(Pv:Nat->St->Hp->Prop)(h0:Pv 0 σ H)
  (hs:∀i σ H,i<n->Pv i σ H->g (.int (lo+i)) σ H fun σ2 H2=>tb {D with nx:=Pv (i+1),ct:=Pv (i+1),bk:=D.nx} σ2 H2)(hd:∀σ H,Pv n σ H->D.nx σ H):
  ∃W:Nat->Nat->St->Hp->Prop,(∃m,W 0 m σ H)/\∀i m σ H,W i m σ H->
   ((Itr lo n).stop i H/\D.nx σ H)\/((Itr lo n).go i H/\∃N:St->Hp->Prop,(∀σ' H',N σ' H'->∃m',m'<m/\W (i+1) m' σ' H')/\∀x H',(Itr lo n).yld i H x H'->g x σ H' fun σ2 H2=>tb {D with nx:=N,ct:=N,bk:=D.nx} σ2 H2):=by
 refine⟨fun i m σ H=>m=n - i/\i<=n/\Pv i σ H,⟨n,by simp,zero_le _,h0⟩,?_⟩;rintro i m σ H ⟨rfl,hi,p⟩;by_cases hlt:i<n
 ·refine .inr ⟨hlt,Pv (i+1),fun σ' H' p'=> ⟨n -(i+1),by omega,rfl,hlt,p'⟩,fun x H' y=> ?_⟩;obtain⟨e,y⟩:=y;subst e y;exact hs i σ _ hlt p
 ·have e:i=n:=by omega
  subst e;exact .inl ⟨zjQ _,hd σ H p⟩
theorem A7e {c:TT}{tb:TS}{D:dE}{σ:St}{H:Hp}(Pv:St->Hp->Prop)(μ:St->Hp->Nat)(h0:Pv σ H)
  (hs:∀σ H,Pv σ H->c σ H fun b H1=>if b=true then tb {D with nx:=fun σ' H'=>Pv σ' H'/\μ σ' H'<μ σ H,ct:=fun σ' H'=>Pv σ' H'/\μ σ' H'<μ σ H,bk:=D.nx} σ H1 else D.nx σ H1)
  (mono:∀σ H Q Q',(∀b H1,Q b H1->Q' b H1)->c σ H Q->c σ H Q'):vZ c tb D σ H:=by
 refine⟨fun m σ H=>m=μ σ H/\Pv σ H,⟨_,rfl,h0⟩,?_⟩;rintro m σ H ⟨rfl,p⟩;refine mono σ H _ _ (fun b H1 q=> ?_) (hs σ H p);cases b with
 |true=>exact⟨_,fun σ' H' ⟨p',l⟩=> ⟨_,l,rfl,p'⟩,q⟩
 |false=>exact q
abbrev R2:=V->V->Hp->VK->Prop
def OpR (X:Cx)(f:Value->Value->Sem Value)(r:R2):Prop:=
 ∀(pins:List (Addr×Obj))(s:Shared)(σ:St)(H:Hp)(x y:V)(v u:Value)(Q:VK),Inv X pins σ H s->RelV x v->RelV y u->r x y H Q->
  wpAny (model X.prog X.w) X.A (f v u) (EP X pins σ Q) X.xe s
def UnR (X:Cx)(f:Value->Sem Value)(r:V->Hp->VK->Prop):Prop:=
 ∀(pins:List (Addr×Obj))(s:Shared)(σ:St)(H:Hp)(x:V)(v:Value)(Q:VK),Inv X pins σ H s->RelV x v->r x H Q->
  wpAny (model X.prog X.w) X.A (f v) (EP X pins σ Q) X.xe s
def dW (X:Cx)(f:Value)(r:List V->Hp->VK->Prop):Prop:=
 ∀(pins:List (Addr×Obj))(s:Shared)(σ:St)(H:Hp)(xs:List V)(us:List Value)(Q:VK),Inv X pins σ H s->Vals xs us->r xs H Q->
  wpAny (model X.prog X.w) X.A (call f us) (EP X pins σ Q) X.xe s
def tOp (r:R2)(ta tb:TE):TE:=fun σ H Q=>ta σ H fun x H1=>tb σ H1 fun y H2=>r x y H2 Q
def tUn (r:V->Hp->VK->Prop)(ta:TE):TE:=fun σ H Q=>ta σ H fun x H1=>r x H1 Q
def rI (C:Int->Int->Prop)(g:Int->Int->V):R2:=fun x y H Q=> ∃i j,x= .int i/\y= .int j/\C i j/\Q (g i j) H
def rI0 (g:Int->Int->V):R2:=fun x y H Q=> ∃i j,x= .int i/\y= .int j/\Q (g i j) H
def rU (g:Int->V):V->Hp->VK->Prop:=fun x H Q=> ∃i,x= .int i/\Q (g i) H
section
variable {X:Cx}{a b c:Expr}{ta tb tc:TE}{pos:Pos}
theorem vT (ha:PE X a ta)(hb:PE X b tb){pins:List (Addr×Obj)}{s:Shared}{σ:St}{H:Hp}{R:V->V->Hp->Prop}(I:Inv X pins σ H s)
  (h:ta σ H fun x H1=>tb σ H1 fun y H2=>R x y H2){Q:Value->Shared->Prop}{f:Value->Value->Sem Value}
  (hf:∀v u s2 x y H2,Inv X pins σ H2 s2->RelV x v->RelV y u->R x y H2->wpAny (model X.prog X.w) X.A (f v u) Q X.xe s2):
  wpAny (model X.prog X.w) X.A (eval a X.env) (fun v s₁=>wpAny (model X.prog X.w) X.A (eval b X.env) (fun u s₂=>wpAny (model X.prog X.w) X.A (f v u) Q X.xe s₂) X.xe s₁) X.xe s:=by
 refine thn (ha pins s σ H _ I h) fun v s1 ⟨x,H1,I1,r1,q1⟩=> ?_;refine thn (hb pins s1 σ H1 _ I1 q1) fun u s2 ⟨y,H2,I2,r2,q2⟩=> ?_;exact hf v u s2 x y H2 I2 r1 r2 q2
theorem bB {op:Operator}{r:R2}(ho:OpR X (binaryOp op) r)(ha:PE X a ta)(hb:PE X b tb):PE X (.BinOp a op b pos) (tOp r ta tb):=by intro pins s σ H Q I h;exact wpAny_BinOp (vT ha hb I h fun v u s2 x y H2 I2 rx ry q=>ho pins s2 σ H2 x y v u Q I2 rx ry q)
theorem iQ {op:UnaryOp}{r:V->Hp->VK->Prop}(ho:UnR X (unaryOp op) r)(ha:PE X a ta):PE X (.UnaryOp op a pos) (tUn r ta):=by intro pins s σ H Q I h;exact UnaryOp_ (thn (ha pins s σ H _ I h) fun v s1 ⟨x,H1,I1,r1,q1⟩=>ho pins s1 σ H1 x v Q I1 r1 q1)
theorem opI {f:Value->Value->Sem Value}{C:Int->Int->Prop}{g:Int->Int->Int}
  (rule:∀(i j:Int)(t u:Tok)(s:Shared)(Q:Value->Shared->Prop)(E:Value->Shared->Prop),C i j->Q (.int (g i j) s.toks) {s with toks:=s.toks+1}->wpAny (model X.prog X.w) X.A (f (.int i t) (.int j u)) Q E s):
  OpR X f (rI C fun i j=> .int (g i j)):=by
 intro pins s σ H x y v u Q I rx ry h;obtain⟨i,j,rfl,rfl,hc,q⟩:=h;obtain⟨t,rfl⟩:=rx;obtain⟨t',rfl⟩:=ry;exact rule i j t t' s _ _ hc ⟨.int (g i j),H,I.tok _,⟨_,rfl⟩,q⟩
theorem yT {f:Value->Value->Sem Value}{g:Int->Int->Int}
  (rule:∀(i j:Int)(t u:Tok)(s:Shared)(Q:Value->Shared->Prop)(E:Value->Shared->Prop),Q (.int (g i j) s.toks) {s with toks:=s.toks+1}->wpAny (model X.prog X.w) X.A (f (.int i t) (.int j u)) Q E s):
  OpR X f (rI0 fun i j=> .int (g i j)):=by
 intro pins s σ H x y v u Q I rx ry h;obtain⟨i,j,rfl,rfl,q⟩:=h;obtain⟨t,rfl⟩:=rx;obtain⟨t',rfl⟩:=ry;exact rule i j t t' s _ _ ⟨.int (g i j),H,I.tok _,⟨_,rfl⟩,q⟩
theorem pI {f:Value->Value->Sem Value}{g:Int->Int->Bool}
  (rule:∀(i j:Int)(t u:Tok)(s:Shared)(Q:Value->Shared->Prop)(E:Value->Shared->Prop),Q (.bool (g i j)) s->wpAny (model X.prog X.w) X.A (f (.int i t) (.int j u)) Q E s):
  OpR X f (rI0 fun i j=> .bl (g i j)):=by
 intro pins s σ H x y v u Q I rx ry h;obtain⟨i,j,rfl,rfl,q⟩:=h;obtain⟨t,rfl⟩:=rx;obtain⟨t',rfl⟩:=ry;exact rule i j t t' s _ _ ⟨.bl (g i j),H,I,rfl,q⟩
def B3e (i j:Int):Prop:=0<j/\j<1073741824
def B36 (i j:Int):Prop:=0<=j/\j<=1000000/\i.natAbs<2^64
def CMul (i j:Int):Prop:=(-(2^64)<i/\i<2^64)\/(-(2^64)<j/\j<2^64)
theorem CMul.ok {i j:Int}(h:CMul i j):IntMulOk i j:=by
 rcases h with⟨h1,h2⟩| ⟨h1,h2⟩
 ·exact .of_left (intBits_le_64 h1 h2)
 ·exact .of_right (intBits_le_64 h1 h2)
theorem dU:OpR X (binaryOp .Add) (rI0 fun i j=> .int (i+j)):=yT fun _ _ _ _ _ _ _ q=>add_int q
theorem gU:OpR X (binaryOp .Sub) (rI0 fun i j=> .int (i - j)):=yT fun _ _ _ _ _ _ _ q=>sub_int q
theorem dQ:OpR X (binaryOp .Mult) (rI CMul fun i j=> .int (i*j)):=opI fun _ _ _ _ _ _ _ hc q=>mul_int q hc.ok
theorem pQ:OpR X (binaryOp .FloorDiv) (rI B3e fun i j=> .int (i/j)):=opI fun i j _ _ _ _ _ hc q=>by
 have h1:(0:Int)<j:=hc.1;have h2:j<1073741824:=hc.2;exact floordiv_int (by omega) (by rw [Int.fdiv_eq_ediv_of_nonneg i (by omega)];exact q) (.inl (PyProof.noPylong_small (by omega)))
theorem lE:OpR X (binaryOp .Mod) (rI (fun _ j=>0<j) fun i j=> .int (i%j)):=opI fun i j _ _ _ _ _ hc q=>by
 have h1:(0:Int)<j:=hc;exact mod_int' (by omega) (by rw [Int.fmod_eq_emod_of_nonneg i (by omega)];exact q)
theorem pO:OpR X (binaryOp .Pow) (rI B36 fun i j=> .int (i^j.toNat)):=opI fun _ _ _ _ _ _ _ hc q=>pow_int_small hc.1 hc.2.1 hc.2.2 q
theorem unI {f:Value->Sem Value}{g:Int->Int}
  (rule:∀(i:Int)(t:Tok)(s:Shared)(Q:Value->Shared->Prop)(E:Value->Shared->Prop),Q (.int (g i) s.toks) {s with toks:=s.toks+1}->wpAny (model X.prog X.w) X.A (f (.int i t)) Q E s):
  UnR X f (rU fun i=> .int (g i)):=by
 intro pins s σ H x v Q I rx h;obtain⟨i,rfl,q⟩:=h;obtain⟨t,rfl⟩:=rx;exact rule i t s _ _ ⟨.int (g i),H,I.tok _,⟨_,rfl⟩,q⟩
theorem iG:UnR X (unaryOp .USub) (rU fun i=> .int (-i)):=unI fun _ _ _ _ _ q=>neg_int q
end
def scal:V->V->Bool
 | .non,.non=>true| .non,.int _=>true| .int _,.non=>true| .non,.bl _=>true| .bl _,.non=>true| .non,.str _=>true| .str _,.non=>true
 | .int _,.int _=>true| .bl _,.bl _=>true| .str _,.str _=>true| .byt _,.byt _=>true
 | .int _,.str _=>true| .str _,.int _=>true| .bl _,.str _=>true| .str _,.bl _=>true
 |_,_=>false
def rEq:R2:=fun x y H Q=>scal x y=true/\Q (.bl (decide (x=y))) H
def rNe:R2:=fun x y H Q=>scal x y=true/\Q (.bl (!decide (x=y))) H
theorem A2m {i j:Int}:decide (V.int i=V.int j)=(i==j):=by rw [Bool.eq_iff_iff];simp
theorem A07 {i j:Bool}:decide (V.bl i=V.bl j)=(i==j):=by rw [Bool.eq_iff_iff];simp
theorem zZ {i j:Str}:decide (V.str i=V.str j)=(i==j):=by rw [Bool.eq_iff_iff];simp
theorem yG {i j:Array UInt8}:decide (V.byt i=V.byt j)=(i.toList==j.toList):=by rw [Bool.eq_iff_iff];cases i;cases j;simp
section
variable {X:Cx}{a b c:Expr}{ta tb tc:TE}{pos:Pos}
theorem cG {pins:List (Addr×Obj)}{σ:St}{H:Hp}{s:Shared}{Q:VK}{k k':Bool}(I:Inv X pins σ H s)(q:Q (.bl k) H)(e:k=k'):EP X pins σ Q (.bool k') s:=by subst e;exact⟨.bl k,H,I,rfl,q⟩
theorem fY:OpR X (compareOp .Eq) rEq:=by
 intro pins s σ H x y v u Q I rx ry h;obtain⟨hs,q⟩:=h;cases x with
 |non=>
  cases rx;cases y with
  |non=>cases ry;exact PySem.EqNone.eq_none_none (cG I q (by simp))
  |bl j=>cases ry;exact PySem.EqNone.eq_none_bool (cG I q (by simp))
  |int j=>obtain⟨t',rfl⟩:=ry;exact PySem.EqNone.eq_none_int (cG I q (by simp))
  |str j=>obtain⟨t',rfl⟩:=ry;exact PySem.EqNone.eq_none_str (cG I q (by simp))
  |_=>exact absurd (show false=true from hs) Bool.false_ne_true
 |bl i=>
  cases rx;cases y with
  |non=>cases ry;exact PySem.EqNone.eq_bool_none (cG I q (by simp))
  |bl j=>cases ry;exact eq_bool (cG I q A07)
  |str j=>obtain⟨t',rfl⟩:=ry;exact PySem.EqMixed.eq_bool_str (cG I q (by simp))
  |_=>exact absurd (show false=true from hs) Bool.false_ne_true
 |int i=>
  obtain⟨t,rfl⟩:=rx;cases y with
  |non=>cases ry;exact PySem.EqNone.eq_int_none (cG I q (by simp))
  |int j=>obtain⟨t',rfl⟩:=ry;exact eq_int (cG I q A2m)
  |str j=>obtain⟨t',rfl⟩:=ry;exact PySem.EqMixed.eq_int_str (cG I q (by simp))
  |_=>exact absurd (show false=true from hs) Bool.false_ne_true
 |str i=>
  obtain⟨t,rfl⟩:=rx;cases y with
  |non=>cases ry;exact PySem.EqNone.eq_str_none (cG I q (by simp))
  |bl j=>cases ry;exact PySem.EqMixed.eq_str_bool (cG I q (by simp))
  |int j=>obtain⟨t',rfl⟩:=ry;exact PySem.EqMixed.eq_str_int (cG I q (by simp))
  |str j=>obtain⟨t',rfl⟩:=ry;exact eq_str (cG I q zZ)
  |_=>exact absurd (show false=true from hs) Bool.false_ne_true
 |byt i=>
  obtain⟨t,rfl⟩:=rx;cases y with
  |byt j=>obtain⟨t',rfl⟩:=ry;exact W.eq_bytes (cG I q yG)
  |_=>exact absurd (show false=true from hs) Bool.false_ne_true
 |_=>cases y<;>exact absurd (show false=true from hs) Bool.false_ne_true
theorem oG:OpR X (compareOp .NotEq) rNe:=by
 intro pins s σ H x y v u Q I rx ry h;obtain⟨hs,q⟩:=h;cases x with
 |non=>
  cases rx;cases y with
  |non=>cases ry;exact PySem.EqNone.ne_none_none (cG I q (by simp))
  |bl j=>cases ry;exact PySem.EqNone.ne_none_bool (cG I q (by simp))
  |int j=>obtain⟨t',rfl⟩:=ry;exact PySem.EqNone.ne_none_int (cG I q (by simp))
  |str j=>obtain⟨t',rfl⟩:=ry;exact PySem.EqNone.ne_none_str (cG I q (by simp))
  |_=>exact absurd (show false=true from hs) Bool.false_ne_true
 |bl i=>
  cases rx;cases y with
  |non=>cases ry;exact PySem.EqNone.ne_bool_none (cG I q (by simp))
  |bl j=>cases ry;exact ne_bool (cG I q (congrArg not A07))
  |str j=>obtain⟨t',rfl⟩:=ry;exact PySem.EqMixed.ne_bool_str (cG I q (by simp))
  |_=>exact absurd (show false=true from hs) Bool.false_ne_true
 |int i=>
  obtain⟨t,rfl⟩:=rx;cases y with
  |non=>cases ry;exact PySem.EqNone.ne_int_none (cG I q (by simp))
  |int j=>obtain⟨t',rfl⟩:=ry;exact ne_int (cG I q (congrArg not A2m))
  |str j=>obtain⟨t',rfl⟩:=ry;exact PySem.EqMixed.ne_int_str (cG I q (by simp))
  |_=>exact absurd (show false=true from hs) Bool.false_ne_true
 |str i=>
  obtain⟨t,rfl⟩:=rx;cases y with
  |non=>cases ry;exact PySem.EqNone.ne_str_none (cG I q (by simp))
  |bl j=>cases ry;exact PySem.EqMixed.ne_str_bool (cG I q (by simp))
  |int j=>obtain⟨t',rfl⟩:=ry;exact PySem.EqMixed.ne_str_int (cG I q (by simp))
  |str j=>obtain⟨t',rfl⟩:=ry;exact ne_str (cG I q (congrArg not zZ))
  |_=>exact absurd (show false=true from hs) Bool.false_ne_true
 |byt i=>
  obtain⟨t,rfl⟩:=rx;cases y with
  |byt j=>obtain⟨t',rfl⟩:=ry;exact W.ne_bytes (cG I q (congrArg not yG))
  |_=>exact absurd (show false=true from hs) Bool.false_ne_true
 |_=>cases y<;>exact absurd (show false=true from hs) Bool.false_ne_true
theorem jM:OpR X (compareOp .Lt) (rI0 fun i j=> .bl (decide (i<j))):=pI fun _ _ _ _ _ _ _ q=>lt_int q
theorem iI:OpR X (compareOp .LtE) (rI0 fun i j=> .bl (decide (i<=j))):=pI fun _ _ _ _ _ _ _ q=>le_int q
theorem A0i:OpR X (compareOp .Gt) (rI0 fun i j=> .bl (decide (j<i))):=pI fun _ _ _ _ _ _ _ q=>gt_int q
theorem mG:OpR X (compareOp .GtE) (rI0 fun i j=> .bl (decide (j<=i))):=pI fun _ _ _ _ _ _ _ q=>ge_int q
theorem B3n:OpR X (compareOp .IsNot) (fun x y H Q=>y= .non/\Q (.bl (!decide (x= .non))) H):=by
 intro pins s σ H x y v u Q I rx ry h;obtain⟨rfl,q⟩:=h;cases ry;refine isnot_none_gen (cG I q ?_);cases x<;>first
  | (cases rx;rfl)
  | (obtain⟨t,rfl⟩:=rx;rfl)
theorem nomark (b:Expr){op:CmpOp}(h:op≠ .In:=by decide)(h2:op≠ .NotIn:=by decide):behindInMarks op b=false:=by
 have e1:(op==CmpOp.In)=false:=by cases op<;>first|rfl|exact absurd rfl h
 have e2:(op==CmpOp.NotIn)=false:=by cases op<;>first|rfl|exact absurd rfl h2
 cases b<;>simp [behindInMarks,e1,e2]
theorem cW {op:CmpOp}{r:R2}(ho:OpR X (compareOp op) r)(ha:PE X a ta)(hb:PE X b tb)(hm:behindInMarks op b=false):PE X (.Compare a [op] [b] pos) (tOp r ta tb):=by intro pins s σ H Q I h;exact wpAny_Compare1 (vT ha hb I h fun v u s2 x y H2 I2 rx ry q=>ho pins s2 σ H2 x y v u Q I2 rx ry q) hm
def A1n (t:TE):TT:=fun σ H Q=>t σ H fun x H'=> ∃k,x= .bl k/\Q k H'
theorem cB {op:CmpOp}{r:R2}(ho:OpR X (compareOp op) r)(ha:PE X a ta)(hb:PE X b tb)(hm:behindInMarks op b=false):PT X (.Compare a [op] [b] pos) (A1n (tOp r ta tb)):=by
 intro pins s σ H Q I h;refine wpAny_isTrue_Compare1 (thn (ha pins s σ H _ I h) fun v s1 ⟨x,H1,I1,r1,q1⟩=>thn (hb pins s1 σ H1 _ I1 q1) fun u s2 ⟨y,H2,I2,r2,q2⟩=>
  thn (ho pins s2 σ H2 x y v u _ I2 r1 r2 q2) fun c s3 ⟨z,H3,I3,r3,k,e,q3⟩=> ?_) hm
 subst e;cases r3;exact wpAny_truthy_bool ⟨H3,I3,q3⟩
def B1t (r r':R2)(ta tb tc:TE):TE:=fun σ H Q=>ta σ H fun x H1=>tb σ H1 fun y H2=>r x y H2 fun z H3=> ∃k,z= .bl k/\
 (if k=true then tc σ H3 fun w' H4=>r' y w' H4 Q else Q (.bl false) H3)
theorem nQ {op op':CmpOp}{r r':R2}(ho:OpR X (compareOp op) r)(ho':OpR X (compareOp op') r')(ha:PE X a ta)(hb:PE X b tb)(hc:PE X c tc)
  (hm:lastMarks [op,op'] [b,c]=false:=by with_unfolding_all rfl):PE X (.Compare a [op,op'] [b,c] pos) (B1t r r' ta tb tc):=by
 intro pins s σ H Q I h;refine Compare_chain (thn (ha pins s σ H _ I h) fun v s1 ⟨x,H1,I1,r1,q1⟩=>chain_link (thn (hb pins s1 σ H1 _ I1 q1) fun u s2 ⟨y,H2,I2,r2,q2⟩=>
  thn (ho pins s2 σ H2 x y v u _ I2 r1 r2 q2) fun d s3 ⟨z,H3,I3,r3,k,e,q3⟩=> ?_)) hm
 subst e;cases r3;refine wpAny_truthy_bool ?_;cases k with
 |false=>exact ite_ff ⟨.bl false,H3,I3,rfl,q3⟩
 |true=>exact ite_tt (chain_last (thn (hc pins s3 σ H3 _ I3 q3) fun w' s4 ⟨z',H4,I4,r4,q4⟩=>ho' pins s4 σ H4 y z' u w' Q I4 r2 r4 q4))
theorem pH:(sizeLine:Nat)<2^63:=by rw [sizeLine_eq];decide
theorem eI {x:V}{us:List Value}(r:Vals [x] us):∃u,us=[u]/\RelV x u:=by
 cases r with
 |cons r1 r2=>cases r2;exact⟨_,rfl,r1⟩
theorem tN {x y:V}{us:List Value}(r:Vals [x,y] us):∃u w',us=[u,w']/\RelV x u/\RelV y w':=by
 cases r with
 |cons r1 r2=>
  cases r2 with
  |cons r3 r4=>cases r4;exact⟨_,_,rfl,r1,r3⟩
theorem nM:dW X (.builtin "abs") (fun xs H Q=> ∃i,xs=[.int i]/\Q (.int (if i<0 then -i else i)) H):=by intro pins s σ H xs us Q I r h;obtain⟨i,rfl,q⟩:=h;obtain⟨u,rfl,t,rfl⟩:=eI r;exact call_abs_int fun u tk=> ⟨.int (if i<0 then -i else i),H,I.tok _,⟨_,rfl⟩,q⟩
theorem nP:dW X (.type "int") (fun xs H Q=>(∃i,xs=[.int i]/\Q (.int i) H)\/ ∃k,xs=[.bl k]/\Q (.int (if k then 1 else 0)) H):=by
 intro pins s σ H xs us Q I r h;rcases h with⟨i,rfl,q⟩| ⟨k,rfl,q⟩
 ·obtain⟨u,rfl,t,rfl⟩:=eI r;exact call_int_int ⟨.int i,H,I,⟨_,rfl⟩,q⟩
 ·obtain⟨u,rfl,r1⟩:=eI r;cases r1;exact call_int_bool ⟨.int (if k then 1 else 0),H,I.tok _,⟨_,rfl⟩,q⟩
end
structure ObjM (h:Heap)(x dx C:Addr)(mA:Str->Option Value):Prop where
 obj:h.get? x=some (W.instObj C dx)
 ns:h.Ns1 dx mA
 ne:dx≠x
theorem B23 {h:Heap}{dx:Addr}{mA:Str->Option Value}(n:h.Ns1 dx mA):∃od,h.get? dx=some od/\∀name,W.lookIn name od=some (mA name):=by
 obtain⟨o,es,ep,ho,hd,hk,_,hm⟩:=n;refine⟨o,ho,fun name=> ?_⟩;have e:=hm name;unfold nsFind findBy at e;rw [←Array.find?_toList]at e;unfold W.lookIn;rw [hd];dsimp only
 split
 ·rename_i y q;rw [q]at e;exact congrArg some e
 ·rename_i q;rw [q]at e;have a:es.toList.any (·.refKey)=false:=by
   rw [any_eq_false];intro y hy;obtain⟨z,t,hkey⟩:=hk y (Array.mem_toList_iff.mp hy);simp [DictEntry.refKey,hkey]
  have a':¬es.toList.any (·.refKey)=true:=by rw [a];exact Bool.false_ne_true
  rw [if_neg a'];exact congrArg some e
theorem ObjM.look {h:Heap}{x dx C:Addr}{mA:Str->Option Value}(I:ObjM h x dx C mA):∃od,W.InstAt h x (W.instObj C dx) C (some od)/\∀name,W.lookIn name od=some (mA name):=
 let ⟨od,ho,hl⟩:=B23 I.ns
 ⟨od,⟨I.obj,rfl,rfl,ho⟩,hl⟩
section
variable {prog:Program}{w:World}{A:Around}{E:Value->Shared->Prop}{s:Shared}{K:W.Frag}{x dx C f:Addr}{mA:Str->Option Value}{name:Str}{v:Value}
end
def gB (f:Str)(v:V):List (Str×V)->List (Str×V)
 | []=> [(f,v)]
 | (g,x)::r=>if g=f then(g,v)::r else(g,x)::gB f v r
theorem RelO.some_of {v:V}{o:Option Value}(r:RelO (some v) o):∃u,o=some u/\RelV v u:=by
 cases o with
 |none=>exact(show False from r).elim
 |some u=>exact⟨u,rfl,r⟩
section
variable {P:Program}{w:World}{H H':Hp}{h h':Heap}{a C dx:Addr}{fs fs':List (Str×V)}
theorem A9x (hok:HOk P w H h)(e:H a=some (.ins C dx fs)):∃mA,ObjM h a dx C mA/\(∀f,RelO (fs.lookup f) (mA f))/\PySem.Within mA (fs.map (·.1))/\fs.length<=1000/\H dx=some (.own a):=by obtain⟨d,z,ne,ob,mA,n,r,q⟩:=(show ObjOk P w H h a (.ins C dx fs)from hok a _ e);exact⟨mA,⟨ob,n,ne⟩,r,q,z,d⟩
end
structure Cls (K:W.Frag)(C:Addr):Prop where
 pg:W.plainGet K C Str.empty=true
 hd:W.hasDictIn K C=true
 po:W.plainOver K C=true
 sa:W.findIn K (.ref C) "__setattr__" =some (some (.builtin "object.__setattr__"))
theorem Cls.get {K:W.Frag}{C:Addr}(c:Cls K C)(f:Str):W.plainGet K C f=true:=c.pg
section
variable {X:Cx}{pins:List (Addr×Obj)}{σ:St}{H:Hp}{s:Shared}{a C dx:Addr}{fs:List (Str×V)}{f:Str}{v:V}{A:Around}{E:Value->Shared->Prop}
end
section
variable {X:Cx}{o e value:Expr}{f:Str}{pos pos' tpos:Pos}{ta tv:TE}
end
section
variable {X:Cx}{pins:List (Addr×Obj)}{σ:St}{H:Hp}{s:Shared}{A:Around}{E:Value->Shared->Prop}{Q:Value->Shared->Prop}{c:Value}{b:Bool}
inductive TyOf (K:W.Frag) (H:Hp):V->Value->Prop where
 |non:TyOf K H .non (.type "NoneType")
 |bl (x:Bool):TyOf K H (.bl x) (.type "bool")
 |int (i:Int):TyOf K H (.int i) (.type "int")
 |str (x:Str):TyOf K H (.str x) (.type "str")
 |flt (x:UInt64):TyOf K H (.flt x) (.type "float")
 |lst {a:Addr} {xs:List V} (e:H a=some (.lst xs)):TyOf K H (.ref a) (.type "list")
 |frz {a:Addr} {o:Obj} {xs:List V} (e:H a=some (.frz o (.lst xs))):TyOf K H (.ref a) (.type "list")
 |tup {a:Addr} {xs:List V} (e:H a=some (.tup xs)):TyOf K H (.ref a) (.type "tuple")
 |dK {a:Addr} {kvs:List (Key×V)} (e:H a=some (.dK kvs)):TyOf K H (.ref a) (.type "dict")
 |dT {a:Addr} {kvs:List (List Key×V)} (e:H a=some (.dT kvs)):TyOf K H (.ref a) (.type "dict")
 |ins {a C dx:Addr} {fs:List (Str×V)} (e:H a=some (.ins C dx fs)) (cl:Cls K C) (ha:W.findIn K (.ref C) "__class__" =some (some (.builtin "object.__class__")))
   (hn:W.specialIn K (.builtin "object.__class__") "__get__" =some (some (.builtin "getset_descriptor.__get__"))) (htk:W.takesIn K (.builtin "object.__class__")=some true)
   (hm:W.mroIn K C (.type "object")=some true):TyOf K H (.ref a) (.ref C)
theorem A9q {x:V}{u t:Value}(I:Inv X pins σ H s)(rx:RelV x u)(ty:TyOf X.K H x t)(e:W.kitOne X.K t c=some b)(h:∀tk,Q (.bool b) {s with toks:=tk}):
  wpAny (model X.prog X.w) A (call (.builtin "isinstance") [u,c]) Q E s:=by
 cases ty with
 |non=>cases (show u=Value.none from rx);exact W.kia_one W.kitx_none I.kIn True.intro e (fun z=>nomatch z) h
 |bl y=>cases (show u=Value.bool y from rx);exact W.kia_one W.kitx_bool I.kIn True.intro e (fun z=>nomatch z) h
 |int i=>obtain⟨t,q⟩:=(show∃t,u=Value.int i t from rx);cases q;exact W.kia_one W.kitx_int I.kIn True.intro e (fun z=>nomatch z) h
 |str y=>obtain⟨t,q⟩:=(show∃t,u=Value.str y t from rx);cases q;exact W.kia_one W.kitx_str I.kIn True.intro e (fun z=>nomatch z) h
 |flt y=>obtain⟨t,q⟩:=(show∃t,u=Value.float y t from rx);cases q;exact W.kia_one W.kitx_float I.kIn True.intro e (fun z=>nomatch z) h
 | @lst a xs ea=>
  cases (show u=Value.ref a from rx);obtain⟨_,_,n,_,h1⟩:=(show ObjOk X.prog X.w H s.heap a (.lst xs)from I.hok a _ ea);exact W.kia_one W.kitx_list I.kIn ⟨_,h1,rfl⟩ e (fun z=>nomatch z) h
 | @frz a ob xs ea=>
  cases (show u=Value.ref a from rx);obtain⟨_,_,_,n,_,h1⟩:=(show ObjOk X.prog X.w H s.heap a (.frz ob (.lst xs))from I.hok a _ ea);exact W.kia_one W.kitx_list I.kIn ⟨_,h1,rfl⟩ e (fun z=>nomatch z) h
 | @tup a xs ea=>
  cases (show u=Value.ref a from rx);obtain⟨_,_,_,p⟩:=(show ObjOk X.prog X.w H s.heap a (.tup xs)from I.hok a _ ea);obtain⟨o,h1,h2,_⟩:=p;exact W.kia_one W.kitx_tuple I.kIn ⟨o,h1,h2⟩ e (fun z=>nomatch z) h
 | @dK a kvs ea=>
  cases (show u=Value.ref a from rx);obtain⟨_,_,vs,_,p⟩:=(show ObjOk X.prog X.w H s.heap a (.dK kvs)from I.hok a _ ea);obtain⟨o,es,ep,h1,h2,_⟩:=p;exact W.kia_one W.kitx_dict I.kIn ⟨o,h1,h2.1⟩ e (fun z=>nomatch z) h
 | @dT a kvs ea=>
  cases (show u=Value.ref a from rx);obtain⟨_,_,xs,_,o,es,ep,h1,h2,_⟩:=(show ObjOk X.prog X.w H s.heap a (.dT kvs)from I.hok a _ ea);exact W.kia_one W.kitx_dict I.kIn ⟨o,h1,h2.1⟩ e (fun z=>nomatch z) h
 | @ins a C dx fs ea cl ha hn htk hm=>
  cases (show u=Value.ref a from rx);obtain⟨mA,O,_⟩:=A9x I.hok ea;obtain⟨od,J,_⟩:=O.look;exact W.kia_one (W.kitx_own (cl.get _) cl.hd ha hn htk hm) I.kIn J e (fun z=>nomatch z) h
end
structure Room (k:Nat)(A:Around):Prop where
 hd:A.handled=none
 dp:A.depth+3*k+5<recursionLimit
 un:A.units+16*k+200<cLine
 gd:A.guards=some []
theorem Room.mono {j k:Nat}{A:Around}(r:Room k A)(h:j<=k):Room j A:=⟨r.hd,by have:=r.dp;omega,by have:=r.un;omega,r.gd⟩
theorem Room.deeper {k:Nat}{A:Around}(r:Room (k+1) A)(env:Env):Room k (A.deeper env):=
 ⟨r.hd,by have:=r.dp;show A.depth+1+3*k+5<_;omega,by have:=r.un;show A.units+3+16*k+200<_;omega,r.gd⟩
theorem Room.depth {k:Nat}{A:Around}(r:Room k A):A.depth<recursionLimit:=by have:=r.dp;omega
theorem Room.units {k:Nat}{A:Around}(r:Room k A):A.units+64<cLine:=by have:=r.un;omega
def iR:TA:=fun _ H Q=>Q [] H
def bY (ta:TE)(tr:TA):TA:=fun σ H Q=>ta σ H fun x H1=>tr σ H1 fun xs H2=>Q (x::xs) H2
section
variable {X:Cx}{e:Expr}{es:List Expr}{te:TE}{t:TA}{pos:Pos}
theorem aA:PA X [] iR:=fun _ _ _ _ H Q I h=>Calls.spliced_nil ⟨[],H,I,.nil,h⟩
theorem bC (ha:PE X e te)(hr:PA X es t)(hs:starEach (e::es) X.env=(false,eval e X.env)::starEach es X.env:=by rfl):PA X (e::es) (bY te t):=by intro pos pins s σ H Q I h;rw [hs];show wpAny _ _ (spliced ((false,eval e X.env)::backTo pos (starEach es X.env))) _ _ s;refine Calls.spliced_cons (thn (ha pins s σ H _ I h) fun u s1 ⟨x,H1,I1,r1,q1⟩=> ?_);exact thn (hr pos pins s1 σ H1 _ I1 q1) fun us s2 ⟨xs,H2,I2,r2,q2⟩=> ⟨x::xs,H2,I2,.cons r1 r2,q2⟩
def mD (t:TA):TE:=fun σ H Q=>t σ H fun xs H1=>xs.length<=sizeLine/\∀p,H1 p=none->Q (.ref p) (upd H1 p (.tup xs))
def mL (t:TA):TE:=fun σ H Q=>t σ H fun xs H1=>xs.length<=sizeLine/\∀p,H1 p=none->Q (.ref p) (upd H1 p (.lst xs))
theorem cD {x1}(h:PA X es t):PE X (.Tuple es x1 pos) (mD t):=by intro pins s σ H Q I hq;refine wpAny_Tuple_spliced (thn (h pos pins s σ H _ I hq) fun us s1 ⟨xs,H1,I1,r,z,q⟩=> ⟨by rw [←r.length];exact z,?_⟩);have hf:H1 s1.heap.objs.size=none:=I1.hok.fresh (zjQ _);refine⟨.ref s1.heap.objs.size,upd H1 s1.heap.objs.size (.tup xs),I1.laid (t':=s1.toks) (fun b u e=>zjX _ e) (zjQ _) ?_,rfl,q _ hf⟩;exact⟨z,us,r,⟨_,get?_push_size _ rfl,rfl,_,rfl⟩⟩
theorem dR (h:PA X es t):PE X (.List es pos) (mL t):=by intro pins s σ H Q I hq;refine wpAny_List_spliced (thn (h pos pins s σ H _ I hq) fun us s1 ⟨xs,H1,I1,r,z,q⟩=> ⟨by rw [←r.length];exact z,?_⟩);have hf:H1 s1.heap.objs.size=none:=I1.hok.fresh (zjQ _);refine⟨.ref s1.heap.objs.size,upd H1 s1.heap.objs.size (.lst xs),I1.laid (t':=s1.toks) (fun b u e=>zjX _ e) (zjQ _) ?_,rfl,q _ hf⟩;exact⟨z,us,0,r,get?_push_size _ rfl⟩
end
abbrev Sp:=List V->Hp->VK->XK->Prop
abbrev CXT:=List Env->Hp->Shared->XK->Value->Shared->Prop
structure pA (P:Program)(w:World)(K:W.Frag)(mg:Str->Option Value)(base:Heap)(A:Around)(outer:List Env)(s:Shared)(H:Hp):Prop where
 frames:A.frames=some outer
 mod:Mod K mg base
 bs:∀b o,base.get? b=some o->s.heap.get? b=some o/\H b=none
 bsz:base.objs.size<=s.heap.objs.size
 funs:s.heap.FunFrames base outer
 frf:∀b∈frs outer,H b=none
 hok:HOk P w H s.heap
 bare:AllBare s.gens
def CE (outer:List Env)(P:Program)(w:World)(H:Hp)(s:Shared)(Q:VK)(u:Value)(s':Shared):Prop:=
 ∃v H',s'.os=s.os/\AllBare s'.gens/\Un (frs outer) [] H H' s.heap s'.heap/\HOk P w H' s'.heap/\RelV v u/\Q v H'
def CR (CX:CXT)(outer:List Env)(P:Program)(w:World)(H:Hp)(s:Shared)(Q:VK)(E:XK)(r:Result)(s':Shared):Prop:=
 match r with
 | .ok (.ret u)=>CE outer P w H s Q u s'
 | .ok _=>False
 | .error e=>CX outer H s E e s'
structure FnOk (P:Program)(w:World)(K:W.Frag)(mg:Str->Option Value)(base:Heap)(CX:CXT)(k:Nat)(f:Addr)(fd:FuncData)(ps:List Str)(sp:Sp):Prop where
 len:∀vs H Q E,sp vs H Q E->vs.length=ps.length
 run:∀(A:Around)(outer:List Env)(s:Shared)(H:Hp)(args:Args)(us:List Value)(vs:List V)(Q:VK)(E:XK),Room k A->pA P w K mg base A outer s H->BindsTo s fd args (ps.zip us)->Vals vs us->sp vs H Q E->
  codeAny (model P w) A (.call (.ref f) args) (CR CX outer P w H s Q E) s
theorem FnOk.imp {P:Program}{w:World}{K:W.Frag}{mg:Str->Option Value}{base:Heap}{CX:CXT}{k:Nat}{f:Addr}{fd:FuncData}{ps:List Str}{sp sp':Sp}(F:FnOk P w K mg base CX k f fd ps sp)
  (h:∀vs H Q E,sp' vs H Q E->sp vs H Q E):FnOk P w K mg base CX k f fd ps sp':=
 ⟨fun vs H Q E q=>F.len vs H Q E (h _ _ _ _ q),fun A outer s H args us vs Q E hr he hb hv hs=>F.run A outer s H args us vs Q E hr he hb hv (h _ _ _ _ hs)⟩
section
variable {X:Cx}{pins:List (Addr×Obj)}{σ:St}{H:Hp}{s s':Shared}
theorem Inv.env0 (I:Inv X pins σ H s):pA X.prog X.w X.K X.mg X.base X.A X.stack s H:=
 ⟨I.ok.frames,I.ok.mod,I.bs,le_trans I.ok.bsz I.sz,I.stack,I.stkFree,I.hok,I.bare⟩
theorem Inv.after {Q:VK}{u:Value}(I:Inv X pins σ H s)(h:CE X.stack X.prog X.w H s Q u s'):EP X pins σ Q u s':=by obtain⟨v,H',os,bare,un,hok,r,q⟩:=h;obtain⟨hh,g,d,t,os'⟩:=s';obtain rfl:os'=s.os:=os;exact⟨v,H',I.call (h':=hh) (g':=g) (d':=d) (t':=t) (ch:=[]) un hok bare (fun b z=>absurd z (by simp)),r,q⟩
end
def oR (sp:Sp)(dvs:List V)(E:XK)(t:TA):TE:=fun σ H Q=>t σ H fun vs H1=>sp (vs++dvs) H1 Q E
def Binds (K:W.Frag)(fd:FuncData)(ps:List Str)(ds:List Value):Prop:=
 ∀(s:Shared)(us:List Value),K.In s.heap->(us++ds).length=ps.length->BindsTo s fd ⟨us,[]⟩ (ps.zip (us++ds))
theorem Binds.all {K:W.Frag}{fd:FuncData}{ps:List Str}(h:∀us:List Value,us.length=ps.length->bindArgs fd ⟨us,[]⟩=pure (ps.zip us)):Binds K fd ps []:=fun s us _ hl=>by
 rw [append_nil]at hl⊢;exact .of_eq (h us hl)
def sN (CX:CXT)(X:Cx)(E:XK):Prop:=∀(pins:List (Addr×Obj))(σ:St)(H:Hp)(s:Shared)(e:Value)(s':Shared),Inv X pins σ H s->CX X.stack H s E e s'->X.xe e s'
section
variable {X:Cx}{CX:CXT}{k:Nat}{f C:Addr}{fd:FuncData}{ps:List Str}{sp:Sp}{dvs:List V}{ds:List Value}{E:XK}{x m:Str}{p pos apos:Pos}{e o:Expr}{es:List Expr}{ta:TE}{t:TA}
theorem A65 {pins:List (Addr×Obj)}{σ:St}{H:Hp}{s:Shared}{Q:VK}{us:List Value}{vs:List V}(F:FnOk X.prog X.w X.K X.mg X.base CX k f fd ps sp)(hr:Room k X.A)(hb:Binds X.K fd ps ds)(hd:Vals dvs ds)(hx:sN CX X E)
  (I:Inv X pins σ H s)(r:Vals vs us)(h:sp (vs++dvs) H Q E):wpAny (model X.prog X.w) X.A (call (.ref f) us) (EP X pins σ Q) X.xe s:=by
 have r2:Vals (vs++dvs) (us++ds):=r.append hd;have hl:(us++ds).length=ps.length:=by rw [←r2.length];exact F.len _ _ _ _ h
 refine wpAny_call (codeAny_mono (F.run X.A X.stack s H ⟨us,[]⟩ (us++ds) (vs++dvs) Q E hr I.env0 (hb s us I.kIn hl) r2 h) fun r s' hq=> ?_);cases r with
 |error e=>exact hx pins σ H s e s' I hq
 |ok fl=>
  cases fl with
  |ret u=>exact I.after hq
  |next=>exact False.elim hq
  |brk=>exact False.elim hq
  |cont=>exact False.elim hq
theorem A15 (F:FnOk X.prog X.w X.K X.mg X.base CX k f fd ps sp)(hr:Room k X.A)(hg:Gl X x)(hm:X.mg x=some (.ref f))(hk:W.keepIn X.K (.ref f)=true)(hb:Binds X.K fd ps ds)(hd:Vals dvs ds)(hx:sN CX X E)
  (ha:PA X (e::es) t)(hdb:(x==("__debug__":Str))=false:=by decide)(he:starEach (e::es) X.env=(false,eval e X.env)::starEach es X.env:=by rfl)(hpl:(backTo pos (starEach es X.env)).any (·.1)=false:=by rfl):
  PE X (.Call (.Name x p) (e::es) [] pos) (oR sp dvs E t):=by
 intro pins s σ H Q I h;refine wpAny_Call_Name_kw (xR I hg hm ?_ hdb);refine W.callWith_K (h₀:=X.base) I.ok.mod.kin hk (thn (ha pos pins s σ H _ I h) fun us s1 ⟨vs,H1,I1,r,q⟩=> ⟨I1.kIn,?_⟩) he hpl;exact A65 F hr hb hd hx I1 r q
end
section
variable {X:Cx}{CX:CXT}{k:Nat}{f C:Addr}{fd:FuncData}{ps ks:List Str}{sp:Sp}{E:XK}{x m:Str}{p pos apos kpos:Pos}{e o:Expr}{es:List Expr}{kws:List Keyword}{te ta:TE}{t tk:TA}{nm:Option Str}
variable {g:List Value->List Value->List Value}{gV:List V->List V->List V}
end
structure jD (N P:List Str)(sc:Scope):Prop where
 kind:sc.kind= .function
 co:sc.isCoroutine=false
 gen:sc.isGenerator=false
 nd:N.Nodup
 pre:N.take P.length=P
 par:∀x∈P,sc.names.lookup x=some .local\/sc.names.lookup x=some .cell
 nofree:∀y∈sc.names,y.2≠ .free
theorem xU {kindOf:Str->Option NameKind}{x:Str}:∀{binds:List (Str×Value)}{m:Str->Option Value},(∀v,(x,v)∉binds)->bindL kindOf binds m x=m x
 | [],_,_=>rfl
 | (n,v)::r,m,h=>by
  unfold bindL;rw [xU fun w hw=>h w (zjS _ hw)]
  split
  ·have:x≠n:=by rintro rfl;exact h v zjR
   simp [this]
  ·rfl
theorem A06 {kindOf:Str->Option NameKind}{x:Str}:∀{binds:List (Str×Value)}{m:Str->Option Value},(∀v,(x,v)∉binds)->bindC kindOf binds m x=m x
 | [],_,_=>rfl
 | (n,v)::r,m,h=>by
  unfold bindC;rw [A06 fun w hw=>h w (zjS _ hw)]
  split
  ·rfl
  ·have:x≠n:=by rintro rfl;exact h v zjR
   simp [this]
theorem A1r {kindOf:Str->Option NameKind}{x:Str}{v:Value}:∀{P:List Str}{vs:List Value}{i:Nat}{m:Str->Option Value},P.Nodup->P[i]?=some x->vs[i]?=some v->kindOf x=some .local->
  bindL kindOf (P.zip vs) m x=some v
 | [],_,_,_,_,h,_,_=>by simp at h
 |_::_,[],_,_,_,_,h,_=>by simp at h
 |p::P,w::vs,0,m,nd,h1,h2,hk=>by
  simp at h1 h2;subst h1;subst h2;show bindL kindOf ((p,w)::P.zip vs) m p=_;unfold bindL;rw [xU fun v hv=>(nodup_cons.mp nd).1 (of_mem_zip hv).1,if_pos hk];simp
 |p::P,w::vs,i+1,m,nd,h1,h2,hk=>by
  show bindL kindOf ((p,w)::P.zip vs) m x=_;unfold bindL;exact A1r (i:=i) (nodup_cons.mp nd).2 (by simpa using h1) (by simpa using h2) hk
theorem zA {kindOf:Str->Option NameKind}{x:Str}{v:Value}:∀{P:List Str}{vs:List Value}{i:Nat}{m:Str->Option Value},P.Nodup->P[i]?=some x->vs[i]?=some v->kindOf x≠some .local->
  bindC kindOf (P.zip vs) m x=some v
 | [],_,_,_,_,h,_,_=>by simp at h
 |_::_,[],_,_,_,_,h,_=>by simp at h
 |p::P,w::vs,0,m,nd,h1,h2,hk=>by
  simp at h1 h2;subst h1;subst h2;show bindC kindOf ((p,w)::P.zip vs) m p=_;unfold bindC;rw [A06 fun v hv=>(nodup_cons.mp nd).1 (of_mem_zip hv).1,if_neg hk];simp
 |p::P,w::vs,i+1,m,nd,h1,h2,hk=>by
  show bindC kindOf ((p,w)::P.zip vs) m x=_;unfold bindC;exact zA (i:=i) (nodup_cons.mp nd).2 (by simpa using h1) (by simpa using h2) hk
def start (N:List Str)(vs:List V):St:=vs.map some++replicate (N.length - vs.length) none
def eX (CX:CXT)(P:Program)(w:World)(K:W.Frag)(mg:Str->Option Value)(base:Heap)(N:List Str)(qual:Str)(scope:Scope)(f:Addr)(cd:Value)(A:Around)(outer:List Env)(s:Shared)(H:Hp)(E:XK):Cx where
 prog:=P
 w:=w
 K:=K
 mg:=mg
 base:=base
 A:=A.deeper (envOfC qual scope s.heap.objs.size f cd)
 N:=N
 s₀:=s
 H₀:=H
 env:=envOfC qual scope s.heap.objs.size f cd
 outer:=outer
 stack:=envOfC qual scope s.heap.objs.size f cd::outer
 ex:=[]
 calm:=true
 fn:=fun _=>true
 pn:=[]
 xe:=fun e s'=>wpAny (model P w) (A.deeper (envOfC qual scope s.heap.objs.size f cd)) (leaving (envOfC qual scope s.heap.objs.size f cd) e) (fun _ s''=>CX outer H s E e s'') (fun e' s''=>CX outer H s E e' s'') s'
theorem wS {sc:Scope}{n:Nat}{x:Str}(h:sc.names.lookup x=some .cell):∃c,(cellsFrom n sc.names []).lookup x=some c:=by have q:=W.cellsFrom_some sc.names n [] (.inl h);exact Option.isSome_iff_exists.mp q
theorem A95 {CX:CXT}{P:Program}{w:World}{K:W.Frag}{mg:Str->Option Value}{base:Heap}{N ps:List Str}{qual:Str}{scope:Scope}{f:Addr}{cd:Value}{A:Around}{outer:List Env}{s s1:Shared}{H:Hp}{E:XK}{us:List Value}{vs:List V}
  (S:jD N ps scope)(hd:A.handled=none)(e0:pA P w K mg base A outer s H)(hl:vs.length=ps.length)(r:Vals vs us)
  (x:InCallC s s.heap.objs.size (bindL (envOfC qual scope s.heap.objs.size f cd).kindOf (ps.zip us) fun _=>none) (cellsFrom (s.heap.objs.size+1) scope.names []) (bindC (envOfC qual scope s.heap.objs.size f cd).kindOf (ps.zip us) fun _=>none) s1):
  Inv (eX CX P w K mg base N qual scope f cd A outer s H E) [] (start N vs) H s1:=by
 have hpl:ps.length<=N.length:=by have:=congrArg List.length S.pre;rw [length_take]at this;omega
 obtain⟨h1,tk,rfl,hk⟩:=x.done;have noA:∀b:Addr,b∉(eX CX P w K mg base N qual scope f cd A outer s H E).ex:=fun b z=>absurd (show b∈([]:List Addr)from z) (by simp);refine⟨⟨e0.mod,S.kind,rfl,rfl,zjQ _,fun y z c h1 h2=> ?_,fun y hy=> ?_,fun y c _ h=> ?_,fun _=>hd,Around.frames_deeper e0.frames,.inr ⟨rfl,rfl⟩,fun b z=>absurd z (noA b),e0.bs,e0.bsz,fun b _ _=>noA b,fun b z=>absurd z (noA b),e0.funs,e0.frf⟩,
  rfl,e0.bare,Un.kept hk,⟨_,x.toInCall.ns,fun i y v h1 h2 h3=> ?_⟩,fun y c h=> ⟨_,x.cell y c h⟩,e0.hok.fresh (zjQ _),fun y c h=> ?_,fun p hp=>absurd (show p∈([]:List (Addr×Obj))from hp) (by simp),e0.hok.kept hk,?_⟩
 ·exact name_of_addr x.apart (PySem.mem_of_lookup h1) (PySem.mem_of_lookup h2)
 ·have hy:scope.names.lookup y=some .cell\/scope.names.lookup y=some .free:=hy;rcases hy with hy|hy
  ·exact wS hy
  ·exact absurd rfl (S.nofree _ (PySem.mem_of_lookup hy))
 ·exact le_of_lt (x.above y c (PySem.mem_of_lookup h))
 ·have hi:i<vs.length:=by
   unfold start at h2;by_cases hi:i<vs.length
   ·exact hi
   ·rw [List.getElem?_append_right (by simpa using hi)]at h2;rw [List.getElem?_replicate]at h2
    split at h2<;>cases h2
  have ha:vs[i]?=some v:=by
   unfold start at h2;rw [List.getElem?_append_left (by simpa using hi),getElem?_map]at h2;cases e:vs[i]? with
   |none=>rw [e]at h2;cases h2
   |some a=>rw [e]at h2;cases h2;rfl
  obtain⟨u,hu,rv⟩:=r.get ha;have hp:ps[i]?=some y:=by
   rw [←S.pre,List.getElem?_take_of_lt (by omega)];exact h1
  have ndP:ps.Nodup:=by rw [←S.pre];exact S.nd.sublist (List.take_sublist _ _)
  refine⟨u,rv,?_⟩;rcases S.par y (mem_of_getElem? hp)with k|k
  ·exact .inl ⟨k,A1r ndP hp hu k⟩
  ·obtain⟨c,e⟩:=wS (n:=s.heap.objs.size+1) k;refine .inr ⟨.inl k,c,e,?_⟩;have q:=x.cell y c e;rw [zA ndP hp hu (by show scope.names.lookup y≠_;rw [k];decide)]at q;exact q
 ·exact e0.hok.fresh (le_of_lt (x.above y c (PySem.mem_of_lookup h)))
 ·unfold start;show _=N.length;rw [length_append,length_map,List.length_replicate];omega
theorem B1o {CX:CXT}{P:Program}{w:World}{K:W.Frag}{mg:Str->Option Value}{base:Heap}{k:Nat}{f:Addr}{name qual:Str}{params:Arguments}{body:List Stmt}{scope:Scope}{dV kV doc pm cdv ct oc:Value}{an od:Option Addr}
  {osl:Array (Option Value)}{N ps:List Str}{sp:Sp}(lk:K.lookup f=some ⟨oc,od,.func (W.fnOf name qual params body scope dV kV doc pm an cdv ct),osl⟩)(hcd:W.codeIn K cdv qual=true)(S:jD N ps scope)
  (len:∀vs H Q E,sp vs H Q E->vs.length=ps.length)
  (hbody:∀(A:Around)(outer:List Env)(s:Shared)(H:Hp)(vs:List V)(Q:VK)(E:XK),Room k (A.deeper (envOfC qual scope s.heap.objs.size f cdv))->sp vs H Q E->
   ∃t,PSs (eX CX P w K mg base N qual scope f cdv A outer s H E) body t/\t {nx:=fun _ H'=>Q .non H',rt:=Q} (start N vs) H):
  FnOk P w K mg base CX (k+1) f (W.fnOf name qual params body scope dV kV doc pm an cdv ct) ps sp:=by
 refine⟨len,fun A outer s H args us vs Q E hr e0 hb r hsp=> ?_⟩;have hl:=len _ _ _ _ hsp;have KX:K.In s.heap:=e0.mod.kin.keeps fun b o e=>(e0.bs b o e).1;have lim:s.heap.NoLimit:=e0.mod.nolimit.keeps fun b o e=>(e0.bs b o e).1;have hkind:∀y∈ps.zip us,scope.names.lookup y.1=some .local\/(scope.names.lookup y.1=some .cell/\((cellsFrom (s.heap.objs.size+1) scope.names []).lookup y.1).isSome=true):=fun⟨n,v⟩ hy=>by
  rcases S.par n (of_mem_zip hy).1 with q|q
  ·exact .inl q
  ·exact .inr ⟨q,W.cellsFrom_some _ _ _ (.inl q)⟩
 refine codeAny_call_function hr.depth (KX _ _ lk) rfl S.co S.gen rfl (W.codeRec_of KX hcd) (hb _ _ _ _ ?_);refine wpAny_newFunctionEnv_cells S.kind hkind fun env he s1 x=> ?_;subst he;refine⟨lim.keeps x.toInCall.keep,codeAny_func ?_⟩;obtain⟨t,ht,hq⟩:=hbody A outer s H vs Q E (hr.deeper _) hsp;have I:Inv (eX CX P w K mg base N qual scope f cdv A outer s H E) [] (start N vs) H s1:=A95 S hr.hd e0 hl r x;refine wpAny_mono (ht [] s1 (start N vs) H _ I hq) (fun fl s' hs=> ?_) fun e s' hs=>hs;have fin:∀{σ':St}{H':Hp}{v:V}{u:Value},Inv (eX CX P w K mg base N qual scope f cdv A outer s H E) [] σ' H' s'->RelV v u->Q v H'->CE outer P w H s Q u s':=
  fun{σ' H' v u} J rv q=> ⟨v,H',J.os,J.bare,J.base,J.hok,rv,q⟩
 cases fl with
 |ret u=>
  obtain⟨v,σ',H',J,rv,q⟩:=hs;exact fin J rv q
 |next=>
  obtain⟨σ',H',J,q⟩:=hs;exact fin (v:=V.non) (u:=Value.none) J rfl q
 |brk=>
  obtain⟨_,_,_,q⟩:=hs;exact False.elim q
 |cont=>
  obtain⟨_,_,_,q⟩:=hs;exact False.elim q
section
variable {X:Cx}{x:Str}{p pos:Pos}{e:Expr}{es:List Expr}{t:TA}{id T:String}{r:List V->Hp->VK->Prop}
def tCB (r:List V->Hp->VK->Prop)(t:TA):TE:=fun σ H Q=>t σ H fun vs H1=>r vs H1 Q
theorem bE (hc:dW X (.builtin id) r)(hg:Gl X x)(hm:X.mg x=none)(hv:bootBuiltins x=some (.builtin id))(ha:PA X (e::es) t)(hn:x≠ "__name__":=by decide)(hdb:(x==("__debug__":Str))=false:=by decide)
  (he:starEach (e::es) X.env=(false,eval e X.env)::starEach es X.env:=by rfl)(hpl:(backTo pos (starEach es X.env)).any (·.1)=false:=by rfl):PE X (.Call (.Name x p) (e::es) [] pos) (tCB r t):=by
 intro pins s σ H Q I h;refine wpAny_Call_Name_kw (jV I hg hm hv ?_ hn hdb);exact PyProof.Rows.callWith_builtin1 (thn (ha pos pins s σ H _ I h) fun us s1 ⟨vs,H1,I1,r1,q1⟩=>hc pins s1 σ H1 vs us Q I1 r1 q1) he hpl
theorem eP (hc:dW X (.type T) r)(hg:Gl X x)(hm:X.mg x=none)(hv:bootBuiltins x=some (.type T))(ha:PA X (e::es) t)(hn:x≠ "__name__":=by decide)(hdb:(x==("__debug__":Str))=false:=by decide)
  (he:starEach (e::es) X.env=(false,eval e X.env)::starEach es X.env:=by rfl)(hpl:(backTo pos (starEach es X.env)).any (·.1)=false:=by rfl):PE X (.Call (.Name x p) (e::es) [] pos) (tCB r t):=by
 intro pins s σ H Q I h;refine wpAny_Call_Name_kw (jV I hg hm hv ?_ hn hdb);exact PyProof.Rows.callWith_type1 (thn (ha pos pins s σ H _ I h) fun us s1 ⟨vs,H1,I1,r1,q1⟩=>hc pins s1 σ H1 vs us Q I1 r1 q1) he hpl
end
end L2
namespace HT
open PySem PyProof.Rows
def lexLt:List Int->List Int->Bool
 | [],[]=>false
 | [],_::_=>true
 |_::_,[]=>false
 |x::xs,y::ys=>if x=y then lexLt xs ys else decide (x<y)
theorem lexLt_cons (x y:Int)(xs ys:List Int):lexLt (x::xs) (y::ys)=if x=y then lexLt xs ys else decide (x<y):=rfl
theorem B1k:lexLt [] []=false:=rfl
theorem A3r (y:Int)(ys:List Int):lexLt [] (y::ys)=true:=rfl
theorem A7h (x:Int)(xs:List Int):lexLt (x::xs) []=false:=rfl
theorem A7a (A:Around)(s:Shared)(a:Int)(t:Tok)(c:Int)(u:Tok):∃e,SeqAt.EqAt A s (.int a t) (.int c u) e/\(e=true↔a=c):=
 ⟨(a==c),SeqAt.EqAt.int_int a t c u,by simp⟩
theorem A4c (A:Around)(s:Shared)(a:Int)(t:Tok)(c:Int)(u:Tok)(prog:Program)(w:World)(E:Value->Shared->Prop)(Q:Value->Shared->Prop)(h:Q (.bool (decide (a<c))) s):
  wpAny (model prog w) A (richCompare .Lt (.int a t) (.int c u)) Q E s:=
 (PyProof.Rows.lt_int h:wpAny (model prog w) A (compareOp .Lt (.int a t) (.int c u)) Q E s)
section
open PySem.SeqAt
open PySem.AutoSeq1 (wpAny_loadPart')
open PySem.MeetsSeq PySem.MeetsSeq2 PySem.MeetsSeq3
theorem tuple_lt_ints (l b:Addr)(items items2:Array Value)(n n2:Nat)(dd dd2:Option Addr)(sl sl2:Array (Option Value))(ns ms:List Int)(hi:IntsAre items.toList ns)(hj:IntsAre items2.toList ms):
  Meets (Builtin.«tuple.__lt__» ⟨[.ref l,.ref b],[]⟩)
   (fun _ R s=>s.heap.get? l=some {cls:=.type "tuple",dict:=dd,data:=.seq items n,slots:=sl}/\s.heap.get? b=some {cls:=.type "tuple",dict:=dd2,data:=.seq items2 n2,slots:=sl2}/\
    R (.ok (.ret (.bool (lexLt ns ms)))) s):=
 .of_wp fun prog w A R s h=>by
  obtain⟨hp,g,d,tk,os⟩:=s;obtain⟨hl,hb,h⟩:=h;have f2:=AutoSeq1.sub_tuple_tuple;have z1:items.size=ns.length:=by rw [←hi.length];simp
  have z2:items2.size=ms.length:=by rw [←hj.length];simp
  wp_walk using wpAny_loadPart' hl,wpAny_loadPart' hb,wpAny_forIn_list _ (fun rest b s'=>b.1=none/\s'=⟨hp,g,d,tk,os⟩/\∃(vs ws:List Value)(ns' ms':List Int),rest=vs.zip ws/\
   IntsAre vs ns'/\IntsAre ws ms'/\ns'.length+items2.size=ms'.length+items.size/\R (.ok (.ret (.bool (lexLt ns' ms')))) ⟨hp,g,d,tk,os⟩) _
  case turn=>
   rintro⟨y,x⟩ rest b s' ⟨hb',rfl,vs,ws,ns',ms',hz,hvi,hwi,hlen,hR⟩;cases hvi with
   |nil=>rw [List.zip_nil_left]at hz;cases hz
   |cons a t hvi'=>
    cases hwi with
    |nil=>rw [List.zip_nil_right]at hz;cases hz
    |cons c u hwi'=>
     rw [zip_cons_cons]at hz;injection hz with hyx hrest
     injection hyx with hy hx;subst hy hx;rw [lexLt_cons]at hR;simp only [length_cons]at hlen;obtain⟨e,he,hiff⟩:=A7a A.in1 ⟨hp,g,d,tk,os⟩ a t c u;refine zjZ (he prog w _ _ ?_);cases e with
     |true=>
      rw [if_pos (hiff.mp rfl)]at hR
      wp_walk
      exact⟨rfl,rfl,_,_,_,_,hrest,hvi',hwi',by omega,hR⟩
     |false=>
      rw [if_neg (fun q=>absurd (hiff.mpr q) Bool.false_ne_true)]at hR;have hri:=A4c A.in1 ⟨hp,g,d,tk,os⟩ a t c u prog w
      wp_walk using hri
      exact⟨_,rfl,by simpa using hR⟩
  case fin=>
   rintro⟨b1,b2⟩ s' ⟨hb',rfl,vs,ws,ns',ms',hz,hvi,hwi,hlen,hR⟩;simp only at hb';subst hb';have hv:lexLt ns' ms'=decide (items.size<items2.size):=by
    cases hvi with
    |nil=>
     cases hwi with
     |nil=>
      simp only [length_nil]at hlen;rw [B1k];exact(zjU (by omega)).symm
     |cons c u hw=>
      simp only [length_nil,length_cons]at hlen;rw [A3r];exact(zjV (by omega)).symm
    |cons a t hv=>
     cases hwi with
     |nil=>
      simp only [length_nil,length_cons]at hlen;rw [A7h];exact(zjU (by omega)).symm
     |cons c u hw=>
      rw [zip_cons_cons]at hz;cases hz
   rw [hv]at hR
   wp_walk
   exact⟨_,rfl,by simpa [Builtin.Tuple.tupleCompareSizes]using hR⟩
  case h=>
   exact⟨rfl,rfl,items.toList,items2.toList,ns,ms,rfl,hi,hj,by omega,h⟩
end
section
variable {prog:Program}{w:World}{A:Around}{E:Value->Shared->Prop}{s:Shared}
theorem lt_tupInts {l b:Addr}{items items2:Array Value}{ns ms:List Int}{Q:Value->Shared->Prop}(hl:IsTup s.heap l items)(hb:IsTup s.heap b items2)(hi:IntsAre items.toList ns)(hj:IntsAre items2.toList ms)
  (hu:A.units<cLine)(h:Q (.bool (lexLt ns ms)) s):wpAny (model prog w) A (compareOp .Lt (.ref l) (.ref b)) Q E s:=by
 obtain⟨⟨cls,dd,data,sl⟩,ho,hc,n,hd⟩:=id hl;obtain⟨⟨cls2,dd2,data2,sl2⟩,ho2,hc2,n2,hd2⟩:=id hb;simp only at hc hd hc2 hd2;subst hc hd hc2 hd2;exact richCompare_meets_room (op:=.Lt) ⟨_,ho,rfl⟩ ⟨_,ho2,rfl⟩ PySem.F.slot_tuple_lt PySem.F.entry_tuple_lt (PySem.F.args_tuple_lt_2 _ _) (tuple_lt_ints l b items items2 n n2 dd dd2 sl sl2 ns ms hi hj)
  ⟨ho,ho2,show Value.bool (lexLt ns ms)≠Value.notImplemented/\Q (.bool (lexLt ns ms)) s from⟨(fun x=>nomatch x),h⟩⟩ hu
theorem cat_tup {t b:Addr}{vs ws:List Value}{Q:Value->Shared->Prop}(ht:IsTup s.heap t vs.toArray)(hb:IsTup s.heap b ws.toArray)(hv:vs≠[])
  (h1:ws=[]->Q (.ref t) s)(h2:ws≠[]->Q (.ref s.heap.objs.size) {s with heap:=s.heap.push {cls:=.type "tuple",data:=.seq (vs++ws).toArray}})
  (hsz:vs.length+ws.length<=sizeLine):wpAny (model prog w) A (binaryOp .Add (.ref t) (.ref b)) Q E s:=by
 obtain⟨⟨cls,dd,data,sl⟩,ho,hc,n,hd⟩:=id ht;obtain⟨⟨cls2,dd2,data2,sl2⟩,ho2,hc2,n2,hd2⟩:=id hb;simp only at hc hd hc2 hd2;subst hc hd hc2 hd2;have e:vs.toArray++ws.toArray=(vs++ws).toArray:=by simp
 by_cases hw:ws=[]
 ·exact concat_meets ⟨_,ho,rfl⟩ ⟨_,ho2,rfl⟩ noFill_tuple_add seq_tuple_add PySem.F.slot_tuple_add PySem.F.entry_tuple_add (PySem.F.args_tuple_add_2 _ _)
   (tuple_addW1 t b vs.toArray ws.toArray n n2 dd dd2 sl sl2 (by simpa using hv) (by simp [hw])) ⟨ho,ho2,h1 hw⟩
 ·refine concat_meets ⟨_,ho,rfl⟩ ⟨_,ho2,rfl⟩ noFill_tuple_add seq_tuple_add PySem.F.slot_tuple_add PySem.F.entry_tuple_add (PySem.F.args_tuple_add_2 _ _)
   (tuple_addW2 t b vs.toArray ws.toArray n n2 dd dd2 sl sl2 (by simpa using hv) (by simpa using hw) (by rw [size_toArray,size_toArray];exact hsz)) ⟨ho,ho2,?_⟩
  rw [e];exact h2 hw
def sIx (n d:Nat):Option Int->Nat
 |none=>d
 |some v=>if v<0 then(v+(n:Int)).toNat else min v.toNat n
theorem sIx_nat (n d k:Nat):sIx n d (some (k:Int))=min k n:=by show(if (k:Int)<0 then((k:Int)+(n:Int)).toNat else min (k:Int).toNat n)=min k n;rw [if_neg (by omega),Int.toNat_natCast]
theorem A7q (n d:Nat)(hd:d<=n)(o:Option Int):sIx n d o<=n:=by
 cases o with
 |none=>exact hd
 |some v=>
  show(if v<0 then(v+(n:Int)).toNat else min v.toNat n)<=n;by_cases hv:v<0
  ·rw [if_pos hv];omega
  ·rw [if_neg hv];exact Nat.min_le_right _ _
theorem A0y (v:Int)(n d:Nat):(if v<0 then max (v+(n:Int)) 0 else min v (n:Int))=((sIx n d (some v):Nat):Int):=by
 show(if v<0 then max (v+(n:Int)) 0 else min v (n:Int))=(((if v<0 then(v+(n:Int)).toNat else min v.toNat n):Nat):Int);by_cases hv:v<0
 ·simp only [if_pos hv];omega
 ·simp only [if_neg hv];omega
theorem A61 (lo hi:Option Int)(n:Nat):Builtin.Slice.sliceAdjust lo hi 1 (n:Int)=(((sIx n 0 lo:Nat):Int),((sIx n n hi:Nat):Int)):=by
 have h1:¬((1:Int)<0):=by omega
 unfold Builtin.Slice.sliceAdjust;simp only [h1,if_false];refine Prod.ext ?_ ?_
 ·cases lo with
  |none=>rfl
  |some v=>exact A0y v n 0
 ·cases hi with
  |none=>rfl
  |some v=>exact A0y v n n
theorem B38 (i j:Nat):Builtin.Slice.slicePlaces (i:Int) (j:Int) 1=j - i:=by
 unfold Builtin.Slice.slicePlaces;have h1:(1:Int)>0:=by omega
 simp only [h1,if_true,Int.ediv_one]
 split<;>omega
theorem rN {v:Value}{o:Option Int}{Q:Option Int->Shared->Prop}(p:IsPart v o)(h:Q o s):wpAny (model prog w) A (Builtin.Slice.slicePartIndex v) Q E s:=by
 cases p with
 |none=>exact slicePart_none h
 |int i t=>exact slicePart_int h
theorem sliceApplied_gen {sl:Addr}{vl vu:Value}{lo hi:Option Int}{n:Nat}{Q:Int×Int×Nat->Shared->Prop}(hs:s.heap.IsSliceOf sl vl vu .none)(pl:IsPart vl lo)(pu:IsPart vu hi)
  (h:Q (((sIx n 0 lo:Nat):Int),1,sIx n n hi - sIx n 0 lo) s):wpAny (model prog w) A (Builtin.Slice.sliceApplied (.ref sl) (pure (n:Int))) Q E s:=by
 obtain⟨os,hos,hcs,hds⟩:=id hs;unfold Builtin.Slice.sliceApplied Builtin.Slice.sliceFields;refine zjZ (zjZ (wpAny_field hos hds (x:=vl) rfl (zjZ (wpAny_field hos hds (x:=vu) rfl (zjZ (wpAny_field hos hds (x:=.none) rfl (zjY ?_)))))));refine zjZ (slicePart_none ?_);show wpAny _ _ (if ((1:Int)==0)=true then _ else _) _ _ s;rw [if_neg (by decide)];refine zjZ (rN pl (zjZ (rN pu (zjZ (zjY ?_)))));show wpAny _ _ (match Builtin.Slice.sliceAdjust lo hi 1 (n:Int)with| (lo,hi)=>pure (lo,(1:Int),Builtin.Slice.slicePlaces lo hi 1)) _ _ s;rw [A61 lo hi n];show wpAny _ _ (pure (((sIx n 0 lo:Nat):Int),(1:Int),Builtin.Slice.slicePlaces ((sIx n 0 lo:Nat):Int) ((sIx n n hi:Nat):Int) 1)) _ _ s;rw [B38];exact zjY h
theorem A74 (xs:Array Value)(i k:Nat):((List.range k).filterMap fun(m:Nat)=>xs[((i:Int)+(m:Int)*1).toNat]?).toArray=((xs.toList.drop i).take k).toArray:=by
 have e:(fun(m:Nat)=>xs[((i:Int)+(m:Int)*1).toNat]?)=fun m=>xs[i+m]?:=by
  funext m
  have:((i:Int)+(m:Int)*1).toNat=i+m:=by omega
  rw [this]
 rw [e];have:=pick_run xs i k;rw [List.filterMap_map]at this;have e2:((fun x=>xs[x]?)∘fun x=>i+x)=fun m=>xs[i+m]?:=rfl;rw [e2]at this;rw [this]
theorem getItem_tuple_cut {t sl:Addr}{items:Array Value}{vl vu:Value}{lo hi:Option Int}{Q:Value->Shared->Prop}(ht:IsTup s.heap t items)(hs:s.heap.IsSliceOf sl vl vu .none)(pl:IsPart vl lo)(pu:IsPart vu hi)
  (hw:¬(sIx items.size 0 lo=0/\sIx items.size items.size hi=items.size))
  (h:Q (.ref s.heap.objs.size) {s with heap:=s.heap.push {cls:=.type "tuple",data:=.seq ((items.toList.drop (sIx items.size 0 lo)).take (sIx items.size items.size hi - sIx items.size 0 lo)).toArray}})
  (hsz:items.size<=sizeLine):wpAny (model prog w) A (getItem (.ref t) (.ref sl)) Q E s:=by
 have htake:sizeOk (.seq ((items.toList.drop (sIx items.size 0 lo)).take (sIx items.size items.size hi - sIx items.size 0 lo)).toArray):=by
  show((items.toList.drop (sIx items.size 0 lo)).take (sIx items.size items.size hi - sIx items.size 0 lo)).toArray.size<=sizeLine;rw [size_toArray,length_take,length_drop,Array.length_toList];omega
 have hj:sIx items.size items.size hi<=items.size:=A7q _ _ (zjQ _) hi;obtain⟨os,hos,hcs,hds⟩:=id hs;have hTs:s.TypeIs (.ref sl) "slice":=⟨os,hos,hcs⟩;unfold getItem
 try with_reducible refine wpAny_holding ?_
 first|refine zjZ (zjY ?_)|skip
 refine zjZ (wpAny_sequenceKey ht.typeIs (by decide) ?_);refine zjZ (wpAny_callSpecial?_slot (name:=Str.ofString "__getitem__") ht.typeIs PyProof.Rows.slot_tuple_getitem
  (wpAny_call_entry PyProof.Rows.slot_tuple_getitem ht.typeIs entry_tuple_getitem ?_ (args_tuple_getitem _ _)))
 show wpAny _ _ (Builtin.Tuple.tupleItemsOf (.ref t)>>=_) _ _ s;refine zjZ (tupleItemsOf_ ht ?_);refine zjZ (wpAny_typeOf hTs ?_);rw [if_pos (by decide)];refine zjZ (sliceApplied_gen hs pl pu ?_);have hno:¬((((sIx items.size 0 lo:Nat):Int)==0&&(1:Int)==1&&(sIx items.size items.size hi - sIx items.size 0 lo)==items.size)=true):=by
  intro q;rw [Bool.and_eq_true,Bool.and_eq_true]at q;have q1:((sIx items.size 0 lo:Nat):Int)=0:=eq_of_beq q.1.1;have q2:sIx items.size items.size hi - sIx items.size 0 lo=items.size:=eq_of_beq q.2;exact hw ⟨by omega,by omega⟩
 show wpAny _ _ (if (((sIx items.size 0 lo:Nat):Int)==0&&(1:Int)==1&&(sIx items.size items.size hi - sIx items.size 0 lo)==items.size)=true then _ else _) _ _ s;rw [if_neg hno,A74]
 first
  |exact zjZ (m:=Builtin.Tuple.tupleExact _) (wpAny_newObj_type (zjY ⟨_,rfl,zjY h⟩) htake)
  |exact zjZ (m:=Builtin.Tuple.tupleExact _) (wpAny_newObj_type (zjZ (zjY (zjY ⟨_,rfl,zjY h⟩))) htake)
  |exact zjZ (zjZ (m:=Builtin.Tuple.tupleExact _) (wpAny_newObj_type (zjY (zjY ⟨_,rfl,zjY h⟩)) htake))
  |exact zjZ (zjZ (m:=Builtin.Tuple.tupleExact _) (wpAny_newObj_type (zjY ⟨_,rfl,zjY h⟩) htake))
end
end HT
namespace L2
open PySem PySem.Spec PyProof.Rows
abbrev TO:=St->Hp->(Option Int->Hp->Prop)->Prop
def PO (X:Cx)(e:Option Expr)(t:TO):Prop:=
 ∀(pins:List (Addr×Obj))(s:Shared)(σ:St)(H:Hp)(Q:Option Int->Hp->Prop),Inv X pins σ H s->t σ H Q->
  wpAny (model X.prog X.w) X.A (evalPart e X.env) (fun u s'=> ∃o H',Inv X pins σ H' s'/\IsPart u o/\Q o H') X.xe s
def A8k:TO:=fun _ H Q=>Q none H
def A48 (t:TE):TO:=fun σ H Q=>t σ H fun x H1=> ∃i,x= .int i/\Q (some i) H1
theorem kU {ns:List Int}:∀{us:List Value},Vals (ns.map V.int) us->IntsAre us ns:=by
 induction ns with
 |nil=>intro us r;rw [map_nil]at r;cases r;exact .nil
 |cons n ns ih=>
  intro us r;rw [map_cons]at r;cases r with
  |cons r1 r2=>
   obtain⟨t,e⟩:=r1;subst e;exact .cons n t (ih r2)
section
variable {X:Cx}{e:Expr}{te:TE}{lo hi:Option Expr}{tl th:TO}{pos p2:Pos}
theorem fD:PO X none A8k:=by intro pins s σ H Q I h;rw [evalPart_none];exact zjY ⟨none,H,I,.none,h⟩
theorem eJ (h:PE X e te):PO X (some e) (A48 te):=by intro pins s σ H Q I hw;rw [evalPart_some];refine thn (h pins s σ H _ I hw) fun u s1 ⟨x,H1,I1,r1,q1⟩=> ?_;obtain⟨i,rfl,q⟩:=q1;obtain⟨t,rfl⟩:=r1;exact⟨some i,H1,I1,.int i t,q⟩
def SlR (X:Cx)(r:V->Option Int->Option Int->Hp->VK->Prop):Prop:=
 ∀(pins:List (Addr×Obj))(s:Shared)(σ:St)(H:Hp)(x:V)(v vl vu:Value)(lo hi:Option Int)(sl:Addr)(Q:VK),Inv X pins σ H s->RelV x v->s.heap.IsSliceOf sl vl vu .none->IsPart vl lo->IsPart vu hi->r x lo hi H Q->
  ∃T id,typeLookup (.type T) "__getitem__" =pure (some (.builtin id))/\s.TypeIs v T/\wpAny (model X.prog X.w) X.A (getItem v (.ref sl)) (EP X pins σ Q) X.xe s
def tSl (r:V->Option Int->Option Int->Hp->VK->Prop)(te:TE)(tl th:TO):TE:=fun σ H Q=>te σ H fun x H1=>tl σ H1 fun l H2=>th σ H2 fun u H3=>r x l u H3 Q
theorem eQ {r:V->Option Int->Option Int->Hp->VK->Prop}(hr:SlR X r)(he:PE X e te)(hl:PO X lo tl)(hu:PO X hi th):PE X (.Subscript e (.Slice lo hi none p2) pos) (tSl r te tl th):=by intro pins s σ H Q I h;refine Subscript_ (thn (he pins s σ H _ I h) fun v s1 ⟨x,H1,I1,r1,q1⟩=> ?_);refine wpAny_Slice (thn (hl pins s1 σ H1 _ I1 q1) fun vl s2 ⟨l,H2,I2,pl,q2⟩=>thn (hu pins s2 σ H2 _ I2 q2) fun vu s3 ⟨u,H3,I3,pu,q3⟩=> ?_);rw [evalPart_none];refine zjY ?_;have I4:Inv X pins σ H3 {s3 with heap:=s3.heap.push {cls:=.type "slice",data:=.fields #[vl,vu,.none]}}:=I3.kept (t':=s3.toks) fun b ob q=>zjX _ q;obtain⟨T,id,hT,ht,hg⟩:=hr pins {s3 with heap:=s3.heap.push {cls:=.type "slice",data:=.fields #[vl,vu,.none]}} σ H3 x v vl vu l u s3.heap.objs.size Q I4 r1 (Heap.IsSliceOf.new ..) pl pu q3;show wpAny (model X.prog X.w) X.A (subscriptTail e (.Slice lo hi none p2) v (.ref s3.heap.objs.size)) (EP X pins σ Q) X.xe {s3 with heap:=s3.heap.push {cls:=.type "slice",data:=.fields #[vl,vu,.none]}};exact tail_any (ops:=[.ref s3.heap.objs.size,v]) ht hT hg (by with_unfolding_all rfl)
def cC (xs:List V)(lo hi:Option Int):List V:=(xs.drop (HT.sIx xs.length 0 lo)).take (HT.sIx xs.length xs.length hi - HT.sIx xs.length 0 lo)
theorem nC (xs:List V)(lo hi:Option Int):(cC xs lo hi).length<=xs.length:=by unfold cC;rw [length_take,length_drop];omega
def A7y (K:W.Frag):R2:=fun x y H Q=> ∃a b ns ms,x= .ref a/\y= .ref b/\SqT K H a (ns.map V.int)/\SqT K H b (ms.map V.int)/\Q (.bl (HT.lexLt ns ms)) H
theorem A16 (hu:X.A.units<cLine):OpR X (compareOp .Lt) (A7y X.K):=by intro pins s σ H x y v u Q I rx ry h;obtain⟨a,b,ns,ms,rfl,rfl,ha,hb,q⟩:=h;cases rx;cases ry;obtain⟨its,r1,p1,_⟩:=I.tuple ha;obtain⟨its2,r2,p2,_⟩:=I.tuple hb;have i1:IntsAre its.toArray.toList ns:=kU r1;have i2:IntsAre its2.toArray.toList ms:=kU r2;exact HT.lt_tupInts p1 p2 i1 i2 hu ⟨.bl (HT.lexLt ns ms),H,I,rfl,q⟩
theorem Vals.nil_iff {xs:List V}{us:List Value}(r:Vals xs us):us=[]↔xs=[]:=by
 cases r with
 |nil=>simp
 |cons _ _=>simp
end
def ixN (n:Nat)(i:Int):Option Nat:=if 0<=i then(if i<n then some i.toNat else none)else if -(n:Int)<=i then some (i+n).toNat else none
def atI {α:Type}(xs:List α)(i:Int):Option α:=(ixN xs.length i).bind fun j=>xs[j]?
theorem yJ {n:Nat}{i:Int}{j:Nat}(h:ixN n i=some j):seqIndex? i n=some j/\j<n/\-(n:Int)<=i/\i<n:=by
 unfold ixN at h;by_cases h0:0<=i
 ·rw [if_pos h0]at h;by_cases h1:i<n
  ·rw [if_pos h1]at h;have e:i.toNat=j:=Option.some.inj h;exact⟨by rw [seqIndex_of h0 h1,e],by omega,by omega,h1⟩
  ·rw [if_neg h1]at h;cases h
 ·rw [if_neg h0]at h;by_cases h1:-(n:Int)<=i
  ·rw [if_pos h1]at h;have e:(i+n).toNat=j:=Option.some.inj h;exact⟨by rw [seqIndex_neg (by omega) h1,e],by omega,h1,by omega⟩
  ·rw [if_neg h1]at h;cases h
theorem kQ {α:Type}{xs:List α}{i:Int}{v:α}(h:atI xs i=some v):∃j,seqIndex? i xs.length=some j/\xs[j]?=some v/\j<xs.length/\-(xs.length:Int)<=i/\i<xs.length:=by
 unfold atI at h;cases e:ixN xs.length i with
 |none=>rw [e]at h;cases h
 |some j=>
  rw [e]at h;obtain⟨h1,h2,h3,h4⟩:=yJ e;exact⟨j,h1,h,h2,h3,h4⟩
theorem cK {α:Type}{xs:List α}{j:Nat}{v:α}(h:xs[j]?=some v):atI xs (j:Int)=some v:=by
 have hj:j<xs.length:=(zjW.mp h).1;have e:ixN xs.length (j:Int)=some j:=by
  unfold ixN;rw [if_pos (by omega),if_pos (by omega)];simp
 unfold atI;rw [e];exact h
def B0q (b:Expr):Prop:=∀o i,subscripted b false o i=operate [o,i] (getItem o i)
def IxR (X:Cx)(r:R2):Prop:=
 ∀(value slice:Expr)(pins:List (Addr×Obj))(s:Shared)(σ:St)(H:Hp)(x y:V)(v u:Value)(Q:VK),Inv X pins σ H s->RelV x v->RelV y u->r x y H Q->
  subscripted slice false v u=operate [v,u] (getItem v u)->wpAny (model X.prog X.w) X.A (subscriptTail value slice v u) (EP X pins σ Q) X.xe s
def MtR (X:Cx)(id:String)(r:V->List V->Hp->VK->Prop):Prop:=
 ∀(pins:List (Addr×Obj))(s:Shared)(σ:St)(H:Hp)(x:V)(xs:List V)(v:Value)(us:List Value)(Q:VK),Inv X pins σ H s->RelV x v->Vals xs us->r x xs H Q->
  wpAny (model X.prog X.w) X.A (call (.builtin id) (v::us)) (EP X pins σ Q) X.xe s
section
variable {X:Cx}{a b:Expr}{ta tb:TE}{pos:Pos}
theorem bJ {r:R2}(hr:IxR X r)(ha:PE X a ta)(hb:PE X b tb)(hs:B0q b):PE X (.Subscript a b pos) (tOp r ta tb):=by intro pins s σ H Q I h;exact Subscript_ (vT ha hb I h fun v u s2 x y H2 I2 rx ry q=>hr a b pins s2 σ H2 x y v u Q I2 rx ry q (hs _ _))
def vJ (K:W.Frag):R2:=fun x y H Q=> ∃p xs i v,x= .ref p/\y= .int i/\SqL K H p xs/\atI xs i=some v/\Q v H
def jI (K:W.Frag):R2:=fun x y H Q=> ∃p xs i v,x= .ref p/\y= .int i/\SqT K H p xs/\atI xs i=some v/\Q v H
theorem fV:IxR X (vJ X.K):=by
 intro value slice pins s σ H x y v u Q I rx ry h hs;obtain⟨p,xs,i,z,rfl,rfl,hq,he,q⟩:=h;cases rx;obtain⟨t,rfl⟩:=ry;obtain⟨its,r,pl,hz⟩:=I.list hq;obtain⟨j,h1,h2,h3,h4,h5⟩:=kQ he;obtain⟨w,ew,rw'⟩:=r.get h2;have hl:=r.length;have hn:=pH;have fin:EP X pins σ Q w s:=⟨z,H,I,rw',q⟩;by_cases h0:0<=i
 ·have hj:i.toNat=j:=by
   rw [seqIndex_of h0 h5]at h1;exact Option.some.inj h1
  exact item_listR pl.isList h0 (by omega) (by rw [hj];simpa using ew) fin hs
 ·have hj:(i+(its.toArray.size:Int)).toNat=j:=by
   rw [seqIndex_neg (by omega) h4]at h1;rw [size_toArray,←hl];exact Option.some.inj h1
  exact subscriptTail_builtinR (x:=w) pl.isList.typeIs slot_list_getitem.lookup
   (wpAny_getItem_list_neg (Q:=fun r s'=>r=w/\EP X pins σ Q r s') pl.isList (by omega) (by rw [size_toArray]<;>omega) (by omega) (by rw [hj];simpa using ew) ⟨rfl,fin⟩) hs
theorem bW:IxR X (jI X.K):=by
 intro value slice pins s σ H x y v u Q I rx ry h hs;obtain⟨p,xs,i,z,rfl,rfl,hq,he,q⟩:=h;cases rx;obtain⟨t,rfl⟩:=ry;obtain⟨its,r,pl,hz⟩:=I.tuple hq;obtain⟨j,h1,h2,h3,h4,h5⟩:=kQ he;obtain⟨w,ew,rw'⟩:=r.get h2;have hl:=r.length;have hn:=pH;have fin:EP X pins σ Q w s:=⟨z,H,I,rw',q⟩;exact subscriptTail_builtinR (x:=w) pl.typeIs slot_tuple_getitem.lookup
  (getItem_tuple (j:=j) (Q:=fun r s'=>r=w/\EP X pins σ Q r s') pl (by omega) (by omega) (by rw [size_toArray,←hl];exact h1) (by simpa using ew) ⟨rfl,fin⟩) hs
theorem A3y (its:List Value)(n j:Nat)(u:Value):Obj.mapSeq (·.setIfInBounds j u) {cls:=.type "list",data:=.seq its.toArray n}={cls:=.type "list",data:=.seq (its.set j u).toArray n}:=by simp [Obj.mapSeq]
theorem Inv.lst {pins:List (Addr×Obj)}{σ:St}{H:Hp}{s:Shared}{p:Addr}{xs:List V}(I:Inv X pins σ H s)(h:H p=some (.lst xs)):
  ∃(its:List Value)(n:Nat),Vals xs its/\s.heap.get? p=some {cls:=.type "list",data:=.seq its.toArray n}/\xs.length<=sizeLine:=by
 obtain⟨z,its,n,r,e⟩:=I.hok p _ h;exact⟨its,n,r,e,z⟩
theorem Inv.lstUpd {pins:List (Addr×Obj)}{σ:St}{H:Hp}{s:Shared}{p:Addr}{xs ys:List V}{its its':List Value}{n n':Nat}{f:Obj->Obj}(I:Inv X pins σ H s)(h:H p=some (.lst xs))
  (ho:s.heap.get? p=some {cls:=.type "list",data:=.seq its.toArray n})(hf:f {cls:=.type "list",data:=.seq its.toArray n}={cls:=.type "list",data:=.seq its'.toArray n'})(r:Vals ys its')(hz:ys.length<=sizeLine)(t:Nat):
  Inv X pins σ (upd H p (.lst ys)) {s with heap:=s.heap.update p f,toks:=t}:=by
 have e:(s.heap.update p f).get? p=some {cls:=.type "list",data:=.seq its'.toArray n'}:=by
  rw [get?_update_self f ho (by rw [hf]<;>rfl),hf]
 refine I.write (x:=p) (e:=p) (by rw [h];trivial) (.inl rfl) (fun b u hb q=>(get?_update_other _ _ (Ne.symm hb)).trans q) ⟨_,e⟩ ?_;exact⟨hz,its',n',r,e⟩
def A5n:V->V->V->Hp->(Hp->Prop)->Prop:=fun o i v H Q=> ∃p xs k j,o= .ref p/\i= .int k/\H p=some (.lst xs)/\ixN xs.length k=some j/\Q (upd H p (.lst (xs.set j v)))
theorem pU:A04 X A5n:=by
 intro pins s σ H o i v ov iv u Q I ro ri rv h;obtain⟨p,xs,k,j,rfl,rfl,hp,hj,q⟩:=h;cases ro;obtain⟨t,rfl⟩:=ri;obtain⟨its,n,r,ho,hz⟩:=I.lst hp;obtain⟨h1,h2,h3,h4⟩:=yJ hj;have hl:=r.length;have hn:=pH;have I':Inv X pins σ (upd H p (.lst (xs.set j v))) {s with heap:=s.heap.update p (Obj.mapSeq (·.setIfInBounds j u))}:=
  I.lstUpd hp ho (A3y its n j u) (r.set rv j) (by rw [List.length_set];exact hz) s.toks
 by_cases h0:0<=k
 ·have hk:k.toNat=j:=by
   rw [seqIndex_of h0 h4]at h1;exact Option.some.inj h1
  exact W.ki_setAt ho h0 (by omega) (by rw [size_toArray,←hl];exact h4) (by rw [hk];exact⟨_,I',q⟩)
 ·have hk:(k+(its.toArray.size:Int)).toNat=j:=by
   rw [seqIndex_neg (by omega) h3]at h1;rw [size_toArray,←hl];exact Option.some.inj h1
  exact W.ki_setBack ho (by omega) (by rw [size_toArray,←hl];exact h3) (by omega) (by rw [hk];exact⟨_,I',q⟩)
theorem A36 (lo hi:Option Int)(n:Nat):(sliceBounds lo hi none n).1=((HT.sIx n 0 lo:Nat):Int)/\(sliceBounds lo hi none n).2.1=((HT.sIx n n hi:Nat):Int)/\(sliceBounds lo hi none n).2.2=1:=by
 refine⟨?_,?_,rfl⟩
 ·cases lo with
  |none=>simp [sliceBounds,HT.sIx]
  |some i=>
   simp only [sliceBounds,HT.sIx,Option.getD_none,show(1:Int)>0 by decide,if_true];by_cases h:i<0
   ·simp only [h,if_true]<;>omega
   ·simp only [h,if_false]<;>omega
 ·cases hi with
  |none=>simp [sliceBounds,HT.sIx]
  |some i=>
   simp only [sliceBounds,HT.sIx,Option.getD_none,show(1:Int)>0 by decide,if_true];by_cases h:i<0
   ·simp only [h,if_true]<;>omega
   ·simp only [h,if_false]<;>omega
theorem B1r (its:List Value)(lo hi:Option Int):slicePick its.toArray lo hi none=((its.drop (HT.sIx its.length 0 lo)).take (HT.sIx its.length its.length hi - HT.sIx its.length 0 lo)).toArray:=by obtain⟨h1,h2,h3⟩:=A36 lo hi its.toArray.size;unfold slicePick;rw [h1,h2,h3];simp only [sliceRange_one,pick_run,size_toArray]<;>rfl
def B4c (K:W.Frag):V->Option Int->Option Int->Hp->VK->Prop:=fun x lo hi H Q=> ∃a xs,x= .ref a/\SqL K H a xs/\∀p,H p=none->Q (.ref p) (upd H p (.lst (cC xs lo hi)))
theorem mU:SlR X (B4c X.K):=by intro pins s σ H x v vl vu lo hi sl Q I rx hs pl pu h;obtain⟨a,xs,rfl,hx,q⟩:=h;cases rx;obtain⟨its,r,ht,hz⟩:=I.list hx;have hlen:=r.length;refine⟨"list",_,slot_list_getitem.lookup,ht.isList.typeIs,?_⟩;refine wpAny_getItem_list_slice ht.isList hs pl pu .none (by simp) ?_ (by rw [size_toArray]<;>omega);rw [B1r,←hlen];refine⟨.ref s.heap.objs.size,_,I.laid (t':=s.toks) (o:=.lst (cC xs lo hi)) (fun b ob q=>zjX _ q) (zjQ _) ?_,rfl,q _ (I.hok.fresh (zjQ _))⟩;exact⟨le_trans (nC xs lo hi) hz,_,0,(r.drop (HT.sIx xs.length 0 lo)).take (HT.sIx xs.length xs.length hi - HT.sIx xs.length 0 lo),get?_push_size _ rfl⟩
def iS:V->Bool
 | .non=>true
 | .bl _=>true
 | .int _=>true
 | .str _=>true
 |_=>false
def eqV:V->V->Bool
 | .non,.non=>true
 | .bl a,.bl b=>a==b
 | .bl a,.int b=>(if a then 1 else 0)==b
 | .int a,.bl b=>a==(if b then 1 else 0)
 | .int a,.int b=>a==b
 | .str a,.str b=>a==b
 |_,_=>false
theorem A6s {A:Around}{s:Shared}{y x:V}{u v:Value}(ry:RelV y u)(rx:RelV x v)(fy:iS y=true)(fx:iS x=true):SeqAt.EqAt A s u v (eqV y x):=by
 cases y with
 |non=>
  cases ry;cases x with
  |non=>cases rx;exact SeqAt.EqAt.same _
  |bl b=>cases rx;exact SeqAt.EqAt.none_bool b
  |int b=>obtain⟨t,rfl⟩:=rx;exact SeqAt.EqAt.none_int b t
  |str b=>obtain⟨t,rfl⟩:=rx;exact SeqAt.EqAt.none_str b t
  |_=>exact absurd (show false=true from fx) Bool.false_ne_true
 |bl a=>
  cases ry;cases x with
  |non=>cases rx;exact SeqAt.EqAt.bool_none a
  |bl b=>cases rx;exact SeqAt.EqAt.bool_bool a b
  |int b=>obtain⟨t,rfl⟩:=rx;exact SeqAt.EqAt.bool_int a b t
  |str b=>obtain⟨t,rfl⟩:=rx;exact SeqAt.EqAt.bool_str a b t
  |_=>exact absurd (show false=true from fx) Bool.false_ne_true
 |int a=>
  obtain⟨t',rfl⟩:=ry;cases x with
  |non=>cases rx;exact SeqAt.EqAt.int_none a t'
  |bl b=>cases rx;exact SeqAt.EqAt.int_bool a t' b
  |int b=>obtain⟨t,rfl⟩:=rx;exact SeqAt.EqAt.int_int a t' b t
  |str b=>obtain⟨t,rfl⟩:=rx;exact SeqAt.EqAt.int_str a t' b t
  |_=>exact absurd (show false=true from fx) Bool.false_ne_true
 |str a=>
  obtain⟨t',rfl⟩:=ry;cases x with
  |non=>cases rx;exact SeqAt.EqAt.str_none a t'
  |bl b=>cases rx;exact SeqAt.EqAt.str_bool a t' b
  |int b=>obtain⟨t,rfl⟩:=rx;exact SeqAt.EqAt.str_int a t' b t
  |str b=>obtain⟨t,rfl⟩:=rx;exact SeqAt.EqAt.str_str a t' b t
  |_=>exact absurd (show false=true from fx) Bool.false_ne_true
 |_=>exact absurd (show false=true from fy) Bool.false_ne_true
def eqU (x:V)(u:Value):Bool:=match u with
 | .none=>eqV .non x
 | .bool b=>eqV (.bl b) x
 | .int i _=>eqV (.int i) x
 | .str z _=>eqV (.str z) x
 |_=>false
theorem zL {x y:V}{u:Value}(r:RelV y u)(f:iS y=true):eqU x u=eqV y x:=by
 cases y with
 |non=>cases r;rfl
 |bl b=>cases r;rfl
 |int i=>obtain⟨t,rfl⟩:=r;rfl
 |str z=>obtain⟨t,rfl⟩:=r;rfl
 |_=>exact absurd (show false=true from f) Bool.false_ne_true
theorem lQ {x:V}:∀{xs:List V}{us:List Value},Vals xs us->xs.all iS=true->us.any (eqU x)=xs.any fun y=>eqV y x
 |_,_,.nil,_=>rfl
 |y::xs,u::us,.cons r t,f=>by
  rw [all_cons,Bool.and_eq_true]at f;rw [any_cons,any_cons,zL r f.1,lQ t f.2]
theorem lN {A:Around}{s:Shared}{x:V}{v:Value}(rx:RelV x v)(fx:iS x=true):∀{xs:List V}{us:List Value},Vals xs us->xs.all iS=true->∀u∈us,SeqAt.EqAt A s u v (eqU x u)
 |_,_,.nil,_=>fun u hu=>by cases hu
 |y::xs,u::us,.cons r t,f=>fun u' hu=>by
  rw [all_cons,Bool.and_eq_true]at f;rcases mem_cons.mp hu with rfl|hu
  ·rw [zL r f.1];exact A6s r rx f.1 fx
  ·exact lN rx fx t f.2 u' hu
def inV (x:V)(xs:List V):Bool:=xs.any fun y=>eqV y x
def rIn (K:W.Frag)(neg:Bool):R2:=fun x y H Q=> ∃p xs,y= .ref p/\(SqL K H p xs\/SqT K H p xs)/\iS x=true/\xs.all iS=true/\Q (.bl (if neg then !inV x xs else inV x xs)) H
theorem A7p:OpR X (compareOp .In) (rIn X.K false):=by
 intro pins s σ H x y v u Q I rx ry h;obtain⟨p,xs,rfl,hq,fx,fs,q⟩:=h;cases ry;rcases hq with hq|hq
 ·obtain⟨its,r,pl,hz⟩:=I.list hq;refine SeqAt.in_listAt (eqU x) pl.isList (fun w hw=>lN rx fx r fs w (by simpa using hw)) ⟨.bl _,H,I,rfl,?_⟩;rw [show its.toArray.any (eqU x)=its.any (eqU x) by simp,lQ r fs];exact q
 ·obtain⟨its,r,pl,hz⟩:=I.tuple hq;refine SeqAt.in_tupleAt (eqU x) pl (fun w hw=>lN rx fx r fs w (by simpa using hw)) ⟨.bl _,H,I,rfl,?_⟩;rw [show its.toArray.any (eqU x)=its.any (eqU x) by simp,lQ r fs];exact q
theorem A4k:OpR X (compareOp .NotIn) (rIn X.K true):=by
 intro pins s σ H x y v u Q I rx ry h;obtain⟨p,xs,rfl,hq,fx,fs,q⟩:=h;cases ry;rcases hq with hq|hq
 ·obtain⟨its,r,pl,hz⟩:=I.list hq;refine SeqAt.notIn_listAt (eqU x) pl.isList (fun w hw=>lN rx fx r fs w (by simpa using hw)) ⟨.bl _,H,I,rfl,?_⟩;rw [show its.toArray.any (eqU x)=its.any (eqU x) by simp,lQ r fs];exact q
 ·obtain⟨its,r,pl,hz⟩:=I.tuple hq;refine SeqAt.notIn_tupleAt (eqU x) pl (fun w hw=>lN rx fx r fs w (by simpa using hw)) ⟨.bl _,H,I,rfl,?_⟩;rw [show its.toArray.any (eqU x)=its.any (eqU x) by simp,lQ r fs];exact q
theorem dM:dW X (.builtin "len") (fun xs H Q=> ∃p ys,xs=[.ref p]/\(SqL X.K H p ys\/SqT X.K H p ys)/\Q (.int ys.length) H):=by
 intro pins s σ H xs us Q I r h;obtain⟨p,ys,rfl,hq,q⟩:=h;obtain⟨u,rfl,rx⟩:=eI r;cases rx;have hn:=pH;rcases hq with hq|hq
 ·obtain⟨its,r',pl,hz⟩:=I.list hq;have hlen:=r'.length;exact Calls.call_len_list pl.isList (by simp only [size_toArray]<;>omega) ⟨.int ys.length,H,I.tok _,⟨s.toks+1,by rw [size_toArray,hlen]⟩,q⟩
 ·obtain⟨its,r',pl,hz⟩:=I.tuple hq;have hlen:=r'.length;exact len_tuple pl (by simp only [size_toArray]<;>omega) ⟨.int ys.length,H,I.tok _,⟨s.toks+1,by rw [size_toArray,hlen]⟩,q⟩
theorem nU:dW X (.type "list") (fun xs H Q=> ∃p ys,xs=[.ref p]/\(SqL X.K H p ys\/SqT X.K H p ys)/\∀l,H l=none->Q (.ref l) (upd H l (.lst ys))):=by
 intro pins s σ H xs us Q I r h;obtain⟨p,ys,rfl,hq,q⟩:=h;obtain⟨u,rfl,rx⟩:=eI r;cases rx;have fin:∀(its:List Value),Vals ys its->ys.length<=sizeLine->∀(h':Heap)(c':Nat),(∀b o',s.heap.get? b=some o'->h'.get? b=some o')->
   h'.get? s.heap.objs.size=some {cls:=.type "list",dict:=none,data:=.seq its.toArray c',slots:=#[]}->EP X pins σ Q (.ref s.heap.objs.size) {s with heap:=h'}:=fun its r' hz h' c' kp e=>
  ⟨.ref s.heap.objs.size,_,I.laid (t':=s.toks) kp (zjQ _) (show ObjOk X.prog X.w _ h' _ (.lst ys)from⟨hz,its,c',r',e⟩),rfl,q _ (I.hok.fresh (zjQ _))⟩
 rcases hq with hq|hq
 ·obtain⟨its,r',pl,hz⟩:=I.list hq;have hlen:=r'.length;obtain⟨o,ho,hc,n,hd⟩:=pl.isList;exact call_list_seq p (.inl rfl) ho hc hd (fun h' c' kp e=>fin its r' hz h' c' kp e) (by simp only [size_toArray]<;>omega)
 ·obtain⟨its,r',pl,hz⟩:=I.tuple hq;have hlen:=r'.length;obtain⟨o,ho,hc,n,hd⟩:=pl;exact call_list_seq p (.inr rfl) ho hc hd (fun h' c' kp e=>fin its r' hz h' c' kp e) (by simp only [size_toArray]<;>omega)
theorem kE:dW X (.type "tuple") (fun xs H Q=> ∃p ys,xs=[.ref p]/\((SqL X.K H p ys/\∀l,H l=none->Q (.ref l) (upd H l (.tup ys)))\/(SqT X.K H p ys/\Q (.ref p) H))):=by
 intro pins s σ H xs us Q I r h;obtain⟨p,ys,rfl,h⟩:=h;obtain⟨u,rfl,rx⟩:=eI r;cases rx;rcases h with⟨hq,q⟩| ⟨hq,q⟩
 ·obtain⟨its,r',pl,hz⟩:=I.list hq;have hlen:=r'.length;refine call_tuple_list pl.isList (fun h' kp=> ?_) (by simp only [size_toArray]<;>omega);have I1:Inv X pins σ H {s with heap:=h'}:=I.kept (t':=s.toks) kp;have I2:Inv X pins σ (upd H h'.objs.size (.tup ys)) {s with heap:=h'.push {cls:=.type "tuple",data:=.seq its.toArray}}:=
   I1.laid (t':=s.toks) (fun b o e=>zjX _ e) (zjQ _) (show ObjOk X.prog X.w _ _ _ (.tup ys)from⟨hz,its,r',IsTup.new _ _⟩)
  exact⟨.ref h'.objs.size,_,I2,rfl,q _ (I1.hok.fresh (zjQ _))⟩
 ·obtain⟨its,r',pl,hz⟩:=I.tuple hq;exact call_tuple_same pl ⟨.ref p,H,I,rfl,q⟩
def tyV (K:W.Frag)(T:String)(x:V)(H:Hp):Prop:=match x with
 | .str _=>T= "str"
 | .int _=>T= "int"
 | .ref p=>(T= "list"/\∃xs,SqL K H p xs)\/(T= "tuple"/\∃o,K.lookup p=some o/\o.cls= .type "tuple"/\o.dict=none)\/
   (T= "dict"/\((∃kvs,H p=some (.dK kvs))\/ ∃kvs,H p=some (.dT kvs)))\/(T= "set"/\∃S n,H p=some (.set S n))
 |_=>False
theorem B2t {pins:List (Addr×Obj)}{σ:St}{H:Hp}{s:Shared}{T:String}{x:V}{v:Value}(I:Inv X pins σ H s)(r:RelV x v)(ty:tyV X.K T x H):
  s.TypeIs v T/\∀a,v= .ref a->∃ob,s.heap.get? a=some ob/\ob.dict=none:=by
 cases x with
 |str z=>
  obtain⟨t,rfl⟩:=r;cases (show T= "str" from ty);exact⟨typeIs_str s z t,fun _ e=>nomatch e⟩
 |int i=>
  obtain⟨t,rfl⟩:=r;cases (show T= "int" from ty);exact⟨typeIs_int s i t,fun _ e=>nomatch e⟩
 |ref p=>
  cases r;rcases ty with⟨rfl,xs,hq⟩| ⟨rfl,o,hk,hc,hd⟩| ⟨rfl,hk⟩| ⟨rfl,S,n,hk⟩
  ·obtain⟨its,_,pl,_⟩:=I.list hq;refine⟨pl.isList.typeIs,fun a e=> ?_⟩;cases e;obtain⟨o,n,e,c,hd,_⟩:=pl;exact⟨o,e,hd⟩
  ·refine⟨⟨o,I.kIn p o hk,hc⟩,fun a e=> ?_⟩;cases e;exact⟨o,I.kIn _ o hk,hd⟩
  ·have z:∃o,s.heap.get? p=some o/\o.ExactDict:=by
    rcases hk with⟨kvs,hk⟩| ⟨kvs,hk⟩
    ·obtain⟨_,_,_,_,o,_,_,e,ex,_⟩:=I.hok p _ hk;exact⟨o,e,ex⟩
    ·obtain⟨_,_,_,_,o,_,_,e,ex,_⟩:=I.hok p _ hk;exact⟨o,e,ex⟩
   obtain⟨o,e,ex⟩:=z;refine⟨⟨o,e,ex.1⟩,fun a e2=> ?_⟩;cases e2;exact⟨o,e,ex.2.1⟩
  ·obtain⟨o,_,_,_,e,ex,_⟩:=I.hok p _ hk;refine⟨⟨o,e,ex.1⟩,fun a e2=> ?_⟩;cases e2;exact⟨o,e,ex.2.1⟩
 |_=>exact False.elim ty
def tBM (K:W.Frag)(T:String)(r:V->List V->Hp->VK->Prop)(to:TE)(t:TA):TE:=fun σ H Q=>to σ H fun x H1=>tyV K T x H1/\t σ H1 fun xs H2=>r x xs H2 Q
variable {o e:Expr}{es:List Expr}{to:TE}{t:TA}{name:Str}{apos cpos:Pos}{T id:String}{r:V->List V->Hp->VK->Prop}
theorem mN (pa:PlainAttrs T)(slot:Slot T name id)(hty:typeOf (.builtin id)=pure (.type "method_descriptor"))(hm:MtR X id r)(ho:PE X o to)(ha:PA X (e::es) t)
  (hbase:attributeBase o name X.env (eval o X.env)=eval o X.env:=by rfl)
  (hfew:((backTo cpos (starEach (e::es) X.env)).all (fun x=> !x.1)&&(backToKw cpos (keywordEach [] X.env)).all (fun x=>x.1.isSome)
   &&decide ((e::es).length+([]:List Keyword).length+(if ([]:List Keyword).isEmpty then 0 else 1)<30))=true:=by rfl)
  (hline:(apos.endLine==cpos.line)=true:=by rfl)(hs:starEach (e::es) X.env=(false,eval e X.env)::starEach es X.env:=by rfl)(hplain:(backTo cpos (starEach es X.env)).any (·.1)=false:=by rfl):
  PE X (.Call (.Attribute o name apos) (e::es) [] cpos) (tBM X.K T r to t):=by
 intro pins s σ H Q I h;refine wpAny_Call_method_late hbase hfew hline rfl (thn (ho pins s σ H _ I h) fun v s1 ⟨x,H1,I1,r1,ty,q1⟩=> ?_);obtain⟨h1,h2⟩:=B2t I1 r1 ty;refine⟨T,id,pa,slot,hty,h1,h2,?_⟩;have hA:=ha cpos pins s1 σ H1 _ I1 q1;rw [hs]at hA⊢;refine Calls.callWith_builtin (by show(false|| (backTo cpos (starEach es X.env)).any (·.1))=false;rw [hplain]<;>rfl) (Calls.evalArgs_plain ?_);exact thn hA fun us s2 ⟨vs,H2,I2,r2,q2⟩=>hm pins s2 σ H2 x vs v us Q I2 r1 r2 q2
/- xs.append(e),list.index on a module's tuple .. are MtR facts of 06m -/
end
def MtM (X:Cx)(id:String)(r:V->List V->Hp->VK->Prop):Prop:=
 ∀(pins:List (Addr×Obj))(s:Shared)(σ:St)(H:Hp)(x:V)(xs:List V)(v:Value)(us:List Value)(Q:VK),Inv X pins σ H s->RelV x v->Vals xs us->r x xs H Q->
  wpAny (model X.prog X.w) X.A (call (.builtin id) (v::us)) (EP X pins σ Q) X.xe s
theorem Vals.one:∀{x:V}{us:List Value},Vals [x] us->∃u,us=[u]/\RelV x u
 |_,_,.cons r .nil=> ⟨_,rfl,r⟩
theorem Vals.two:∀{x y:V}{us:List Value},Vals [x,y] us->∃u v,us=[u,v]/\RelV x u/\RelV y v
 |_,_,_,.cons r (.cons q .nil)=> ⟨_,_,rfl,r,q⟩
theorem Vals.rep {xs:List V}{us:List Value}(h:Vals xs us):∀k:Nat,Vals (replicate k xs).flatten (replicate k us).flatten
 |0=> .nil
 |k+1=>by
  rw [replicate_succ,replicate_succ,flatten_cons,flatten_cons];exact Vals.append h (Vals.rep h k)
theorem A2g (its:List Value):∀(k:Nat)(acc:List Value),
  foldl (fun x1 x2=>x1++x2) acc.toArray (replicate k its.toArray)=(acc++(replicate k its).flatten).toArray
 |0,acc=>by simp
 |k+1,acc=>by
  have e:acc.toArray++its.toArray=(acc++its).toArray:=by simp
  have e2:(acc++its)++(replicate k its).flatten=acc++(replicate (k+1) its).flatten:=by
   rw [replicate_succ,flatten_cons,append_assoc]
  rw [←e2,←A2g its k (acc++its),←e,replicate_succ,foldl_cons]
section
variable {X:Cx}{pins:List (Addr×Obj)}{σ:St}{H:Hp}{s:Shared}{l b:Addr}{xs ys zs:List V}
theorem Inv.lset {its its':List Value}{n:Nat}{f:Array Value->Array Value}{t':Nat}(I:Inv X pins σ H s)(hH:H l=some (.lst xs))
  (e:s.heap.get? l=some {cls:=.type "list",data:=.seq its.toArray n})(hf:f its.toArray=its'.toArray)(hv:Vals ys its')(hz:ys.length<=sizeLine):
  Inv X pins σ (upd H l (.lst ys)) {s with heap:=s.heap.update l (Obj.mapSeq f),toks:=t'}:=by
 have q:=PySem.IsL.update e f;rw [hf]at q;refine I.write (x:=l) (e:=l) (by rw [hH];exact trivial) (.inl rfl) (fun b' u hb hu=>(get?_update_other s.heap (Obj.mapSeq f) (Ne.symm hb)).trans hu) ⟨_,q⟩ ?_;exact⟨hz,its',_,hv,q⟩
theorem Inv.lnew {its:List Value}{t':Nat}(I:Inv X pins σ H s)(hv:Vals ys its)(hz:ys.length<=sizeLine):
  Inv X pins σ (upd H s.heap.objs.size (.lst ys)) {s with heap:=s.heap.push {cls:=.type "list",data:=.seq its.toArray},toks:=t'}:=
 I.laid (fun _ _ q=>zjX _ q) (zjQ _) ⟨hz,its,0,hv,get?_push_size _ rfl⟩
theorem Inv.fresh (I:Inv X pins σ H s):H s.heap.objs.size=none:=I.hok.fresh (zjQ _)
theorem Inv.lstM (I:Inv X pins σ H s)(hH:H l=some (.lst xs)):xs.length<=sizeLine/\∃(its:List Value)(n:Nat),Vals xs its/\xs.length=its.length/\s.heap.get? l=some {cls:=.type "list",data:=.seq its.toArray n}:=by obtain⟨z,its,n,r,e⟩:=I.hok l _ hH;exact⟨z,its,n,r,r.length,e⟩
theorem vW {n:Nat}(h:n<=sizeLine):Builtin.List.listTooLong n=false:=by unfold Builtin.List.listTooLong;exact zjU (by omega)
end
section
variable {X:Cx}
def B1x:V->List V->Hp->VK->Prop:=fun x vs H Q=> ∃l xs y,x= .ref l/\vs=[y]/\H l=some (.lst xs)/\xs.length<sizeLine/\Q .non (upd H l (.lst (xs++[y])))
theorem vO:MtM X "list.append" B1x:=by intro pins s σ H x vs v us Q I rx rv h;obtain⟨l,xs,y,rfl,rfl,hH,hz,q⟩:=h;cases rx;obtain⟨u,rfl,ru⟩:=rv.one;obtain⟨z,its,n,r,hl,e⟩:=I.lstM hH;refine call_meets F.slot_list_append ⟨_,e,rfl⟩ F.entry_list_append (F.args_list_append_2 _ _) (PySem.list_append l its.toArray n u (by rw [size_toArray];omega)) ⟨e,?_⟩;refine⟨.non,_,I.lset (its':=its++[u]) hH e (by simp) (r.append (.cons ru .nil)) ?_,rfl,q⟩;rw [length_append,length_singleton];omega
def A3t:V->List V->Hp->VK->Prop:=fun x vs H Q=> ∃l b xs zs,x= .ref l/\vs=[.ref b]/\H l=some (.lst xs)/\H b=some (.lst zs)/\xs.length+zs.length<=sizeLine/\Q .non (upd H l (.lst (xs++zs)))
theorem uI:MtM X "list.extend" A3t:=by
 intro pins s σ H x vs v us Q I rx rv h;obtain⟨l,b,xs,zs,rfl,rfl,hH,hB,hz,q⟩:=h;cases rx;obtain⟨u,rfl,ru⟩:=rv.one;cases ru;obtain⟨z,its,n,r,hl,e⟩:=I.lstM hH;obtain⟨z2,its2,n2,r2,hl2,e2⟩:=I.lstM hB;have hsz:its.toArray.size+its2.toArray.size<=sizeLine:=by rw [size_toArray,size_toArray];omega
 have hlong:¬(!its.toArray.isEmpty&&Builtin.List.listTooLong (its.toArray.size+its2.toArray.size))=true:=by
  rw [vW hsz,Bool.and_false];exact Bool.false_ne_true
 refine call_meets F.slot_list_extend ⟨_,e,rfl⟩ F.entry_list_extend (F.args_list_extend_2 _ _)
  (AutoSeq1.list_extend_list_list_0 l its.toArray n b its2.toArray n2 hlong (by rw [size_toArray];omega) (by omega)) ⟨e,e2,?_⟩
 refine⟨.non,_,I.lset (its':=its++its2) hH e (by simp) (r.append r2) ?_,rfl,q⟩;rw [length_append];omega
def A4b:R2:=fun x y H Q=> ∃l b xs zs,x= .ref l/\y= .ref b/\H l=some (.lst xs)/\H b=some (.lst zs)/\xs.length+zs.length<=sizeLine/\∀p,H p=none->Q (.ref p) (upd H p (.lst (xs++zs)))
theorem gX:OpR X (binaryOp .Add) A4b:=by
 intro pins s σ H x y v u Q I rx ry h;obtain⟨l,b,xs,zs,rfl,rfl,hH,hB,hz,q⟩:=h;cases rx;cases ry;obtain⟨z,its,n,r,hl,e⟩:=I.lstM hH;obtain⟨z2,its2,n2,r2,hl2,e2⟩:=I.lstM hB;refine PySem.P.add_list e e2 ?_ (by rw [size_toArray,size_toArray];omega);have ea:its.toArray++its2.toArray=(its++its2).toArray:=by simp
 rw [ea];exact⟨.ref _,_,I.lnew (t':=s.toks) (r.append r2) (by rw [length_append];omega),rfl,q _ I.fresh⟩
def A5c:R2:=fun x y H Q=> ∃l k xs,x= .ref l/\y= .int k/\H l=some (.lst xs)/\-(2^63)<=k/\k<2^63/\xs.length*k.toNat<=sizeLine/\
 ∀p,H p=none->Q (.ref p) (upd H p (.lst (replicate k.toNat xs).flatten))
theorem A0p {α:Type}(xs:List α)(k:Nat):(replicate k xs).flatten.length=k*xs.length:=by
 induction k with
 |zero=>simp
 |succ k ih=>rw [replicate_succ,flatten_cons,length_append,ih,Nat.succ_mul,Nat.add_comm]
theorem A5i:OpR X (binaryOp .Mult) A5c:=by
 intro pins s σ H x y v u Q I rx ry h;obtain⟨l,k,xs,rfl,rfl,hH,h1,h2,hz,q⟩:=h;cases rx;obtain⟨t,rfl⟩:=ry;obtain⟨z,its,n,r,hl,e⟩:=I.lstM hH;have hlen:its.toArray.size*k.toNat<=sizeLine:=by rw [size_toArray,←hl];exact hz
 have hcap:¬its.toArray.size*k.toNat>(2^63 - 1)/8:=by
  have:(sizeLine:Nat)<=(2^63 - 1)/8:=by decide
  omega
 have hfit:¬(!Builtin.List.listFitsIndex k)=true:=by
  rw [fitsIndex_both h1 h2];exact Bool.false_ne_true
 have hlong:¬Builtin.List.listTooLong (its.toArray.size*k.toNat)=true:=by
  rw [vW hlen];exact Bool.false_ne_true
 have hnew:foldl (fun x1 x2=>x1++x2) #[] (replicate (if its.toArray.isEmpty=true then 0 else k.toNat) its.toArray)=(replicate k.toNat its).flatten.toArray:=by
  have f0:∀m:Nat,foldl (fun x1 x2=>x1++x2) #[] (replicate m its.toArray)=(replicate m its).flatten.toArray:=fun m=>by
   have:=A2g its m [];rw [List.nil_append]at this;exact this
  rw [f0];cases its with
  |nil=>simp
  |cons a r'=>rw [if_neg (by simp)]
 refine wpAny_binaryOp_repeat_ref (T:="list") (U:="int") (by decide) ⟨_,e,rfl⟩ (fun s'=>typeIs_int s' k t) noFill_list_mul F.fills_int_mul F.slot_int_rmul repeat_list F.slot_int_index.lookup
  (call_meets F.slot_int_rmul (typeIs_int s k t) F.entry_int_rmul (F.args_int_rmul_2 _ _) (int___rmul___int_list k t l its.toArray n)
   ⟨e,rfl,⟨_,e,rfl⟩,call_meets F.slot_list_mul ⟨_,e,rfl⟩ F.entry_list_mul (F.args_list_mul_2 _ _) (AutoListH.list___mul___list_int_3 l its.toArray n k t hfit hcap hlong) ⟨e,?_⟩⟩)
 rw [hnew];exact⟨.ref _,_,I.lnew (t':=s.toks) (r.rep k.toNat) (by rw [A0p,mul_comm];exact hz),rfl,q _ I.fresh⟩
end
section
variable {prog:Program}{w:World}{A:Around}{E:Value->Shared->Prop}{s:Shared}
set_option maxRecDepth 100000 in
end
section
variable {X:Cx}
end
end L2
namespace Att
open PySem PySem.W PySem.Calls PyProof.Rows
theorem A5x {P:Params}{h:Heap}:∀(ns:List Int)(vs:List Value),WellAll P h vs (ns.map WData.int)->IntsAre vs ns:=by
 intro ns
 induction ns with
 |nil=>
  intro vs w;rw [map_nil]at w;cases w;exact .nil
 |cons n ns ih=>
  intro vs w;rw [map_cons]at w;cases w with
  |cons a b=>
   cases a;exact .cons _ _ (ih _ b)
theorem A8o {l:OpenLaw}{n:Nat}(hn:l.most=some n){P:Params}{h:Heap}{args:List WData}{vals:List Value}
  (hpre:l.row.toRowW.claim.pre args=true)(hwl:WellAll P h vals args):
  ∃a vs ns,vals=[Value.ref a]/\args=[WData.list (ns.map WData.int)]/\h.get? a=some {cls:=.type "list",data:=.seq vs.toArray}/\IntsAre vs ns/\ns.length<=n:=by
 have hsh:WShape.hasAll [] args [.list .int]=true:=(pre_splitW hpre).1;have hc:l.pre.holds [] {args:=args}=true:=(pre_splitW hpre).2;obtain⟨d,r,rfl,h1,h2⟩:=hasAllW_cons hsh;obtain rfl:=hasAllW_nil h2;obtain⟨xs,rfl,h3⟩:=hasW_list h1;obtain⟨ns,rfl⟩:=items_int h3;have hlen:ns.length<=n:=by
  unfold OpenLaw.pre at hc;have h4:(WTm.not (.lt (.lit (.int (n:Int))) (.len (.arg 0)))).holds [] {args:=[.list (ns.map .int)]}=true:=by
   have h4:=(holds_andW hc).1;rw [hn]at h4;exact h4
  have h5:=condW_of h4 (w_not (w_lt w_lit (w_len_list (w_arg rfl))));rw [length_map]at h5;refine Nat.le_of_not_lt fun q=> ?_;have q':(n:Int)<((ns.length:Nat):Int):=by omega
  first
   | (rw [zjV q']at h5;exact absurd h5 (by decide))
   | (simp at h5;omega)
 cases hwl with
 |cons w1 w2=>
  cases w2;cases w1 with
  |list ho hall=>exact⟨_,_,ns,rfl,rfl,ho,A5x ns _ hall,hlen⟩
theorem B1j (l:OpenLaw)(args:List WData):l.row.toRowW.claim.post args (.bool true) args=true:=
 postW_of (r:=l.row.toRowW) (X:=(true==true))
  (show WShape.has [] (.bool true) .bool=true by first|rfl|decide|simp [WShape.has,WShape.arms,WShape.armsAll])
  (show(WTm.eq .res (.lit (.bool true))).value [] {args:=args,res:=some (.bool true),after:=args}=some (.bool (true==true))from w_eq_bool (w_res rfl) w_lit) rfl
theorem attach_call {l:OpenLaw}{n:Nat}{q:Program}{loose:List Str}{XP:(Str->Option Value)->Heap->Prop}{YP:World->Heap->Prop}{d:DefRec}
  (hn:l.most=some n)(hdf:d.params.defaults=[])
  (call:∀(w:World)(s₀ s₁:Shared)(mg mb:Str->Option Value)(fa:Addr)(o:Obj)(pm cd doc:Value)(a:Addr)(vs:List Value)(ns:List Int),
   Ground q loose [] XP w s₀ mg mb s₁.heap->YP w s₁.heap->
   s₁.heap.get? fa=some o->o.data= .func (docDef d.name d.params d.body d.scope pm cd doc)->s₁.heap.CodeRec cd d.name->mg d.name=some (.ref fa)->
   s₁.heap.get? a=some {cls:=.type "list",data:=.seq vs.toArray}->IntsAre vs ns->ns.length<=n->s₁.gens= #[]->
   codeAny (model l.prog w) callerA (.call (.ref fa) ⟨[.ref a],[]⟩) (fun r s'=>r= .ok (.ret (.bool true))/\OldK s₁.heap s'.heap/\s'.os=s₁.os/\AllBare s'.gens) s₁):
  WalkO q loose XP YP l.row.toRowW d [] (fun f vs=>PySem.call f vs):=by
 intro w s₀ s₁ mg mb G Y fa o pm cd doc dV kV ho hd hcd hD hmg hg args vals as hpre hlay hrd hwl hlo;obtain rfl:dV= .none:=Dflts.none hD hdf;obtain rfl:kV= .none:=Dflts.noKw hD;obtain⟨a,vs,ns,rfl,rfl,hobj,hints,hlen⟩:=A8o hn hpre hwl;refine enter_call (codeAny_mono (call w s₀ s₁ mg mb fa o pm cd doc a vs ns G Y ho (fd_plain hd) hcd hmg hobj hints hlen hg) fun r s' hq=> ?_);obtain⟨rfl,h2,h3,h4⟩:=hq;exact⟨.inl ⟨.bool true,.bool true,[],rfl,fun _=>rfl,.bool true,B1j l _,fun _=> ⟨List.Pairwise.nil,fun _ hm=>(nomatch hm)⟩⟩,h2,h3,h4⟩
section
variable {prog:Program}{w:World}{A:Around}{E:Value->Shared->Prop}{s:Shared}{K:Frag}
def ledger (h:Heap)(L d:Addr):List (Addr×Obj):=(List.range h.objs.size).filterMap fun a=>if a=L\/a=d then none else(h.get? a).map fun o=>(a,o)
end
end Att
namespace L2
open PySem PySem.Spec PyProof.Rows
theorem xB:∀{vs:List Value}{ns:List Int},IntsAre vs ns->Vals (ns.map V.int) vs
 |_,_,.nil=> .nil
 |_,_,.cons n t h=> .cons ⟨t,rfl⟩ (xB h)
def uO (H:Hp):Prop:=∀b,H b=none\/ ∃o xs,H b=some (.frz o (.lst xs))
theorem A8j {P:Program}{w:World}{K:W.Frag}{mg mb:Str->Option Value}{CX:CXT}{k:Nat}{fa a:Addr}{fd:FuncData}{x:Str}{sp:Sp}{s₁:Shared}{vs:List Value}{ns:List Int}
  (KX:K.In s₁.heap)(hns:s₁.heap.Ns mainGlobals mg)(hb:s₁.heap.Ns builtinsNs mb)(hbb:∀x:Str,x≠ "__name__"->mb x=bootBuiltins x)(hlim:s₁.heap.NoLimit)(hg:s₁.gens= #[])
  (ha:s₁.heap.get? a=some {cls:=.type "list",data:=.seq vs.toArray})(hi:IntsAre vs ns)(hl:ns.length<=sizeLine)(hr:Room k callerA)
  (F:∀base:Heap,K.In base->base.Ns mainGlobals mg->FnOk P w K mg base CX k fa fd [x] sp)(hbind:∀(s:Shared)(u:Value),BindsTo s fd ⟨[u],[]⟩ [(x,u)])
  (hsp:∀H:Hp,uO H->SqL K H a (ns.map V.int)->sp [.ref a] H (fun v _=>v= .bl true) fun _ _ _=>False)
  (hCX:∀H e s',CX [] H s₁ (fun _ _ _=>False) e s'->False):
  codeAny (model P w) callerA (.call (.ref fa) ⟨[.ref a],[]⟩) (fun r s'=>r= .ok (.ret (.bool true))/\OldK s₁.heap s'.heap/\s'.os=s₁.os/\AllBare s'.gens) s₁:=by
 have rv:=xB hi;have lenV:=hi.length;have core:∀H:Hp,uO H->SqL K H a (ns.map V.int)->HOk P w H s₁.heap->(∀b,H b≠none->b=a)->(H a≠none->K.lookup a=none)->
   codeAny (model P w) callerA (.call (.ref fa) ⟨[.ref a],[]⟩) (fun r s'=>r= .ok (.ret (.bool true))/\OldK s₁.heap s'.heap/\s'.os=s₁.os/\AllBare s'.gens) s₁:=by
  intro H hO hS hok hA hK;have base_of:∀{b:Addr}{o:Obj},s₁.heap.get? b=some o->H b=none->(iU s₁.heap H).get? b=some o:=fun e n=>A5z e n;have noA:∀{b:Addr}{o:Obj}{es:Array DictEntry}{ep:Nat},s₁.heap.get? b=some o->o.data= .dict es ep->H b=none:=fun{b o es ep} e d=>by
   cases q:H b with
   |none=>rfl
   |some u=>
    have e':b=a:=hA b (by rw [q];simp);subst e';rw [ha]at e;cases e;have d':Data.seq vs.toArray _=Data.dict es ep:=d;cases d'
  have nsK:∀{b:Addr}{m:Str->Option Value},s₁.heap.Ns b m->(iU s₁.heap H).Ns b m:=fun{b m} ⟨o,es,ep,e,d,r⟩=> ⟨o,es,ep,base_of e (noA e d),d,r⟩;have hKb:K.In (iU s₁.heap H):=fun b o e=>base_of (KX b o e) (by
   cases q:H b with
   |none=>rfl
   |some u=>
    have e':b=a:=hA b (by rw [q];simp);subst e';rw [hK (by rw [q];simp)]at e;cases e)
  have hM:Mod K mg (iU s₁.heap H):=⟨hKb,nsK hns,⟨mb,nsK hb,hbb⟩,let ⟨mc,h1,h2⟩:=hlim;⟨mc,nsK h1,h2⟩⟩;have e0:pA P w K mg (iU s₁.heap H) callerA [] s₁ H:=⟨rfl,hM,fun b o e=>A8f e,le_of_eq (A6b _ _),trivial,fun b hb=>absurd (show b∈([]:List Addr)from hb) (by simp),hok,.of_eq hg⟩;refine codeAny_mono ((F _ hKb (nsK hns)).run callerA [] s₁ H ⟨[.ref a],[]⟩ [.ref a] [.ref a] _ _ hr e0 (hbind s₁ (.ref a)) (.cons rfl .nil) (hsp H hO hS)) fun r s' h=> ?_;cases r with
  |error e=>exact(hCX H e s' h).elim
  |ok fl=>
   cases fl with
   |next=>exact False.elim h
   |brk=>exact False.elim h
   |cont=>exact False.elim h
   |ret u=>
    obtain⟨v,H',os,bare,un,hok',r',q⟩:=h;have q':v= .bl true:=q;subst q';obtain rfl:u=Value.bool true:=r';refine⟨rfl,OldK.of_keep fun b o e=> ?_,os,bare⟩;cases q:H b with
    |none=>exact un.keep b o e q (by intro z;exact absurd (show b∈([]:List Addr)from z) (by simp)) (by simp)
    |some u=>
     rcases hO b with z| ⟨ob,xs,z⟩
     ·rw [q]at z;cases z
     ·have z2:=un.frzs b ob _ z;obtain⟨e1,_⟩:=hok b _ z;obtain⟨e2,_⟩:=hok' b _ z2;rw [e]at e1;cases e1;exact e2
 cases hk:K.lookup a with
 |some o=>
  have e:=KX a o hk;rw [ha]at e;cases e;refine core (fun _=>none) (fun _=> .inl rfl) (.inr ⟨_,vs.toArray,_,hk,rfl,rfl,rfl,by rw [size_toArray,lenV];exact hl,by simpa using rv⟩) (fun b u z=>by have z':(none:Option HO)=some u:=z;cases z') (fun b z=>absurd rfl z) fun z=>absurd rfl z
 |none=>
  refine core (fun b=>if b=a then some (.frz {cls:=.type "list",data:=.seq vs.toArray} (.lst (ns.map V.int)))else none) (fun b=> ?_) (.inl (.inr ⟨{cls:=.type "list",data:=.seq vs.toArray},if_pos rfl⟩)) (fun b u z=> ?_) (fun b z=> ?_) fun _=>hk
  ·by_cases hb:b=a
   ·exact .inr ⟨_,_,if_pos hb⟩
   ·exact .inl (if_neg hb)
  ·by_cases hb:b=a
   ·have z':=(if_pos hb).symm.trans z;cases z';subst hb;exact⟨ha,by rw [length_map];exact hl,vs,_,rv,ha⟩
   ·have z':=(if_neg hb).symm.trans z;cases z'
  ·by_cases hb:b=a
   ·exact hb
   ·exact absurd (if_neg hb) z
theorem walk_of {l:W.OpenLaw}{n k:Nat}{q:Program}{loose:List Str}{XP:(Str->Option Value)->Heap->Prop}{YP:World->Heap->Prop}{d:DefRec}{K:Params->W.Frag}{CX:World->CXT}{sp:World->Sp}{x:Str}
  (hn:l.most=some n)(hn2:n<=sizeLine)(hdf:d.params.defaults=[])(hr:Room k callerA)
  (hY:∀(w:World)(h:Heap),YP w h->(K w.params).In h)
  (F:∀(w:World)(mg:Str->Option Value)(fa:Addr)(h:Heap),(K w.params).In h->h.Ns mainGlobals mg->mg d.name=some (.ref fa)->
   ∃fd:FuncData,(∀(s:Shared)(u:Value),BindsTo s fd ⟨[u],[]⟩ [(x,u)])/\
    ∀base:Heap,(K w.params).In base->base.Ns mainGlobals mg->FnOk l.prog w (K w.params) mg base (CX w) k fa fd [x] (sp w))
  (hsp:∀(w:World)(H:Hp)(a:Addr)(ns:List Int),ns.length<=n->uO H->SqL (K w.params) H a (ns.map V.int)->sp w [.ref a] H (fun v _=>v= .bl true) fun _ _ _=>False)
  (hCX:∀(w:World)(H:Hp)(s:Shared)(e:Value)(s':Shared),CX w [] H s (fun _ _ _=>False) e s'->False):
  W.WalkO q loose XP YP l.row.toRowW d [] (fun f vs=>PySem.call f vs):=by
 refine Att.attach_call hn hdf fun w s₀ s₁ mg mb fa o pm cd doc a vs ns G Y ho hd hcd hmg hobj hints hlen hg=> ?_;have KX:=hY w _ Y;obtain⟨fd,hb,hF⟩:=F w mg fa _ KX G.T.g hmg;exact A8j KX G.T.g G.T.b G.T.builtins G.T.nolimit hg hobj hints (le_trans hlen hn2) hr hF hb (fun H hO hS=>hsp w H a ns hlen hO hS) fun H e s'=>hCX w H s₁ e s'
def kB (s:Stmt):Arguments:=match s with
 | .FunctionDef _ a _ _ _ _ _ _ _ _=>a
 |_=> {posonlyargs:=[],args:=[],vararg:=none,kwonlyargs:=[],kw_defaults:=[],kwarg:=none,defaults:=[]}
def dA (s:Stmt):List Stmt:=match s with
 | .FunctionDef _ _ b _ _ _ _ _ _ _=>b
 |_=> []
def bD (s:Stmt):Scope:=match s with
 | .FunctionDef _ _ _ _ _ _ sc _ _ _=>sc
 |_=> {kind:=.function,names:=[],isGenerator:=false,isCoroutine:=false}
abbrev CX0:CXT:=fun _ _ _ _ _ _=>False
abbrev E0:XK:=fun _ _ _=>False
theorem zB {X:Cx}:sN CX0 X E0:=fun _ _ _ _ _ _ _ h=>h.elim
structure Fun (K:W.Frag)(x qual:Str)(st:Stmt)(f:Addr)(fd:FuncData):Prop where
 ex:∃(oc:Value)(od:Option Addr)(kV doc pm:Value)(an:Option Addr)(cdv ct:Value)(osl:Array (Option Value)),
  fd=W.fnOf x qual (kB st) (dA st) (bD st) .none kV doc pm an cdv ct/\K.lookup f=some ⟨oc,od,.func fd,osl⟩/\W.codeIn K cdv qual=true
 kp:W.keepIn K (.ref f)=true
section
variable {P:Program}{w:World}{K:W.Frag}{mg:Str->Option Value}{base:Heap}
theorem Fun.ok {x qual:Str}{st:Stmt}{f:Addr}{fd:FuncData}{N ps:List Str}{k:Nat}{sp:Sp}(F:Fun K x qual st f fd)(S:jD N ps (bD st))(len:∀vs H Q E,sp vs H Q E->vs.length=ps.length)
  (hbody:∀(cdv:Value)(A:Around)(outer:List Env)(s:Shared)(H:Hp)(vs:List V)(Q:VK)(E:XK),Room k (A.deeper (envOfC qual (bD st) s.heap.objs.size f cdv))->sp vs H Q E->
   ∃t,PSs (eX CX0 P w K mg base N qual (bD st) f cdv A outer s H E).nox (dA st) t/\t {nx:=fun _ H'=>Q .non H',rt:=Q} (start N vs) H):FnOk P w K mg base CX0 (k+1) f fd ps sp:=by
 obtain⟨oc,od,kV,doc,pm,an,cdv,ct,osl,rfl,lk,hcd⟩:=F.ex;refine B1o lk hcd S len fun A outer s H vs Q E hr hsp=> ?_;obtain⟨t,h,q⟩:=hbody cdv A outer s H vs Q E hr hsp;exact⟨t,h.nox,q⟩
theorem Fun.binds {x qual:Str}{st:Stmt}{f:Addr}{fd:FuncData}{ps:List Str}(F:Fun K x qual st f fd)
  (h:∀(kV doc pm:Value)(an:Option Addr)(cdv ct:Value)(us:List Value),us.length=ps.length->bindArgs (W.fnOf x qual (kB st) (dA st) (bD st) .none kV doc pm an cdv ct) ⟨us,[]⟩=pure (ps.zip us)):Binds K fd ps []:=by
 obtain⟨oc,od,kV,doc,pm,an,cdv,ct,osl,rfl,lk,hcd⟩:=F.ex;exact .all (h kV doc pm an cdv ct)
theorem A8s {x qual:Str}{st:Stmt}{f:Addr}{oc:Value}{od an:Option Addr}{osl:Array (Option Value)}{kV doc pm cdv ct:Value}(l:K.lookup f=some ⟨oc,od,.func (W.fnOf x qual (kB st) (dA st) (bD st) .none kV doc pm an cdv ct),osl⟩)
  (c:W.codeIn K cdv qual=true)(k:W.keepIn K (.ref f)=true):Fun K x qual st f (W.fnOf x qual (kB st) (dA st) (bD st) .none kV doc pm an cdv ct):=⟨⟨oc,od,kV,doc,pm,an,cdv,ct,osl,rfl,l,c⟩,k⟩
end
theorem pE {A:Around}{k:Nat}(hr:Room k A):A.units+1<cLine:=Nat.lt_of_le_of_lt (Nat.add_le_add_left (by decide:1<=64) _) hr.units
theorem cM {n:Nat}(h:n<=1000):n<sizeLine:=Nat.lt_of_le_of_lt h (by decide)
section
variable {X:Cx}
theorem pv (i:Nat){x:Str}{pos:Pos}(hN:X.N[i]?=some x:=by rfl)(hv:Vis X.env.scope x:=by first|exact Or.inl rfl|exact Or.inr (Or.inl rfl)|exact Or.inr (Or.inr rfl))(hd:(x==("__debug__":Str))=false:=by decide)
  (hcd:(x==("__classdict__":Str))=false:=by decide):PE X (.Name x pos) (cY i):=A7l hN hv hd hcd
end
theorem bX {A B:Prop}(h:B):if false=true then A else B:=by rw [if_neg Bool.false_ne_true];exact h
theorem cV {A B:Prop}(h:A):if true=true then A else B:=by rw [if_pos rfl];exact h
theorem uL {c A B:Prop} [Decidable c](hc:c)(h:B):if (!decide c)=true then A else B:=by rw [zjV hc];exact bX h
def Same (H H':Hp):Prop:=∀b o,H b=some o->H' b=some o
theorem Same.refl (H:Hp):Same H H:=fun _ _ h=>h
theorem Same.trans {H H1 H2:Hp}(a:Same H H1)(b:Same H1 H2):Same H H2:=fun c o h=>b c o (a c o h)
theorem Same.free {H H':Hp}(e:Same H H'){l:Addr}(h:H' l=Option.none):H l=Option.none:=by
 cases q:H l with
 |none=>rfl
 |some o=>
  rw [e l o q]at h;cases h
theorem Same.seq {K:W.Frag}{H H':Hp}{a:Addr}{xs:List V}(e:Same H H')(h:SqL K H a xs):SqL K H' a xs:=by
 rcases h with(h| ⟨o,h⟩)|h
 ·exact .inl (.inl (e _ _ h))
 ·exact .inl (.inr ⟨o,e _ _ h⟩)
 ·exact .inr h
section
variable {κ:Type} [DecidableEq κ]
def eD (kvs:List (κ×V))(k:κ):Option V:=(kvs.find? fun kv=>decide (kv.1=k)).map (·.2)
def cO (kvs:List (κ×V))(k:κ)(v:V):List (κ×V):=
 if (kvs.any fun kv=>decide (kv.1=k))=true then kvs.map (fun kv=>if kv.1=k then(kv.1,v)else kv)else kvs++[(k,v)]
theorem uT {p:κ×V}{r:List (κ×V)}{k:κ}(e:p.1=k):eD (p::r) k=some p.2:=by simp [eD,find?_cons,e]
theorem qY {p:κ×V}{r:List (κ×V)}{k:κ}(e:¬p.1=k):eD (p::r) k=eD r k:=by simp [eD,find?_cons,e]
theorem rY (k:κ):∀kvs:List (κ×V),(kvs.any fun kv=>decide (kv.1=k))=(eD kvs k).isSome
 | []=>rfl
 |p::r=>by
  rw [any_cons];by_cases e:p.1=k
  ·simp only [uT e,zjV e,Bool.true_or,Option.isSome_some]
  ·rw [qY e,zjU e,Bool.false_or];exact rY k r
theorem nN (kvs:List (κ×V))(k:κ)(v:V):(cO kvs k v).length<=kvs.length+1:=by
 unfold cO
 split
 ·rw [length_map];omega
 ·rw [length_append,length_cons,length_nil];omega
theorem xY {kvs:List (κ×V)}{k:κ}(v:V)(h:eD kvs k=none):cO kvs k v=kvs++[(k,v)]:=by unfold cO;rw [rY,h];exact if_neg (by decide)
theorem RelO.isSome_eq {o:Option V}{u:Option Value}(r:RelO o u):o.isSome=u.isSome:=by
 cases o with
 |none=>cases u with
  |none=>rfl
  |some _=>exact(show False from r).elim
 |some _=>cases u with
  |none=>exact(show False from r).elim
  |some _=>rfl
theorem KV.val {kvs:List (κ×V)}{vs:List (κ×Value)}(r:KV kvs vs)(k:κ):RelO (eD kvs k) (valueAt vs k):=by
 unfold KV at r
 induction r with
 |nil=>exact True.intro
 | @cons p q ps qs h t ih=>
  obtain⟨h1,h2⟩:=h;by_cases e:p.1=k
  ·have e':q.1=k:=h1.symm.trans e;have b:valueAt (q::qs) k=some q.2:=by simp [valueAt,find?_cons,e']
   rw [uT e,b];exact h2
  ·have e':¬q.1=k:=fun z=>e (h1.trans z);have b:valueAt (q::qs) k=valueAt qs k:=by simp [valueAt,find?_cons,e']
   rw [qY e,b];exact ih
theorem KV.any {kvs:List (κ×V)}{vs:List (κ×Value)}(r:KV kvs vs)(k:κ):(kvs.any fun kv=>decide (kv.1=k))=vs.any fun kv=>decide (kv.1=k):=by
 unfold KV at r
 induction r with
 |nil=>rfl
 |cons h t ih=>rw [any_cons,any_cons,ih,h.1]
theorem KV.repl {kvs:List (κ×V)}{vs:List (κ×Value)}(r:KV kvs vs)(k:κ){y:V}{u:Value}(ry:RelV y u):
  KV (kvs.map fun kv=>if kv.1=k then(kv.1,y)else kv) (vs.map fun kv=>if kv.1=k then(kv.1,u)else kv):=by
 unfold KV at r⊢
 induction r with
 |nil=>exact .nil
 | @cons p q ps qs h t ih=>
  rw [map_cons,map_cons];refine .cons ?_ ih;obtain⟨h1,h2⟩:=h;by_cases e:p.1=k
  ·rw [if_pos e,if_pos (h1.symm.trans e)];exact⟨h1,ry⟩
  ·rw [if_neg e,if_neg (fun z=>e (h1.trans z))];exact⟨h1,h2⟩
theorem KV.put {kvs:List (κ×V)}{vs:List (κ×Value)}(r:KV kvs vs)(k:κ){y:V}{u:Value}(ry:RelV y u):KV (cO kvs k y) (stored vs k u):=by
 unfold cO stored;rw [r.any k];by_cases e:(vs.any fun kv=>decide (kv.1=k))=true
 ·rw [if_pos e,if_pos e];exact r.repl k ry
 ·rw [if_neg e,if_neg e];exact Paired.snoc r ⟨rfl,ry⟩
theorem KV.length {kvs:List (κ×V)}{vs:List (κ×Value)}(r:KV kvs vs):kvs.length=vs.length:=Paired.length r
end
theorem lW {P:Program}{w:World}{k:Key}{u:Value}(r:RelV (kV k) u):(dN P w).is k u=true:=by
 cases k with
 |inl i=>obtain⟨t,e⟩:=(show∃t,u=Value.int i t from r);subst e;exact A3x P w i t
 |inr x=>obtain⟨t,e⟩:=(show∃t,u=Value.str x t from r);subst e;exact B3l P w x t
theorem zE {P:Program}{w:World}:∀{ks:List Key}{us:List Value},Vals (ks.map kV) us->ItemsAre (dN P w) ks us
 | [],_,r=>by rw [map_nil]at r;cases r;exact .nil
 |k::ks,_,r=>by
  rw [map_cons]at r;cases r with
  |cons h t=>exact .cons (lW h) (zE t)
abbrev KT (H:Hp):List (List Key×V)->List (List Key×Addr×Value)->Prop:=Paired fun p q=>p.1=q.1/\H q.2.1=some (.tup (p.1.map kV))/\RelV p.2 q.2.2
theorem KT.val {H:Hp}{kvs:List (List Key×V)}{xs:List (List Key×Addr×Value)}(r:KT H kvs xs)(k:List Key):RelO (eD kvs k) ((atKey xs k).map (·.2)):=by
 induction r with
 |nil=>exact True.intro
 | @cons p q ps qs h t ih=>
  obtain⟨h1,_,h2⟩:=h;by_cases e:p.1=k
  ·have e':q.1=k:=h1.symm.trans e;have b:atKey (q::qs) k=some q.2:=by simp [atKey,find?_cons,e']
   rw [uT e,b];exact h2
  ·have e':¬q.1=k:=fun z=>e (h1.trans z);have b:atKey (q::qs) k=atKey qs k:=by simp [atKey,find?_cons,e']
   rw [qY e,b];exact ih
theorem KT.repl {H:Hp}{kvs:List (List Key×V)}{xs:List (List Key×Addr×Value)}(r:KT H kvs xs)(k:List Key){y:V}{u:Value}(ry:RelV y u):
  KT H (kvs.map fun kv=>if kv.1=k then(kv.1,y)else kv) (xs.map (putAt k u)):=by
 induction r with
 |nil=>exact .nil
 | @cons p q ps qs h t ih=>
  rw [map_cons,map_cons];refine .cons ?_ ih;obtain⟨h1,h2,h3⟩:=h;unfold putAt;by_cases e:p.1=k
  ·rw [if_pos e,if_pos (h1.symm.trans e)];exact⟨h1,h2,ry⟩
  ·rw [if_neg e,if_neg (fun z=>e (h1.trans z))];exact⟨h1,h2,h3⟩
theorem KT.put {H:Hp}{kvs:List (List Key×V)}{xs:List (List Key×Addr×Value)}(r:KT H kvs xs)(k:List Key){b:Addr}{y:V}{u:Value}(hb:H b=some (.tup (k.map kV)))(ry:RelV y u):
  KT H (cO kvs k y) (storedH xs k b u):=by
 have e:(kvs.any fun kv=>decide (kv.1=k))=(atKey xs k).isSome:=by
  rw [rY,(r.val k).isSome_eq,Option.isSome_map]
 unfold cO storedH;rw [e];by_cases q:(atKey xs k).isSome=true
 ·rw [if_pos q,if_pos q];exact r.repl k ry
 ·rw [if_neg q,if_neg q];exact Paired.snoc r ⟨rfl,hb,ry⟩
theorem KT.keeps {H H':Hp}{kvs:List (List Key×V)}{xs:List (List Key×Addr×Value)}(r:KT H kvs xs)(ht:∀b ys,H b=some (.tup ys)->H' b=some (.tup ys)):KT H' kvs xs:=
 Paired.mapP r fun _ _ z=> ⟨z.1,ht _ _ z.2.1,z.2.2⟩
section
variable {P:Program}{w:World}{H:Hp}{h:Heap}{a:Addr}
theorem zF {u:HO}(ok:HOk P w H h)(e:Rd H a u):ObjOk P w H h a u:=e.ok ok
theorem sD {kvs:List (Key×V)}(ok:HOk P w H h)(e:Rd H a (.dK kvs)):kvs.length<=sizeLine/\(a==sysModules)=false/\∃vs,KV kvs vs/\h.DictOf (dN P w) a vs:=
 show ObjOk P w H h a (.dK kvs)from zF ok e
theorem rM {kvs:List (Key×V)}(ok:HOk P w H h)(e:H a=some (.dK kvs)):kvs.length<=sizeLine/\(a==sysModules)=false/\∃vs,KV kvs vs/\h.DictOf (dN P w) a vs:=sD ok (.inl e)
theorem rF {ks:List Key}(ok:HOk P w H h)(e:H a=some (.tup (ks.map kV))):(tupleKind (dN P w)).is h ks a:=by obtain⟨_,its,r,o,h1,h2,n,h3⟩:=(show ObjOk P w H h a (.tup (ks.map kV))from ok a _ e);exact⟨o,its.toArray,n,h1,h2,h3,by simpa using zE r⟩
theorem qA {kvs:List (List Key×V)}(ok:HOk P w H h)(e:Rd H a (.dT kvs)):kvs.length<=sizeLine/\(a==sysModules)=false/\
  ∃xs,KT H kvs xs/\h.DictOfH (tupleKind (dN P w)) a xs:=by
 obtain⟨z,y,xs,r,o,es,ep,h1,h2,h3,h4,h5⟩:=(show ObjOk P w H h a (.dT kvs)from zF ok e);refine⟨z,y,xs,r,o,es,ep,h1,h2,h3,h4,fun x hx=> ?_,h5⟩;have all:∀{l:List (List Key×V)}{m:List (List Key×Addr×Value)},KT H l m->∀x∈m,(tupleKind (dN P w)).is h x.1 x.2.1:=by
  intro l m q
  induction q with
  |nil=>intro x hx;exact nomatch hx
  | @cons p q ps qs hq t ih=>
   intro x hx;rcases mem_cons.mp hx with e|hx
   ·subst e;exact rF ok (by rw [←hq.1];exact hq.2.1)
   ·exact ih x hx
 exact all r x hx
theorem B0o {kvs:List (List Key×V)}(ok:HOk P w H h)(e:H a=some (.dT kvs)):kvs.length<=sizeLine/\(a==sysModules)=false/\
  ∃xs,KT H kvs xs/\h.DictOfH (tupleKind (dN P w)) a xs:=qA ok (.inl e)
end
def qV (H:Hp)(a:Addr)(y:V)(r:Option V):Prop:=
 (∃kvs k,Rd H a (.dK kvs)/\y=kV k/\r=eD kvs k)\/ ∃kvs k b,Rd H a (.dT kvs)/\y= .ref b/\H b=some (.tup (k.map kV))/\r=eD kvs k
def DPut (H:Hp)(a:Addr)(y v:V)(H':Hp):Prop:=
 (∃kvs k,H a=some (.dK kvs)/\y=kV k/\kvs.length<sizeLine/\H'=upd H a (.dK (cO kvs k v)))\/
 ∃kvs k b,H a=some (.dT kvs)/\y= .ref b/\H b=some (.tup (k.map kV))/\kvs.length<sizeLine/\H'=upd H a (.dT (cO kvs k v))
theorem DPut.t {H:Hp}{a b:Addr}{kvs:List (List Key×V)}{k:List Key}{v:V}(e:H a=some (.dT kvs))(eb:H b=some (.tup (k.map kV)))(hl:kvs.length<sizeLine):
  DPut H a (.ref b) v (upd H a (.dT (cO kvs k v))):=.inr ⟨kvs,k,b,e,rfl,eb,hl,rfl⟩
section
variable {X:Cx}{pins:List (Addr×Obj)}{σ:St}{H:Hp}{s:Shared}{a:Addr}{y v:V}{u r:Value}{o:Option V}{A:Around}{E:Value->Shared->Prop}
theorem Inv.big (I:Inv X pins σ H s):sysModules<s.heap.objs.size:=by have h:mainGlobals<s.heap.objs.size:=(I.mod.glob.keeps I.bk).lt;exact lt_trans (by decide) h
theorem A5p {Q:Value->Shared->Prop}(hu:A.units+1<cLine)(I:Inv X pins σ H s)(g:qV H a y (some v))(ry:RelV y u)(h:∀w' s',Inv X pins σ H s'->RelV v w'->Q w' s'):
  wpAny (model X.prog X.w) A (getItem (.ref a) u) Q E s:=by
 rcases g with⟨kvs,k,e,ey,l⟩| ⟨kvs,k,b,e,ey,eb,l⟩
 ·subst ey;obtain⟨z,hd,vs,rel,dd⟩:=sD I.hok e;obtain⟨w',hw,rw'⟩:=RelO.some_of (v:=v) (o:=valueAt vs k) (by rw [l];exact rel.val k);exact wpAny_getItem_of (lW ry) dd.mapOf hw (h w' _ (I.tok _) rw')
 ·subst ey;cases (show u=Value.ref b from ry);obtain⟨z,hd,xs,rel,dd⟩:=qA I.hok e;obtain⟨w',hw,rw'⟩:=RelO.some_of (v:=v) (o:=(atKey xs k).map (·.2)) (by rw [l];exact rel.val k);obtain⟨p,hp,hp2⟩:=Option.map_eq_some_iff.mp hw;refine wpAny_getItem_heap (tupleKind_room_in1 hu) (rF I.hok eb) dd hp ?_;rw [hp2];exact h w' _ (I.tok _) rw'
theorem oZ {h':Heap}{t':Nat}{ob:HO}(I:Inv X pins σ H s)(mu:Mut (H a))(hs:Heap.SameBut a s.heap h')(he:∃q,h'.get? a=some q)(new:ObjOk X.prog X.w (upd H a ob) h' a ob):
  Inv X pins σ (upd H a ob) {s with heap:=h',toks:=t'}:=
 I.write (x:=a) (e:=a) mu (.inl rfl) (fun b q hb z=>(hs.2 b hb).trans z) he new
theorem tV {P:Program}{w:World}{H':Hp}{h':Heap}{kvs:List (Key×V)}{vs:List (Key×Value)}(z:kvs.length<=sizeLine)(hd:(a==sysModules)=false)(rel:KV kvs vs)(dd:h'.DictOf (dN P w) a vs):
  ObjOk P w H' h' a (.dK kvs):=⟨z,hd,vs,rel,dd⟩
theorem A58 {H':Hp}{Q:Unit->Shared->Prop}(hu:A.units+1<cLine)(I:Inv X pins σ H s)(g:DPut H a y v H')(ry:RelV y u)(rv:RelV v r)(h:∀s',Inv X pins σ H' s'->Q () s'):
  wpAny (model X.prog X.w) A (setItem (.ref a) u r) Q E s:=by
 rcases g with⟨kvs,k,e,ey,l,eH⟩| ⟨kvs,k,b,e,ey,eb,l,eH⟩
 ·subst ey eH;obtain⟨z,hd,vs,rel,dd⟩:=rM I.hok e;have hz:vs.length<=sizeLine:=by rw [←rel.length];exact z
  have hl:(cO kvs k v).length<=sizeLine:=by have:=nN kvs k v;omega
  refine wpAny_setItem_pairs (hsz:=hz) (lW ry) dd fun h' dd' hs=>h _ ?_;have he:∃q,h'.get? a=some q:=let ⟨q,_,_,hq,_⟩:=dd';⟨q,hq⟩;exact oZ I (by rw [e];exact True.intro) hs he (tV hl hd (rel.put k rv) dd')
 ·subst ey eH;cases (show u=Value.ref b from ry);obtain⟨z,hd,xs,rel,dd⟩:=B0o I.hok e;have hz:xs.length<=sizeLine:=by rw [←Paired.length rel];exact z
  have hl:(cO kvs k v).length<=sizeLine:=by have:=nN kvs k v;omega
  refine wpAny_setItem_heap (hsz:=hz) (tupleKind_room_in1 hu) (rF I.hok eb) dd fun h' dd' hs=>h _ ?_;obtain⟨q,es,ep,hq,h2,h3,h4,_,h5⟩:=dd';refine oZ I (by rw [e];exact True.intro) hs ⟨q,hq⟩ ⟨hl,hd,_,(rel.put k eb rv).keeps fun c ys ec=> ?_,q,es,ep,hq,h2,h3,h4,h5⟩;rw [aV (qW ec e (fun z=>nomatch z))];exact ec
end
section
variable {X:Cx}{pins:List (Addr×Obj)}{σ:St}{H:Hp}{s:Shared}{a:Addr}{kvs:List (Key×V)}{k:Key}{u:Value}{A:Around}{E:Value->Shared->Prop}
end
def xO (i:Expr):Prop:=∀ov iv,subscripted i false ov iv=operate [ov,iv] (getItem ov iv)
theorem A5t {prog:Program}{w:World}{A:Around}{E:Value->Shared->Prop}{s:Shared}{env:Env}{value slice:Expr}{pos:Pos}{T id:String}{Q:Value->Shared->Prop}
  (hl:typeLookup (.type T) "__getitem__" =pure (some (.builtin id)))(hs:xO slice)
  (h:wpAny (model prog w) A (eval value env) (fun o s₁=>wpAny (model prog w) A (eval slice env) (fun i s₂=>s₂.TypeIs o T/\wpAny (model prog w) A (getItem o i) Q E s₂) E s₁) E s):
  wpAny (model prog w) A (eval (.Subscript value slice pos) env) Q E s:=by
 refine Subscript_ (wpAny_mono h (fun o s₁ h₁=>wpAny_mono h₁ (fun i s₂ h₂=> ?_) fun _ _ x=>x) fun _ _ x=>x);obtain⟨hT,h₂⟩:=h₂;unfold subscriptTail;refine zjZ ?_;rw [getitemInPython_of_ne hT.not_modules];refine zjZ (wpAny_specialOf hT hl ?_);have fin:wpAny (model prog w) A (subscripted slice false o i) (fun r s₃=>wpAny (model prog w) A (letTemporaryGo value o r>>=fun _=>pure r) Q E s₃) E s₂:=by
  rw [hs o i];exact wpAny_operating (wpAny_mono h₂ (fun r s₃ h₃=>zjZ (wpAny_letTemporaryGo (zjY h₃))) fun _ _ x=>x)
 first
  |exact zjY (zjZ fin)
  |exact zjZ (zjY (zjZ fin))
  |exact zjZ fin
theorem B4a {X:Cx}{pins:List (Addr×Obj)}{σ:St}{H:Hp}{s:Shared}{a:Addr}{y:V}{o:Option V}(I:Inv X pins σ H s)(g:qV H a y o):s.TypeIs (.ref a) "dict":=by
 rcases g with⟨kvs,k,e,_,_⟩| ⟨kvs,k,b,e,_,_,_⟩
 ·obtain⟨_,_,vs,_,dd⟩:=sD I.hok e;exact dd.typeIs
 ·obtain⟨_,_,xs,_,dd⟩:=qA I.hok e;exact dd.typeIs
def B3p (td ty:TE):TE:=fun σ H Q=>td σ H fun x H1=>ty σ H1 fun y H2=> ∃a v,x= .ref a/\qV H2 a y (some v)/\Q v H2
def A8l (td ty tv:TE):TS:=fun D σ H=>tv σ H fun v H1=>td σ H1 fun x H2=>ty σ H2 fun y H3=> ∃a H4,x= .ref a/\DPut H3 a y v H4/\D.nx σ H4
section
variable {X:Cx}{o i e value:Expr}{pos pos' tpos:Pos}{td ty tv:TE}
theorem yL (hu:X.A.units+1<cLine)(ho:PE X o td)(hi:PE X i ty)(hs:xO i):PE X (.Subscript o i pos) (B3p td ty):=by intro pins s σ H Q I h;refine A5t PySem.F.slot_dict_getitem.lookup hs (thn (ho pins s σ H _ I h) fun u s1 ⟨x,H1,I1,rx,q1⟩=>thn (hi pins s1 σ H1 _ I1 q1) fun iv s2 ⟨y,H2,I2,ry,a,v,ex,g,q2⟩=> ?_);subst ex;obtain rfl:u=Value.ref a:=rx;exact⟨B4a I2 g,A5p hu I2 g ry fun w' s3 I3 rw'=> ⟨v,H2,I3,rw',q2⟩⟩
theorem B1z (hu:X.A.units+1<cLine)(ho:PE X o td)(hi:PE X i ty)(hv:PE X value tv)(hs:swapsWith value (some (.Subscript o i pos')) pos.line X.env=pure false):
  PS X (.Assign [.Subscript o i pos'] value pos) (A8l td ty tv):=by
 intro pins s σ H D I h;refine wpAny_Assign_Subscript (thn (hv pins s σ H _ I h) fun r s1 ⟨v,H1,I1,rv,q1⟩=>thn (ho pins s1 σ H1 _ I1 q1) fun u s2 ⟨x,H2,I2,rx,q2⟩=>thn (hi pins s2 σ H2 _ I2 q2) fun iv s3 ⟨y,H3,I3,ry,a,H4,ex,g,q3⟩=> ?_) hs;subst ex;obtain rfl:u=Value.ref a:=rx;exact A58 hu I3 g ry rv fun s4 I4=> ⟨σ,H4,I4,q3⟩
end
theorem zC {P:Program}{w:World}{H:Hp}(h:Heap)(hb:sysModules<h.objs.size):ObjOk P w H (h.push {cls:=.type "dict",data:=.dict #[]}) h.objs.size (.dK []):=
 ⟨zero_le _,beq_eq_false_iff_ne.mpr (Ne.symm (ne_of_lt hb)),[],.nil,Heap.DictOf.new h⟩
theorem A32 {P:Program}{w:World}{H:Hp}(h:Heap)(hb:sysModules<h.objs.size):ObjOk P w H (h.push {cls:=.type "dict",data:=.dict #[]}) h.objs.size (.dT []):=
 ⟨zero_le _,beq_eq_false_iff_ne.mpr (Ne.symm (ne_of_lt hb)),[],.nil,_,#[],0,get?_push_size _ rfl,⟨rfl,rfl,rfl⟩,rfl,rfl,nodup_nil⟩
def yM:TE:=fun _ H Q=> ∀p,H p=none->Q (.ref p) (upd H p (.dK []))
def B1c:TE:=fun _ H Q=> ∀p,H p=none->Q (.ref p) (upd H p (.dT []))
section
variable {X:Cx}{pos:Pos}
theorem A9o:PE X (.Dict [] [] pos) yM:=fun pins s σ H Q I h=>
 wpAny_Dict_empty ⟨.ref s.heap.objs.size,_,I.laid (a:=s.heap.objs.size) (o:=.dK []) (t':=s.toks) (fun _ _ q=>zjX _ q) (zjQ _) (zC s.heap I.big),rfl,h _ (I.hok.fresh (zjQ _))⟩
theorem A6i:PE X (.Dict [] [] pos) B1c:=fun pins s σ H Q I h=>
 wpAny_Dict_empty ⟨.ref s.heap.objs.size,_,I.laid (a:=s.heap.objs.size) (o:=.dT []) (t':=s.toks) (fun _ _ q=>zjX _ q) (zjQ _) (A32 s.heap I.big),rfl,h _ (I.hok.fresh (zjQ _))⟩
end
def vN:List (TE×TE)->St->Hp->(List (V×V)->Hp->Prop)->Prop
 | [],_,H,Q=>Q [] H
 | (tk,tv)::r,σ,H,Q=>tk σ H fun x H1=>tv σ H1 fun y H2=>vN r σ H2 fun ps H3=>Q ((x,y)::ps) H3
abbrev VV:List (V×V)->List (Value×Value)->Prop:=Paired fun p q=>RelV p.1 q.1/\RelV p.2 q.2
def PPs (X:Cx)(pos:Pos)(keys:List (Option Expr))(values:List Expr)(trs:List (TE×TE)):Prop:=
 ∀(pins:List (Addr×Obj))(s:Shared)(σ:St)(H:Hp)(Q:List (V×V)->Hp->Prop),Inv X pins σ H s->vN trs σ H Q->
  wpAny (model X.prog X.w) X.A (evalPairs (pairTrees keys values X.env pos)) (fun vs s'=> ∃ps H',Inv X pins σ H' s'/\VV ps vs/\Q ps H') X.xe s
theorem A7t {X:Cx}{pos:Pos}:PPs X pos [] [] []:=fun pins s σ H Q I h=>pairTrees_nil_walk ⟨[],H,I,.nil,h⟩
theorem B3j {X:Cx}{pos:Pos}{k v:Expr}{ks:List (Option Expr)}{vs:List Expr}{tk tv:TE}{trs:List (TE×TE)}(hk:PE X k tk)(hv:PE X v tv)(hr:PPs X pos ks vs trs):
  PPs X pos (some k::ks) (v::vs) ((tk,tv)::trs):=fun pins s σ H Q I h=>
 pairTrees_cons_walk (thn (hk pins s σ H _ I h) fun u s1 ⟨x,H1,I1,rx,q1⟩=>thn (hv pins s1 σ H1 _ I1 q1) fun w2 s2 ⟨y,H2,I2,ry,q2⟩=>
  thn (hr pins s2 σ H2 _ I2 q2) fun ws s3 ⟨ps,H3,I3,rel,q3⟩=> ⟨(x,y)::ps,H3,I3,.cons ⟨rx,ry⟩ rel,q3⟩)
def jL (kvs more:List (Key×V)):List (Key×V):=more.foldl (fun acc kv=>cO acc kv.1 kv.2) kvs
theorem KV.merge:∀{more:List (Key×V)}{rs:List (Key×Value)}{kvs:List (Key×V)}{vs:List (Key×Value)},KV more rs->KV kvs vs->KV (jL kvs more) (merged vs rs):=by
 intro more rs kvs vs r;unfold KV at r
 induction r generalizing kvs vs with
 |nil=>intro q;exact q
 | @cons p q ps qs h t ih=>
  intro r0;have e:KV (cO kvs p.1 p.2) (stored vs q.1 q.2):=by
   have:=r0.put p.1 h.2;rw [←h.1];exact this
  exact ih e
theorem A19:∀(more kvs:List (Key×V)),(jL kvs more).length<=kvs.length+more.length
 | [],kvs=>by show kvs.length<=kvs.length+0;omega
 |p::r,kvs=>by
  have h1:=A19 r (cO kvs p.1 p.2);have h2:=nN kvs p.1 p.2;show(jL (cO kvs p.1 p.2) r).length<=_;rw [length_cons];omega
theorem wM {P:Program}{w:World}:∀{kvs:List (Key×V)}{ws:List (Value×Value)},VV (kvs.map fun kv=>(kV kv.1,kv.2)) ws->∃rs,Carries (dN P w) ws rs/\KV kvs rs
 | [],_,r=>by rw [map_nil]at r;cases r;exact⟨[],True.intro,.nil⟩
 |p::kvs,_,r=>by
  rw [map_cons]at r;cases r with
  | @cons a b as bs h t=>
   obtain⟨rs,c,q⟩:=wM (P:=P) (w:=w) t;obtain⟨b1,b2⟩:=b;exact⟨(p.1,b2)::rs,⟨lW h.1,rfl,c⟩,.cons ⟨rfl,h.2⟩ q⟩
def yN (trs:List (TE×TE)):TE:=fun σ H Q=> ∀p,H p=none->vN trs σ (upd H p (.dK [])) fun ps H2=>H2 p=some (.dK [])/\∃kvs:List (Key×V),ps=kvs.map (fun kv=>(kV kv.1,kv.2))/\kvs.length<=15/\Q (.ref p) (upd H2 p (.dK (jL [] kvs)))
theorem A4u {X:Cx}{pos:Pos}{keys:List (Option Expr)}{values:List Expr}{trs:List (TE×TE)}(h:PPs X pos keys values trs)(hall:keys.all (·.isSome)=true)(hl:keys.length=values.length)(h0:keys≠[])
  (h15:keys.length<=15):PE X (.Dict keys values pos) (yN trs):=by
 intro pins s σ H Q I q;have hn:=I.hok.fresh (zjQ s.heap.objs.size);have I1:=I.laid (a:=s.heap.objs.size) (o:=.dK []) (h':=s.heap.push {cls:=.type "dict",data:=.dict #[]}) (t':=s.toks) (fun _ _ q=>zjX _ q) (zjQ _) (zC s.heap I.big);refine wpAny_Dict_walk (knd:=dN X.prog X.w) hall hl h0 h15 (thn (h pins _ σ _ _ I1 (q _ hn)) fun ws s2 ⟨ps,H2,I2,rel,e,kvs,ep,lk,q2⟩=> ?_);subst ep;obtain⟨rs,c,rk⟩:=wM (P:=X.prog) (w:=X.w) rel;obtain⟨z,hd,vs0,r0,dd⟩:=rM I2.hok e;cases r0;refine⟨rs,c,dd,fun h' dd' hs=> ⟨.ref s.heap.objs.size,_,?_,rfl,q2⟩⟩;have hz:(jL [] kvs).length<=sizeLine:=by
  have h1:=A19 kvs [];rw [length_nil]at h1;rw [sizeLine_eq];omega
 have he:∃q,h'.get? s.heap.objs.size=some q:=let ⟨q,_,_,hq,_⟩:=dd';⟨q,hq⟩;exact oZ I2 (by rw [e];exact True.intro) hs he (tV hz hd (rk.merge .nil) dd')
end L2
set_option maxHeartbeats 4000000
namespace L2
open PySem PySem.Spec PyProof.Rows
structure cQ where
 cl:List (Str×Addr)
 C:Addr
 s:Shared
 H:Hp
 fp:List Addr
 pn:List (Addr×Obj)
def B1h (X:Cx)(N:List Str)(scope:Scope)(Z:cQ):Cx where
 prog:=X.prog
 w:=X.w
 K:=X.K
 mg:=X.mg
 base:=X.base
 A:=X.A
 N:=N
 s₀:=Z.s
 H₀:=Z.H
 env:=compEnvC scope Z.cl Z.C X.env
 outer:=X.stack
 stack:=X.stack
 ex:=Z.fp
 fn:=fun _=>false
 calm:=X.calm
 pn:=Z.pn
 xe:=fun _ _=>False
def yB (ns:List (Str×NameKind))(N:List Str)(scope:Scope)(frees:List (Str×Nat)):Prop:=
 (∀x∈scope.names,x.2≠ .cell/\(x.2= .local->scope.names.lookup x.1=some .local)/\(x.2= .free->ns.lookup x.1=some .cell\/ns.lookup x.1=some .free))/\
 ∀p∈frees,N[p.2]?=some p.1/\scope.names.lookup p.1=some .free/\(ns.lookup p.1=some .cell\/ns.lookup p.1=some .free)
instance (ns:List (Str×NameKind)) (N:List Str) (scope:Scope) (frees:List (Str×Nat)):Decidable (yB ns N scope frees):=by unfold yB;infer_instance
def σC (n:Nat)(frees:List (Str×Nat))(σ:St):St:=replicate n none++frees.map fun p=>(σ[p.2]?).join
theorem B0k (hf:∀x∈scope.names,x.2= .free->∃c,env.cells.lookup x.1=some c):
  ∃cl,closureFor scope env=pure cl/\(∀x c,cl.lookup x=some c->env.cells.lookup x=some c)/\∀x,(x,NameKind.free)∈scope.names->∃c,cl.lookup x=some c:=by
 have go:∀(names:List (Str×NameKind))(cs:List (Str×Addr)),(∀x∈names,x.2= .free->∃c,env.cells.lookup x.1=some c)->(∀x c,cs.lookup x=some c->env.cells.lookup x=some c)->
   ∃cl,(forIn names cs (fun(x:Str×NameKind) (r:List (Str×Addr))=>(if (x.2==NameKind.free)=true then(do let a←cellOf env x.1;pure (ForInStep.yield ((x.1,a)::r)))else pure (ForInStep.yield r):Sem (ForInStep (List (Str×Addr))))))=pure cl/\
    (∀x c,cl.lookup x=some c->env.cells.lookup x=some c)/\(∀x c,cs.lookup x=some c->∃c',cl.lookup x=some c')/\∀x,(x,NameKind.free)∈names->∃c,cl.lookup x=some c:=by
  intro names
  induction names with
  |nil=>intro cs _ h;exact⟨cs,rfl,h,fun x c e=> ⟨c,e⟩,fun x hx=>nomatch hx⟩
  |cons y r ih=>
   intro cs hf h;obtain⟨n,k⟩:=y;have hr:∀x∈r,x.2= .free->∃c,env.cells.lookup x.1=some c:=fun x hx=>hf x (zjS _ hx);by_cases hk:k= .free
   ·subst hk;obtain⟨c,hc⟩:=hf (n,.free) zjR rfl;have h2:∀x c',((n,c)::cs).lookup x=some c'->env.cells.lookup x=some c':=fun x c' e=>by
     rw [lookup_cons]at e;cases hx:x==n with
     |true=>
      rw [hx]at e;have:x=n:=eq_of_beq hx;cases e;rw [this];exact hc
     |false=>rw [hx]at e;exact h x c' e
    obtain⟨cl,e1,e2,e3,e4⟩:=ih ((n,c)::cs) hr h2;refine⟨cl,?_,e2,fun x c' e=> ?_,fun x hx=> ?_⟩
    ·rw [forIn_cons];have:cellOf env n=pure c:=by unfold cellOf;rw [hc]
     simp only [beq_self_eq_true,if_true,this,pure_bind];exact e1
    ·cases hx:x==n with
     |true=>exact e3 x c (by rw [lookup_cons,hx])
     |false=>exact e3 x c' (by rw [lookup_cons,hx];exact e)
    ·rcases mem_cons.mp hx with z|z
     ·cases z;exact e3 n c (by rw [lookup_cons,beq_self_eq_true])
     ·exact e4 x z
   ·obtain⟨cl,e1,e2,e3,e4⟩:=ih cs hr h;refine⟨cl,?_,e2,e3,fun x hx=> ?_⟩
    ·rw [forIn_cons];have hb:(k==NameKind.free)=false:=by simpa using hk
     simp only [hb,Bool.false_eq_true,if_false,pure_bind];exact e1
    ·rcases mem_cons.mp hx with z|z
     ·cases z;exact absurd rfl hk
     ·exact e4 x z
 obtain⟨cl,e1,e2,_,e4⟩:=go scope.names [] hf (fun x c e=>by simp at e);refine⟨cl,?_,e2,e4⟩;unfold closureFor
 first
  | (rw [e1];rfl)
  | (simp only [e1];rfl)
  |simp [e1]
theorem zR {env:Env}:∀{names:List (Str×NameKind)}{x:Str},names.lookup x=some .free->
  (names.map fun(n,k)=>if (k==NameKind.free&&env.scope.kind== .function&&env.kindOf n==some .cell)then(n,NameKind.cell)else(n,k)).lookup x=some .cell\/
  (names.map fun(n,k)=>if (k==NameKind.free&&env.scope.kind== .function&&env.kindOf n==some .cell)then(n,NameKind.cell)else(n,k)).lookup x=some .free
 | [],_,h=>by simp at h
 | (n,k)::r,x,h=>by
  have ih:=@zR env r x;show lookup x ((if (k==NameKind.free&&env.scope.kind== .function&&env.kindOf n==some .cell)=true then(n,NameKind.cell)else(n,k))::_)=_\/lookup x ((if (k==NameKind.free&&env.scope.kind== .function&&env.kindOf n==some .cell)=true then(n,NameKind.cell)else(n,k))::_)=_;cases hx:x==n with
  |true=>
   simp only [lookup_cons,hx]at h;cases h;by_cases hc:(NameKind.free==NameKind.free&&env.scope.kind== .function&&env.kindOf n==some .cell)=true
   ·rw [if_pos hc];left;rw [lookup_cons,hx]
   ·rw [if_neg hc];right;rw [lookup_cons,hx]
  |false=>
   simp only [lookup_cons,hx]at h;by_cases hc:(k==NameKind.free&&env.scope.kind== .function&&env.kindOf n==some .cell)=true
   ·rw [if_pos hc];simp only [lookup_cons,hx];exact ih h
   ·rw [if_neg hc];simp only [lookup_cons,hx];exact ih h
theorem relabel_back {env:Env}:∀{names:List (Str×NameKind)}{x:Str},
    ((names.map fun(n,k)=>if (k==NameKind.free&&env.scope.kind== .function&&env.kindOf n==some .cell)then(n,NameKind.cell)else(n,k)).lookup x=some .cell\/
     (names.map fun(n,k)=>if (k==NameKind.free&&env.scope.kind== .function&&env.kindOf n==some .cell)then(n,NameKind.cell)else(n,k)).lookup x=some .free)->
    (x,NameKind.free)∈names\/(x,NameKind.cell)∈names
  | [],_,h=>by simp at h
  | (n,k)::r,x,h=>by
    have ih:=@relabel_back env r x;replace h:lookup x ((if (k==NameKind.free&&env.scope.kind== .function&&env.kindOf n==some .cell)=true then(n,NameKind.cell)else(n,k))::_)=_\/lookup x ((if (k==NameKind.free&&env.scope.kind== .function&&env.kindOf n==some .cell)=true then(n,NameKind.cell)else(n,k))::_)=_:=h;cases hx:x==n with
    |true=>
      have e:x=n:=eq_of_beq hx;subst e;by_cases hc:(k==NameKind.free&&env.scope.kind== .function&&env.kindOf x==some .cell)=true
      · have:k= .free:=by
          simp only [Bool.and_eq_true]at hc;exact eq_of_beq hc.1.1
        subst this;exact .inl zjR
      · rw [if_neg hc]at h
        simp only [lookup_cons,hx,Option.some.injEq]at h;rcases h with h|h
        · subst h;exact .inr zjR
        · subst h;exact .inl zjR
    |false=>
      have h':_:=h;by_cases hc:(k==NameKind.free&&env.scope.kind== .function&&env.kindOf n==some .cell)=true
      · rw [if_pos hc]at h;simp only [lookup_cons,hx]at h
        rcases ih h with z|z
        · exact .inl (zjS _ z)
        · exact .inr (zjS _ z)
      · rw [if_neg hc]at h;simp only [lookup_cons,hx]at h
        rcases ih h with z|z
        · exact .inl (zjS _ z)
        · exact .inr (zjS _ z)
section
end
abbrev TC:=St->Hp->(St->Hp->Prop)->Prop
def cX (J:It)(g:TG)(tb:TS)(D:dE)(σ:St)(H:Hp):Prop:=∃W:Nat->Nat->St->Hp->Prop,(∃m,W 0 m σ H)/\∀i m σ H,W i m σ H->
 (J.stop i H/\D.nx σ H)\/(J.go i H/\∃N:St->Hp->Prop,(∀σ' H',N σ' H'->∃m',m'<m/\W (i+1) m' σ' H')/\∀x H',J.yld i H x H'->g x σ H' fun σ2 H2=>tb {D with nx:=N,ct:=N,bk:=D.nx} σ2 H2)
def eC (Q:St->Hp->Prop):dE:={nx:=Q,rt:=fun _ _=>False}
def cI (tt:TT)(tb:TC):TS:=fun D σ H=>tt σ H fun b H1=>if b=true then tb σ H1 D.nx else D.nx σ H1
def fA (l:Addr)(te:TE):TC:=fun σ H Q=>te σ H fun v H1=> ∃xs,H1 l=some (.lst xs)/\xs.length<sizeLine/\Q σ (upd H1 l (.lst (xs++[v])))
def pM (wi:TI)(g:TG)(tt:TT)(tb:TC):TC:=fun σ H Q=>wi σ H fun J H1=>cX J g (cI tt tb) (eC Q) σ H1
def A1p (wi:TI)(g:cQ->TG)(tt:cQ->TT)(te:cQ->TE)(n:Nat)(frees:List (Str×Nat)):TE:=fun σ H Q=>wi σ H fun J H1=> ∀(Z:cQ)(l:Addr),H1 l=none->
 cX J (g Z) (cI (tt Z) (fA l (te Z))) (eC fun _ H'=>Q (.ref l) H') (σC n frees σ) (upd H1 l (.lst []))
def A8u (wi:TI)(g:cQ->TG)(tt:cQ->TT)(wi2:cQ->TI)(g2:cQ->TG)(tt2:cQ->TT)(te:cQ->TE)(n:Nat)(frees:List (Str×Nat)):TE:=fun σ H Q=>wi σ H fun J H1=> ∀(Z:cQ)(l:Addr),H1 l=none->
 cX J (g Z) (cI (tt Z) (pM (wi2 Z) (g2 Z) (tt2 Z) (fA l (te Z)))) (eC fun _ H'=>Q (.ref l) H') (σC n frees σ) (upd H1 l (.lst []))
def testsOf (ifs:List Expr)(env:Env):Sem Bool:=forIn ifs true fun c r=>if r=true then do let ok←isTrue c env (eval c env);pure (ForInStep.yield ok)else pure (ForInStep.yield r)
def PTs (Y:Cx)(ifs:List Expr)(t:TT):Prop:=∀(pins:List (Addr×Obj))(s:Shared)(σ:St)(H:Hp)(Q:Bool->Hp->Prop),Inv Y pins σ H s->t σ H Q->
 wpAny (model Y.prog Y.w) Y.A (testsOf ifs Y.env) (TP Y pins σ Q) Y.xe s
def iD:TT:=fun _ H Q=>Q true H
theorem cA:PTs Y [] iD:=fun pins s σ H Q I h=>wpAny_tests_nil ⟨H,I,h⟩
theorem eE (hc:PT Y c t):PTs Y [c] t:=fun pins s σ H Q I h=>wpAny_tests_one (hc pins s σ H Q I h)
def PB (Y:Cx)(tail:(Unit->Sem Fin)->Sem Fin)(r:TC):Prop:=∀(pins:List (Addr×Obj))(s:Shared)(σ:St)(H:Hp)(Q:St->Hp->Prop)(Q':Fin->Shared->Prop)(k:Unit->Sem Fin),Inv Y pins σ H s->r σ H Q->
 (∀σ' H' s',Inv Y pins σ' H' s'->Q σ' H'->wpAny (model Y.prog Y.w) Y.A (k ()) Q' (fun _ _=>False) s')->wpAny (model Y.prog Y.w) Y.A (tail k) Q' (fun _ _=>False) s
theorem gH (h:wpAny M A t Q E s)(hx:E=fun _ _=>False):wpAny M A t Q E' s:=by subst hx;exact wpAny_mono h (fun _ _ q=>q) fun _ _ z=>z.elim
def rA (elt:Expr)(acc:Value)(env:Env)(k:Unit->Sem Fin):Sem Fin:=(eval elt env>>=fun x=>call (.builtin "list.append") [acc,x]>>=fun _=>pure ())>>=k
theorem tK (hx:Y.xe=fun _ _=>False)(he:PE Y elt te):PB Y (rA elt (.ref l) Y.env) (fA l te):=by intro pins s σ H Q Q' k I h hk;refine zjZ (zjZ (thn (gH (he pins s σ H _ I h) hx) fun v s1 ⟨x,H1,I1,r1,q1⟩=> ?_));obtain⟨xs,e,hz,q⟩:=q1;refine zjZ (thn (gH (vO pins s1 σ H1 (.ref l) [x] (.ref l) [v] (fun _ H2=>Q σ H2) I1 rfl (.cons r1 .nil) ⟨l,xs,x,rfl,rfl,e,hz,q⟩) hx) fun u s2 ⟨y,H2,I2,r2,q2⟩=> ?_);exact zjY (hk σ H2 s2 I2 q2)
def jG (e:Expr)(d:Nat)(it acc:Value)(env:Env)(tg iter:Expr)(ifs:List Expr)(tail:(Unit->Sem Fin)->Sem Fin):Sem Fin:=
 standAt iter.pos>>=fun _=>pyNext it>>=fun r=>match r with
  |none=>pure (.done .next)
  |some v=>letOwnedTupleGo tg it v>>=fun _=>assign tg env v>>=fun _=>testsOf ifs env>>=fun ok=>
   if ok=true then tail (fun _=>again (.compLoop e d it acc env))else again (.compLoop e d it acc env)
theorem zD (elt tg iter:Expr)(ifs:List Expr)(scope:Scope)(pos:Pos)(it acc:Value)(env:Env):
  compTurn (.ListComp elt [⟨tg,iter,ifs,0⟩] scope pos) 0 it acc env=jG (.ListComp elt [⟨tg,iter,ifs,0⟩] scope pos) 0 it acc env tg iter ifs (rA elt acc env):=by rfl
theorem B3s (elt tg iter:Expr)(ifs:List Expr)(g:Comprehension)(scope:Scope)(pos:Pos)(it acc:Value)(env:Env):
  compTurn (.ListComp elt [g,⟨tg,iter,ifs,0⟩] scope pos) 1 it acc env=jG (.ListComp elt [g,⟨tg,iter,ifs,0⟩] scope pos) 1 it acc env tg iter ifs (rA elt acc env):=by rfl
def sI (e:Expr)(iter:Expr)(acc:Value)(env:Env)(k:Unit->Sem Fin):Sem Fin:=
 eval iter env>>=fun x=>standAt iter.pos>>=fun _=>foldedSetIterable iter env x>>=fun x=>holding [x] (pyIter x)>>=fun i=>runOwn (.compStart e 1 i acc env) env>>=fun _=>k ()
theorem A6m (elt tg iter tg2 iter2:Expr)(ifs ifs2:List Expr)(scope:Scope)(pos:Pos)(it acc:Value)(env:Env):
  compTurn (.ListComp elt [⟨tg,iter,ifs,0⟩,⟨tg2,iter2,ifs2,0⟩] scope pos) 0 it acc env=jG (.ListComp elt [⟨tg,iter,ifs,0⟩,⟨tg2,iter2,ifs2,0⟩] scope pos) 0 it acc env tg iter ifs
   (sI (.ListComp elt [⟨tg,iter,ifs,0⟩,⟨tg2,iter2,ifs2,0⟩] scope pos) iter2 acc env):=by rfl
section
theorem pD
  (hx:Y.xe=fun _ _=>False)(hc:Y.calm=true)(heq:compTurn (.ListComp elt gens scope pos) d (.ref it) (.ref l) Y.env=jG (.ListComp elt gens scope pos) d (.ref it) (.ref l) Y.env tg iter ifs tail)(hg:PG Y tg g)(ht:PTs Y ifs tt)(hb:PB Y tail tb)
  (I:Inv Y pins σ H s)(T:gE Y.prog Y.w Y.K tg J fp it tn)(st:tn 0 s.heap)(f2:∀b∈fp,fG Y pins H b)(h:cX J g (cI tt tb) (eC Q) σ H):
  codeAny (model Y.prog Y.w) Y.A (.compLoop (.ListComp elt gens scope pos) d (.ref it) (.ref l) Y.env) (fun r s'=>r= .ok .next/\∃σ' H',Inv Y pins σ' H' s'/\Q σ' H') s:=by
 obtain⟨W,⟨m0,w0⟩,turn⟩:=h;have stat:∀{H':Hp},(∀b∈fp,H' b=none)->∀b∈fp,fG Y pins H' b:=fun hn b hb=> ⟨hn b hb,(f2 b hb).2⟩;refine codeAny_loop rfl (fun n s'=> ∃i σ' H',Inv Y pins σ' H' s'/\tn i s'.heap/\(∀b∈fp,H' b=none)/\W i n σ' H') (fun n s3 hI=> ?_) m0 ⟨0,σ,H,I,st,fun b hb=>(f2 b hb).1,w0⟩;obtain⟨i,σ3,H3,I3,st3,fr3,w3⟩:=hI
 show wpAny _ Y.A ((compTurn (.ListComp elt gens scope pos) d (.ref it) (.ref l) Y.env).onRaise (fun x=>do noteFrame x Y.env;theTreesLotGoes x)) _ _ s3;refine wpAny_noted ?_;rw [heq];unfold jG;refine zjZ (wpAny_standAt (zjZ ?_));rcases turn i n σ3 H3 w3 with⟨stop,qn⟩| ⟨go,N,hN,step⟩
 ·refine thn (T.done Y rfl rfl rfl hc i pins s3 σ3 H3 _ I3 (stat fr3) st3 stop) fun r s4 ⟨hr,I4⟩=> ?_;subst hr;exact zjY ⟨rfl,σ3,H3,I4,qn⟩
 ·refine thn (T.item Y rfl rfl rfl hc i pins s3 σ3 H3 _ I3 (stat fr3) st3 go) fun r s4 ⟨u,hr,h4⟩=> ?_;subst hr;refine zjZ (thn h4 fun _ s5 ⟨x,H5,I5,r5,y5,st5,fr5⟩=> ?_);have I5':=I5.pinned (stat fr5) (T.obj _ _ st5);refine zjZ (thn (gH (hg _ s5 σ3 H5 x u _ I5' r5 (step x H5 y5)) hx) fun _ s6 ⟨σ6,H6,I6,q6⟩=> ?_);refine zjZ (thn (gH (ht _ s6 σ6 H6 _ I6 q6) hx) fun ok s7 ⟨H7,I7,q7⟩=> ?_);have again:∀{σ7:St}{H7:Hp}{s7:Shared},Inv Y (pins++kP fp s5.heap) σ7 H7 s7->N σ7 H7->∃m,m<n/\∃i σ' H',Inv Y pins σ' H' s7/\tn i s7.heap/\(∀b∈fp,H' b=none)/\W i m σ' H':=fun{σ7 H7 s7} I7 n7=>by
   obtain⟨m',hm,w7⟩:=hN σ7 H7 n7;refine⟨m',hm,i+1,σ7,H7,I7.unpinned,T.keep _ _ _ st5 fun b hb o e=>(I7.pin (b,o) (mem_append_right _ (mem_append_right _ (lF hb e)))).1,fun b hb=> ?_,w7⟩;obtain⟨o,e,d⟩:=T.obj _ _ st5 b hb;exact(I7.pin (b,o) (mem_append_right _ (mem_append_right _ (lF hb e)))).2.1
  cases ok with
  |false=>
   rw [if_neg Bool.false_ne_true]at q7⊢;exact zjY ⟨rfl,again I7 q7⟩
  |true=>
   rw [if_pos rfl]at q7⊢;exact gH (hb _ s7 σ6 H7 _ _ _ I7 q7 fun σ8 H8 s8 I8 q8=>zjY ⟨rfl,again I8 q8⟩) rfl
theorem A75
  (h0:codeAny (model prog w) A (.compLoop (.ListComp elt [g,⟨target,iter,ifs,0⟩] scope pos) 1 it acc env) R s)
  (h:wpAny (model prog w) A (pyIter it) (fun it' s'=>codeAny (model prog w) A (.compLoop (.ListComp elt [g,⟨target,iter,ifs,0⟩] scope pos) 1 it' acc env) R s')
   (notedBy (model prog w) A env fun x s'=>R (.error x) s') s):
  codeAny (model prog w) A (.compStart (.ListComp elt [g,⟨target,iter,ifs,0⟩] scope pos) 1 it acc env) R s:=by
 refine codeAny_of_tree ?_
 show wpAny _ _ ((compStart (.ListComp elt [g,⟨target,iter,ifs,0⟩] scope pos) 1 it acc env).onRaise (fun x=>do noteFrame x env;standAt theWindowsPlace)) _ _ s;refine wpAny_notedAt ?_;unfold compStart;show wpAny _ _ (ask>>=_) _ _ s;refine zjZ (wpAny_askSetting (wpAny_ite ?_))
 split
 ·first
   |exact zjZ (zjY (zjY (And.intro rfl h0)))
   |exact zjY (And.intro rfl h0)
 ·first
   |exact zjZ (wpAny_rule (zjZ (wpAny_standAt (zjZ (wpAny_mono h (fun it' s' h'=>zjY (And.intro rfl h')) fun _ _ x=>x)))))
   | (refine zjZ (wpAny_rule ?_);show wpAny _ _ (standAt iter.pos>>=_) _ _ s;exact zjZ (wpAny_standAt (zjZ (wpAny_mono h (fun it' s' h'=>zjY (And.intro rfl h')) fun _ _ x=>x))))
theorem A7j (hx:Y.xe=fun _ _=>False)(hc:Y.calm=true)(hi:PI Y tg iter wi)(hg:PG Y tg g)(ht:PTs Y ifs tt)(he:PE Y elt te)
  (hs:∀x,foldedSetIterable iter Y.env x=pure x:=by intro _;rfl):
  PB Y (sI (.ListComp elt [g1,⟨tg,iter,ifs,0⟩] scope pos) iter (.ref l) Y.env) (pM wi g tt (fA l te)):=by
 intro pins s σ H Q Q' k I h hk;unfold sI;refine zjZ (thn (gH (hi pins s σ H _ I h) hx) fun v s1 h1=> ?_);refine zjZ (wpAny_standAt (zjZ (wpAny_of_eq (hs v) (zjZ (wpAny_holding (thn (gH h1 hx) fun itv s2 h2=> ?_))))));obtain⟨it,fp,tn,J,H2,e,I2,T,st2,f2,q2⟩:=h2;subst e;have L:codeAny (model Y.prog Y.w) Y.A (.compLoop (.ListComp elt [g1,⟨tg,iter,ifs,0⟩] scope pos) 1 (.ref it) (.ref l) Y.env) (fun r s'=>r= .ok .next/\∃σ' H',Inv Y pins σ' H' s'/\Q σ' H') s2:=
  pD hx hc (B3s ..) hg ht (tK hx he) I2 T st2 f2 q2
 refine zjZ (wpAny_runOwn (codeAny_mono (A75 L (T.self _ _ _ _ _ st2 L)) fun r s3 h3=> ?_));obtain⟨rfl,σ3,H3,I3,q3⟩:=h3;exact hk σ3 H3 s3 I3 q3
end
section
end
end L2
namespace PySem
open Sem (wp)
open AutoSeq1 (wpAny_loadPart')
section
theorem B2v (hit:s.heap.IsTupleIter it l i)
  (hl:s.heap.IsTuple l items)(hx:items[i]?=some x)
  (hQ:∀h',h'.IsTupleIter it l (i+1)->Heap.SameBut it s.heap h'->Q x {s with heap:=h'}):
  wpAny (model prog w) A (Builtin.SmallTypes.nextOf (.ref it)) Q E s:=by
 obtain⟨o,ho,hc,hd⟩:=id hit;obtain⟨ol,hol,_,nl,hdl⟩:=hl;unfold Builtin.SmallTypes.nextOf;refine zjZ (wpAny_callSpecial?_slot (name:=Str.ofString "__next__") hit.typeIs F.slot_tuple_iterator_next
  (wpAny_call_entry F.slot_tuple_iterator_next hit.typeIs F.entry_tuple_iterator_next ?_ (F.args_tuple_iterator_next_1 _)))
 show wpAny _ _ (field (.ref it) 0>>=_) _ _ s;refine zjZ (wpAny_field ho hd (x:=.ref l) rfl ?_);show wpAny _ _ (if (Value.ref l==Value.none)=true then _ else _) _ _ s;rw [if_neg (show¬((Value.ref l==Value.none)=true)from Bool.false_ne_true)];show wpAny _ _ (field (.ref it) 1>>=_) _ _ s;refine zjZ (wpAny_field ho hd (x:=.int i 0) rfl ?_);show wpAny _ _ (seqItems? (.ref l)>>=_) _ _ s;refine zjZ (wpAny_seqItems hol hdl ?_);simp only [Int.toNat_natCast,hx];refine zjZ (wpAny_setField ho hd (by simp) (zjY ⟨x,rfl,zjY (hQ _ ?_ (Heap.SameBut.update ..))⟩));exact⟨_,get?_update_self _ ho (Obj.isFreed_of_fields (Obj.data_mapFields hd _)),(Obj.cls_mapFields ..).trans hc,by
  rw [Obj.data_mapFields hd];simp [rawInt]⟩
theorem A91 (hh:A.handled=none)
  (hit:s.heap.IsTupleIter it l i)(hl:s.heap.IsTuple l items)(hx:items[i]?=none)
  (hE:∀h' e,Heap.ExtBut it s.heap h'->(∃o,h'.get? e=some o/\o.cls= .type "StopIteration")->E (.ref e) {s with heap:=h'}):
  wpAny (model prog w) A (Builtin.SmallTypes.nextOf (.ref it)) Q E s:=by
 obtain⟨o,ho,hc,hd⟩:=id hit;obtain⟨ol,hol,_,nl,hdl⟩:=hl;unfold Builtin.SmallTypes.nextOf;refine zjZ (wpAny_callSpecial?_slot (name:=Str.ofString "__next__") hit.typeIs F.slot_tuple_iterator_next
  (wpAny_call_entry F.slot_tuple_iterator_next hit.typeIs F.entry_tuple_iterator_next ?_ (F.args_tuple_iterator_next_1 _)))
 show wpAny _ _ (field (.ref it) 0>>=_) _ _ s;refine zjZ (wpAny_field ho hd (x:=.ref l) rfl ?_);show wpAny _ _ (if (Value.ref l==Value.none)=true then _ else _) _ _ s;rw [if_neg (show¬((Value.ref l==Value.none)=true)from Bool.false_ne_true)];show wpAny _ _ (field (.ref it) 1>>=_) _ _ s;refine zjZ (wpAny_field ho hd (x:=.int i 0) rfl ?_);show wpAny _ _ (seqItems? (.ref l)>>=_) _ _ s;refine zjZ (wpAny_seqItems hol hdl ?_);simp only [Int.toNat_natCast,hx];refine zjZ (wpAny_rule (zjZ (wpAny_setField ho hd (by simp) ?_)));show wpAny _ _ (newExc (.type "StopIteration") []>>=_) _ _ _;refine zjZ ?_;simp only [newExc,newTuple];refine zjZ (wpAny_newObj_type ?_ (by size_fits));refine zjZ (m:=firstArgMember _ _) (wpAny_of_eq (a:=Value.none) (by first|rfl| (simp only [firstArgMember];rfl)) ?_);refine wpAny_newObj_type ?_ (by size_fits);simp only [raiseNew];refine zjZ (wpAny_handled ?_)
 first|rw [show A.in1.handled=none from hh]|rw [hh]
 refine zjZ (zjY (wpAny_throw ?_));exact hE _ _ (((Heap.SameBut.update ..).extBut.push _).push _) ⟨_,get?_push_size _ rfl,rfl⟩
end
theorem Draws.tuple (hh:A.handled=none)(it l:Addr)(hne:l≠it)(items:Array Value):
  Draws prog w A it [it,l] items.size (fun i v=>items[i]?=some v) (fun i h=>h.IsTupleIter it l i/\h.IsTuple l items)where
 live:=fun _ _ st=>let ⟨o,ho,_⟩:=st.1;⟨o,ho⟩
 frame:=fun _ _ _ st hk=> ⟨st.1.at fun o e=>hk it (by simp) o e,let ⟨o,ho,r⟩:=st.2;⟨o,hk l (by simp) o ho,r⟩⟩
 item:=fun i s Q E hi st hQ=>by
  refine B2v st.1 st.2 (x:=items[i]) (by simp [hi]) fun h' hit' hs'=> ?_;exact hQ _ h' s.toks (by simp [hi]) ⟨hit',let ⟨o,ho,r⟩:=st.2;⟨o,(hs'.2 l hne).trans ho,r⟩⟩ hs'
 done:=fun s Q E st hE=>A91 hh st.1 st.2 (by simp) hE
theorem B26 (l:Addr)(items:Array Value)(n:Nat)(dct:Option Addr)(sl:Array (Option Value)):
  Meets (Builtin.«enumerate.__new__» ⟨[.type "enumerate",.ref l],[]⟩) (fun _ R s=>s.heap.get? l=some {cls:=.type "tuple",dict:=dct,data:=.seq items n,slots:=sl}/\
   R (.ok (.ret (.ref (s.heap.push {cls:=.type "tuple_iterator",data:=.fields #[.ref l,.int 0 0]}).objs.size)))
    {s with heap:=(s.heap.push {cls:=.type "tuple_iterator",data:=.fields #[.ref l,.int 0 0]}).push {cls:=.type "enumerate",data:=.fields #[.none,.bool false,.ref s.heap.objs.size,rawInt 0,.none,.none]}}):=
 .of_wp fun prog w A R s h=>by
  obtain⟨hp,g,d,tk,os⟩:=s;obtain⟨hl,h⟩:=h;have hsub:=sub_enumerate;have hL:Heap.IsTuple (Shared.heap ⟨hp,g,d,tk,os⟩) l items:=⟨_,hl,rfl,n,rfl⟩
  wp_walk using wpAny_loadPart' hl
  refine wpAny_stack_any fun st=>zjY ?_
  split
  ·rename_i c _ _ _ _ _;cases (c==Value.type "enumerate")
   ·wp_walk using wpAny_loadPart' hl,wpAny_pyIter_tuple hL
    exact⟨_,rfl,h⟩
   ·wp_walk using wpAny_loadPart' hl,wpAny_pyIter_tuple hL
    exact⟨_,rfl,h⟩
  ·wp_walk using wpAny_loadPart' hl,wpAny_pyIter_tuple hL
   exact⟨_,rfl,h⟩
section
theorem B19 (hL:s.heap.IsTuple l items)
  (h:∀h',IsEnum h' (s.heap.objs.size+1) s.heap.objs.size 0 .none->h'.IsTupleIter s.heap.objs.size l 0->h'.objs.size=s.heap.objs.size+2->
   (∀b o,s.heap.get? b=some o->h'.get? b=some o)->Q (.ref (s.heap.objs.size+1)) {s with heap:=h'}):
  wpAny (model prog w) A (call (.type "enumerate") [.ref l]) Q E s:=by
 obtain⟨⟨c,dct,dt,sl⟩,hl,hc,n,hd⟩:=hL;replace hc:c= .type "tuple":=hc;replace hd:dt= .seq items n:=hd;subst hc hd;refine callType_new F.called_enumerate (by decide) (F.typeCall_enumerate_1 _) (F.newCall_enumerate_1 _) (fun obj=>F.args_object_init_2 obj _) F.entry_enumerate_new
  (B26 l items n dct sl) ⟨hl,?_⟩
 have hz:(s.heap.push {cls:=.type "tuple_iterator",data:=.fields #[.ref l,.int 0 0]}).objs.size=s.heap.objs.size+1:=size_push ..;show _/\_;rw [hz];have he:IsEnum ((s.heap.push {cls:=.type "tuple_iterator",data:=.fields #[.ref l,.int 0 0]}).push
   {cls:=.type "enumerate",data:=.fields #[.none,.bool false,.ref s.heap.objs.size,rawInt 0,.none,.none]}) (s.heap.objs.size+1) s.heap.objs.size 0 .none:=by
  have:=get?_push_size (s.heap.push {cls:=.type "tuple_iterator",data:=.fields #[.ref l,.int 0 0]})
   (o:={cls:=.type "enumerate",data:=.fields #[.none,.bool false,.ref s.heap.objs.size,rawInt 0,.none,.none]}) rfl
  rw [hz]at this;exact this
 refine⟨⟨_,he,rfl⟩,h _ he ⟨_,zjX _ (get?_push_size _ rfl),rfl,rfl⟩ (by rw [size_push,hz]) fun b o x=>zjX _ (zjX _ x)⟩
end
open Builtin
open AutoSeq1 (wpAny_loadPart')
namespace F
end F
section
end
end PySem
namespace PySem
open Sem (wp)
open Builtin
open AutoSeq1 (wpAny_loadPart')
section
variable {prog:Program}{w:World}{K:Type} [DecidableEq K]{knd:KeyKind prog w K}{A:Around}{E:Value->Shared->Prop}{R:Result->Shared->Prop}
end
end PySem
namespace L2
open PySem PySem.Spec PyProof.Rows
section
theorem fZ:dW X (.builtin "isinstance") (fun xs H Q=> ∃x T t b,xs=[x,.ty T]/\TyOf X.K H x t/\W.kitOne X.K t (.type T)=some b/\Q (.bl b) H):=by intro pins s σ H xs us Q I r h;obtain⟨x,T,t,b,rfl,ty,e,q⟩:=h;obtain⟨u,w',rfl,rx,rT⟩:=tN r;cases (show w'=Value.type T from rT);exact A9q I rx ty e fun tk=> ⟨.bl b,H,I.tok _,rfl,q⟩
theorem qF:∀{bs:List Bool}{us:List Value},Vals (bs.map V.bl) us->LSm.BoolsAre us bs
 | [],_,.nil=> .nil
 |b::bs,_,.cons r t=>by
  cases (show _=Value.bool b from r);exact .cons b (qF t)
end
section
theorem fU (hc:X.calm=true):dW X (.builtin "all") (fun xs H Q=> ∃(p:Addr)(bs:List Bool),xs=[.ref p]/\SqL X.K H p (bs.map V.bl)/\Q (.bl (bs.all id)) H):=by
 intro pins s σ H xs us Q I r h;obtain⟨p,bs,rfl,hq,q⟩:=h;obtain⟨u,rfl,rx⟩:=eI r;cases rx;obtain⟨its,rv,pl,hz⟩:=I.list hq;have hb:=qF rv;have hlt:p<s.heap.objs.size:=by obtain⟨_,e,_⟩:=pl.isList;exact zjT e
 refine call_all_walk (wpAny_pyIter_list pl.isList ?_);refine⟨s.heap.objs.size,[s.heap.objs.size,p],[s.heap.objs.size],its.toArray.size,_,_,fun i=>(bs[i]?).getD true,rfl,Walks.list (A:=X.A.in1) (by simp [I.ok.hd hc]) _ p (ne_of_lt hlt) its.toArray,⟨⟨_,get?_push_size _ rfl,rfl,rfl⟩,pl.isList.push _⟩,fun i v s' Q' E' hP hQ=> ?_,fun h' tk hk=> ?_⟩
 ·obtain⟨b,e,rfl⟩:=hb.get i v (by simpa using hP);dsimp only at hQ;rw [e]at hQ;exact wpAny_truthy_bool hQ
 ·have e:((List.range its.toArray.size).all fun i=>(bs[i]?).getD true)=bs.all id:=by rw [size_toArray,hb.length,LSm.range_all]
  rw [e];exact⟨.bl _,H,I.kept (h':=h') (t':=tk) (LSm.kept_iter hk),rfl,q⟩
theorem mZ (hc:X.calm=true):dW X (.builtin "any") (fun xs H Q=> ∃(p:Addr)(bs:List Bool),xs=[.ref p]/\SqL X.K H p (bs.map V.bl)/\Q (.bl (bs.any id)) H):=by
 intro pins s σ H xs us Q I r h;obtain⟨p,bs,rfl,hq,q⟩:=h;obtain⟨u,rfl,rx⟩:=eI r;cases rx;obtain⟨its,rv,pl,hz⟩:=I.list hq;have hb:=qF rv;have hlt:p<s.heap.objs.size:=by obtain⟨_,e,_⟩:=pl.isList;exact zjT e
 refine call_any_walk (wpAny_pyIter_list pl.isList ?_);refine⟨s.heap.objs.size,[s.heap.objs.size,p],[s.heap.objs.size],its.toArray.size,_,_,fun i=>(bs[i]?).getD false,rfl,Walks.list (A:=X.A.in1) (by simp [I.ok.hd hc]) _ p (ne_of_lt hlt) its.toArray,⟨⟨_,get?_push_size _ rfl,rfl,rfl⟩,pl.isList.push _⟩,fun i v s' Q' E' hP hQ=> ?_,fun h' tk hk=> ?_⟩
 ·obtain⟨b,e,rfl⟩:=hb.get i v (by simpa using hP);dsimp only at hQ;rw [e]at hQ;exact wpAny_truthy_bool hQ
 ·have e:((List.range its.toArray.size).any fun i=>(bs[i]?).getD false)=bs.any id:=by rw [size_toArray,hb.length,LSm.range_any]
  rw [e];exact⟨.bl _,H,I.kept (h':=h') (t':=tk) (LSm.kept_iter hk),rfl,q⟩
theorem Inv.turnedL {fp:List Addr}{h':Heap}{t':Nat}(I:Inv X pins σ H s)(k:∀b o,b∉fp->s.heap.get? b=some o->h'.get? b=some o)(hf:∀b∈fp,fG X pins H b):Inv X pins σ H {s with heap:=h',toks:=t'}:=by
 have nfp:∀b u,H b=some u->b∉fp:=fun b u e z=>by rw [(hf b z).1]at e;cases e
 refine I.step (g':=s.gens) (d':=s.drawn) (ch:=fp) (fun b hb=> ⟨(hf b hb).2.2.2.1,(hf b hb).2.1,(hf b hb).2.2.2.2.1,(hf b hb).2.2.2.2.2⟩) (fun b o _ _ hc e _=>k b o hc e) (fun b o _ _ hc e _=> ⟨o.slots,k b o hc e⟩) (fun _ _ _ _ n=>n) (fun b o hc e=> ⟨o,k b o hc e⟩)
  (fun _ _ e=>e) (fun _ _ _ e=>e) (fun b ps e=> ⟨#[],by rw [e];simp⟩) (fun m hm=> ?_) (fun b u e=> ?_) I.bare
 ·obtain⟨o,es,ep,ho,r⟩:=hm;exact⟨o,es,ep,k _ o (fun z=>(hf _ z).2.1 rfl) ho,r⟩
 ·refine(I.hok b u e).stay (fun c v hc q=>k c v ?_ q) (fun _ q=>q) fun _ _ q=>q;rcases hc with z|z
  ·rw [z];exact nfp b u e
  ·exact nfp c _ z
theorem Inv.turnLaid {fp:List Addr}{h':Heap}{t':Nat}{p:Addr}{o:HO}(I:Inv X pins σ H s)(k:∀b u,b∉fp->s.heap.get? b=some u->h'.get? b=some u)(hf:∀b∈fp,fG X pins H b)(hp:s.heap.objs.size<=p)
  (new:ObjOk X.prog X.w (upd H p o) h' p o):Inv X pins σ (upd H p o) {s with heap:=h',toks:=t'}:=by
 have nfp:∀b u,H b=some u->b∉fp:=fun b u e z=>by rw [(hf b z).1]at e;cases e
 have hn:=I.hok.fresh hp;have old:∀{b:Addr}{u:Obj},s.heap.get? b=some u->b≠p:=fun e=>ne_of_lt (lt_of_lt_of_le (zjT e) hp);refine I.step (g':=s.gens) (d':=s.drawn) (ch:=fp) (fun b hb=> ⟨(hf b hb).2.2.2.1,(hf b hb).2.1,(hf b hb).2.2.2.2.1,(hf b hb).2.2.2.2.2⟩) (fun b o _ _ hc e _=>k b o hc e) (fun b o _ _ hc e _=> ⟨o.slots,k b o hc e⟩) (fun b o _ e n=>by rw [aV (old e)];exact n) (fun b o hc e=> ⟨o,k b o hc e⟩)
  (fun b xs e=>by rw [aV (bL e hn)];exact e) (fun b u xs e=>by rw [aV (bL e hn)];exact e) (fun b ps e=> ⟨#[],by rw [aV (bL e hn),e];simp⟩) (fun m hm=> ?_) (fun b u e=> ?_) I.bare
 ·obtain⟨o,es,ep,ho,r⟩:=hm;exact⟨o,es,ep,k _ o (fun z=>(hf _ z).2.1 rfl) ho,r⟩
 ·by_cases hb:b=p
  ·subst hb;rw [aD]at e;cases e;exact new
  ·rw [aV hb]at e;refine(I.hok b u e).stay (fun c v hc q=>k c v ?_ q) (fun c q=>by rw [aV (bL q hn)];exact q) fun c xs q=>by rw [aV (bL q hn)];exact q
   rcases hc with z|z
   ·rw [z];exact nfp b u e
   ·exact nfp c _ z
def Ite (S:Hp->List V->Prop):It:=
 ⟨fun i H=> ∃xs x,S H xs/\xs[i]?=some x,fun i H x H'=> ∃p y,x= .ref p/\H p=none/\H'=upd H p (.tup [.int i,y])/\∀xs,S H xs->xs[i]?=some y,fun i H=> ∃xs,S H xs/\xs.length=i⟩
theorem A52 {P:Program}{w:World}{K:W.Frag}{es:List Expr}{x1}{pos:Pos}(e it a:Addr)(hei:e≠it):
  gE P w K (.Tuple es x1 pos) (Ite fun H xs=>SqT K H a xs) [e,it] e (fun i h=>(∃old,IsEnum h e it i old)/\h.IsTupleIter it a i/\a≠it/\a≠e)where
 mem:=by simp
 obj:=fun i h st b hb=>by
  obtain⟨⟨old,he⟩,⟨o,e1,c,d⟩,_⟩:=st;rcases mem_cons.mp hb with z|z
  ·subst z;exact⟨_,he,fun v z=>by cases z⟩
  ·have z':=mem_singleton.mp z;subst z';exact⟨o,e1,fun v z=>by rw [d]at z;cases z⟩
 keep:=fun i h h' st k=> ⟨let ⟨old,he⟩:=st.1;⟨old,k e (by simp) _ he⟩,st.2.1.at fun o q=>k it (by simp) o q,st.2.2⟩
 item:=by
  intro X hP hw hK hc i pins s σ H E I hf st hg;subst hP hw hK;obtain⟨⟨old,he⟩,hit,hai,hae⟩:=st;obtain⟨xs,x,hq,hx⟩:=hg;obtain⟨its,rv,p,hz⟩:=I.tuple hq;obtain⟨u,hu,ru⟩:=rv.get hx;have hlt:i<its.toArray.size:=by
   rw [size_toArray];exact(zjW.mp hu).1
  refine wpAny_pyNext_enum_itemD (Draws.tuple (A:=X.A.in1) (by simp [I.ok.hd hc]) it a hai its.toArray) he ⟨hit,p⟩ hlt hei (by simp [hei,Ne.symm hae]) fun v h' tk hv ho hst' hT hsz hk=> ?_;have hv':v=u:=by
   have e1:its[i]?=some v:=by simpa using hv
   rw [hu]at e1;exact(Option.some.inj e1).symm
  subst hv';refine⟨_,rfl,wpAny_letOwnedTupleGo_enum (s:={s with heap:=h',toks:=tk+1}) ho fun h2 he2 hs2=> ?_⟩;have helt:e<s.heap.objs.size:=zjT he;have hilt:it<s.heap.objs.size:=by obtain⟨_,q,_⟩:=hit;exact zjT q
  have hTe:s.heap.objs.size≠e:=ne_of_gt helt;have hn:H s.heap.objs.size=none:=I.hok.fresh (zjQ _);have kp:∀b o,b∉[e,it]->s.heap.get? b=some o->h2.get? b=some o:=fun b o hb q=>by
   have hbe:b≠e:=fun z=>hb (by simp [z]);have hbi:b≠it:=fun z=>hb (by simp [z]);exact(hs2.2 b hbe).trans (hk b o hbe hbi q)
  have hT2:h2.get? s.heap.objs.size=some {cls:=.type "tuple",data:=.seq #[.int i tk,v]}:=(hs2.2 _ hTe).trans hT;have I2:Inv X pins σ (upd H s.heap.objs.size (.tup [.int i,x])) {s with heap:=h2,toks:=tk+1}:=I.turnLaid (fp:=[e,it]) kp hf (zjQ _) ⟨by show 2<=sizeLine;rw [sizeLine_eq];decide,[.int i tk,v],.cons ⟨_,rfl⟩ (.cons ru .nil),⟨_,hT2,rfl,_,rfl⟩⟩;refine⟨.ref s.heap.objs.size,_,I2,rfl,⟨s.heap.objs.size,x,rfl,hn,rfl,fun ys hy=>by rw [I.tuple_inj hy hq];exact hx⟩,⟨⟨_,by simpa using he2⟩,hst'.1.at fun o q=>(hs2.2 it hei.symm).trans q,hai,hae⟩,fun b hb=> ?_⟩;have hbz:b≠s.heap.objs.size:=by
   rcases mem_cons.mp hb with z|z
   ·rw [z];exact ne_of_lt helt
   ·rw [mem_singleton.mp z];exact ne_of_lt hilt
  rw [aV hbz];exact(hf b hb).1
 done:=by
  intro X hP hw hK hc i pins s σ H E I hf st hg;subst hP hw hK;obtain⟨⟨old,he⟩,hit,hai,hae⟩:=st;obtain⟨xs,hq,hx⟩:=hg;obtain⟨its,rv,p,hz⟩:=I.tuple hq;have hl:=rv.length;have hi:its.toArray.size=i:=by rw [size_toArray,←hl,hx]
  refine wpAny_pyNext_enum_endD (Draws.tuple (A:=X.A.in1) (by simp [I.ok.hd hc]) it a hai its.toArray) he (by rw [hi];exact⟨hit,p⟩) fun h' hs'=> ⟨rfl,?_⟩;exact I.turned (it:=it) (t':=s.toks) (fun b o hb q=>hs' b o hb q) (hf it (by simp)).1 (hf it (by simp)).2.1 (hf it (by simp)).2.2.2.1 (hf it (by simp)).2.2.2.2.1 (hf it (by simp)).2.2.2.2.2
 self:=fun _ _ _ _ _ st h=>let ⟨old,he⟩:=st.1;wpAny_pyIter_enum he h
def A3e (K:W.Frag)(ta:TA):TI:=fun σ H R=>ta σ H fun vs H1=> ∃a xs,vs=[.ref a]/\SqT K H1 a xs/\R (Ite fun H xs=>SqT K H a xs) H1
theorem lB {a:Expr}{ta:TA}{p pos:Pos}{es:List Expr}{x1}{tpos:Pos}(hc:X.calm=true)(hg:Gl X "enumerate")(hm:X.mg "enumerate" =none)(ha:PA X [a] ta)(hs:starEach [a] X.env=[(false,eval a X.env)]:=by rfl):
  PI X (.Tuple es x1 tpos) (.Call (.Name "enumerate" p) [a] [] pos) (A3e X.K ta):=by
 intro pins s σ H R I h;refine Call_ (jV I hg hm boot_enumerate (PyProof.Rows.callWith_type1 (thn (ha pos pins s σ H _ I h) fun us s1 ⟨vs,H1,I1,r1,q1⟩=> ?_) hs rfl));obtain⟨b,xs,e,hq,q⟩:=q1;subst e;obtain⟨u,rfl,rx⟩:=eI r1;cases rx;obtain⟨its,rv,pt,hz⟩:=I1.tuple hq;have hblt:b<s1.heap.objs.size:=by obtain⟨o,ho,_⟩:=id pt;exact zjT ho
 refine B19 pt fun h' he hit hsz hk=> ?_;refine wpAny_pyIter_enum (s:={s1 with heap:=h'}) he ?_;have I2:Inv X pins σ H1 {s1 with heap:=h'}:=I1.kept (t':=s1.toks) hk;refine⟨s1.heap.objs.size+1,[s1.heap.objs.size+1,s1.heap.objs.size],_,_,H1,rfl,I2,A52 _ _ b (Nat.succ_ne_self _),⟨⟨_,he⟩,hit,ne_of_lt hblt,ne_of_lt (lt_succ_of_lt hblt)⟩,fun c hc'=> ?_,q⟩;have hge:s1.heap.objs.size<=c:=by
  rcases mem_cons.mp hc' with z|z
  ·rw [z];exact le_succ _
  ·rw [mem_singleton.mp z];exact zjQ _
 exact I1.fpOk hge (I1.hok.fresh hge)
theorem pP (Pv:Nat->St->Hp->Prop)(h0:Pv 0 σ H)(hl:∀i σ H,i<=xs.length->Pv i σ H->S H xs)
  (hs:∀i x p σ H,xs[i]?=some x->Pv i σ H->H p=none->g (.ref p) σ (upd H p (.tup [.int i,x])) fun σ2 H2=>tb {D with nx:=Pv (i+1),ct:=Pv (i+1),bk:=D.nx} σ2 H2)(hd:∀σ H,Pv xs.length σ H->D.nx σ H):
  cX (Ite S) g tb D σ H:=by
 refine⟨fun i m σ H=>m=xs.length - i/\i<=xs.length/\Pv i σ H,⟨xs.length,by simp,zero_le _,h0⟩,?_⟩;rintro i m σ H ⟨rfl,hi,p⟩;have q:=hl i σ H hi p;by_cases hlt:i<xs.length
 ·refine .inr ⟨⟨xs,xs[i],q,by simp [hlt]⟩,Pv (i+1),fun σ' H' p'=> ⟨xs.length -(i+1),by omega,rfl,hlt,p'⟩,fun x H' y=> ?_⟩;obtain⟨pp,yy,e1,e2,e3,e4⟩:=y;subst e1 e3;exact hs i yy pp σ H (e4 xs q) p e2
 ·have e:i=xs.length:=by omega
  subst e;exact .inl ⟨⟨xs,q,rfl⟩,hd σ H p⟩
end
section
def NewTup (H:Hp)(ys:List V)(Q:VK):Prop:=∀p H',Same H H'->H' p=some (.tup ys)->Q (.ref p) H'
theorem aG (h:H p=none):Same H (upd H p o):=fun b u e=>by rw [aV (bL e h)];exact e
theorem NewTup.new (h:NewTup H ys Q)(hp:H p=none):Q (.ref p) (upd H p (.tup ys)):=h p _ (aG hp) aD
theorem NewTup.old (h:NewTup H ys Q)(hp:H p=some (.tup ys)):Q (.ref p) H:=h p H (Same.refl H) hp
theorem Inv.newTup (I:Inv X pins σ H s)(r:Vals ys its)(hz:ys.length<=sizeLine)(h:NewTup H ys Q):EP X pins σ Q (.ref s.heap.objs.size) {s with heap:=s.heap.push {cls:=.type "tuple",data:=.seq its.toArray}}:=
 ⟨.ref s.heap.objs.size,_,I.laid (t':=s.toks) (o:=.tup ys) (fun b ob q=>zjX _ q) (zjQ _) ⟨hz,_,r,IsTup.new _ _⟩,rfl,h.new (I.hok.fresh (zjQ _))⟩
def A88:R2:=fun x y H Q=> ∃a b xs ys,x= .ref a/\y= .ref b/\H a=some (.tup xs)/\H b=some (.tup ys)/\xs.length+ys.length<=sizeLine/\NewTup H (xs++ys) Q
theorem gG:OpR X (binaryOp .Add) A88:=by
 intro pins s σ H x y v u Q I rx ry h;obtain⟨a,b,xs,ys,rfl,rfl,ha,hb,hz,q⟩:=h;cases rx;cases ry;obtain⟨its,r1,p1,_⟩:=I.tuple (SqT.of ha);obtain⟨its2,r2,p2,_⟩:=I.tuple (SqT.of hb);by_cases hx:xs=[]
 ·subst hx;cases r1;obtain⟨⟨c1,d1,t1,l1⟩,ho,hc,n,hd⟩:=id p1;obtain⟨⟨c2,d2,t2,l2⟩,ho2,hc2,n2,hd2⟩:=id p2;simp only at hc hd hc2 hd2;subst hc hd hc2 hd2;exact concat_meets ⟨_,ho,rfl⟩ ⟨_,ho2,rfl⟩ noFill_tuple_add seq_tuple_add PySem.F.slot_tuple_add PySem.F.entry_tuple_add (PySem.F.args_tuple_add_2 _ _) (tuple_addW0 a b _ _ n n2 d1 d2 l1 l2 (by simp)) ⟨ho,ho2,.ref b,H,I,rfl,q.old hb⟩
 ·refine HT.cat_tup p1 p2 (fun z=>hx (r1.nil_iff.mp z)) (fun z=> ⟨.ref a,H,I,rfl,?_⟩) (fun z=>I.newTup (r1.append r2) (by rw [length_append];exact hz) q) (by rw [←r1.length,←r2.length];exact hz);have:ys=[]:=r2.nil_iff.mp z;subst this;rw [append_nil]at q;exact q.old ha
theorem A4o {t sl:Addr}{items:Array Value}{vl vu:Value}{lo hi:Option Int}{Q:Value->Shared->Prop}{prog:Program}{w:World}{A:Around}{E:Value->Shared->Prop}(ht:IsTup s.heap t items)(hs:s.heap.IsSliceOf sl vl vu .none)(pl:IsPart vl lo)(pu:IsPart vu hi)
  (hw:HT.sIx items.size 0 lo=0/\HT.sIx items.size items.size hi=items.size)(h:Q (.ref t) s):wpAny (model prog w) A (getItem (.ref t) (.ref sl)) Q E s:=by
 obtain⟨os,hos,hcs,hds⟩:=id hs;have hTs:s.TypeIs (.ref sl) "slice":=⟨os,hos,hcs⟩;unfold getItem
 try with_reducible refine wpAny_holding ?_
 first|refine zjZ (zjY ?_)|skip
 refine zjZ (wpAny_sequenceKey ht.typeIs (by decide) (zjZ (wpAny_callSpecial?_slot (name:=Str.ofString "__getitem__") ht.typeIs PyProof.Rows.slot_tuple_getitem (wpAny_call_entry PyProof.Rows.slot_tuple_getitem ht.typeIs entry_tuple_getitem ?_ (args_tuple_getitem _ _)))));show wpAny _ _ (Builtin.Tuple.tupleItemsOf (.ref t)>>=_) _ _ s;refine zjZ (tupleItemsOf_ ht (zjZ (wpAny_typeOf hTs ?_)));rw [if_pos (by decide)];refine zjZ (HT.sliceApplied_gen hs pl pu ?_);have hyes:(((HT.sIx items.size 0 lo:Nat):Int)==0&&(1:Int)==1&&(HT.sIx items.size items.size hi - HT.sIx items.size 0 lo)==items.size)=true:=by rw [hw.1,hw.2];simp
 show wpAny _ _ (if (((HT.sIx items.size 0 lo:Nat):Int)==0&&(1:Int)==1&&(HT.sIx items.size items.size hi - HT.sIx items.size 0 lo)==items.size)=true then _ else _) _ _ s;rw [if_pos hyes];obtain⟨⟨c1,d1,t1,l1⟩,ho,hc,n,hd⟩:=id ht;simp only at hc hd;subst hc hd;obtain⟨hp,g,d,tk,osx⟩:=s
 wp_walk using AutoSeq1.wpAny_loadPart' ho
 all_goals first|exact⟨_,rfl,h⟩|exact⟨_,rfl,zjY h⟩
def A4y:V->Option Int->Option Int->Hp->VK->Prop:=fun x lo hi H Q=> ∃a xs,x= .ref a/\H a=some (.tup xs)/\NewTup H (cC xs lo hi) Q
theorem gF:SlR X A4y:=by
 intro pins s σ H x v vl vu lo hi sl Q I rx hs pl pu h;obtain⟨a,xs,rfl,hx,q⟩:=h;cases rx;obtain⟨its,r,ht,hz⟩:=I.tuple (SqT.of hx);have hlen:its.toArray.size=xs.length:=by rw [size_toArray];exact r.length.symm
 refine⟨"tuple",_,PyProof.Rows.slot_tuple_getitem.lookup,ht.typeIs,?_⟩;by_cases hw:HT.sIx xs.length 0 lo=0/\HT.sIx xs.length xs.length hi=xs.length
 ·refine A4o ht hs pl pu (by rw [hlen];exact hw) ⟨.ref a,H,I,rfl,?_⟩;have:cC xs lo hi=xs:=by unfold cC;rw [hw.1,hw.2];simp
  rw [this]at q;exact q.old hx
 ·refine HT.getItem_tuple_cut ht hs pl pu (by rw [hlen];exact hw) ?_ (by rw [hlen];exact hz);rw [hlen];exact I.newTup ((r.drop (HT.sIx xs.length 0 lo)).take (HT.sIx xs.length xs.length hi - HT.sIx xs.length 0 lo)) (le_trans (nC xs lo hi) hz) q
end
section
end
def Kn (H:Hp):Nat->V->Prop
 |0,_=>True
 |n+1,v=>match v with
  | .non=>True
  | .bl _=>True
  | .int _=>True
  | .str _=>True
  | .ref a=>(∃xs,H a=some (.lst xs))\/(∃kvs,H a=some (.dK kvs))\/ ∃xs,H a=some (.tup xs)/\xs.length<=1000/\∀x∈xs,Kn H n x
  |_=>False
def KnA (H:Hp)(v:V):Prop:=∀n,Kn H n v
structure Ext (H H':Hp):Prop where
 tup:∀a xs,H a=some (.tup xs)->H' a=some (.tup xs)
 lst:∀a xs,H a=some (.lst xs)->∃ys,H' a=some (.lst ys)
 dct:∀a kvs,H a=some (.dK kvs)->H' a=some (.dK kvs)
theorem Ext.trans (a:Ext H H1)(b:Ext H1 H2):Ext H H2:=⟨fun _ _ h=>b.tup _ _ (a.tup _ _ h),fun _ _ h=>let ⟨_,e⟩:=a.lst _ _ h;b.lst _ _ e,fun _ _ h=>b.dct _ _ (a.dct _ _ h)⟩
theorem Same.ext (s:Same H H'):Ext H H':=⟨fun _ _ h=>s _ _ h,fun _ xs h=> ⟨xs,s _ _ h⟩,fun _ _ h=>s _ _ h⟩
theorem Kn.ext (e:Ext H H'):∀{n:Nat}{v:V},Kn H n v->Kn H' n v
 |0,_,_=>True.intro
 |n+1,v,h=>by
  cases v with
  |ref a=>
   rcases h with⟨xs,h⟩| ⟨kvs,h⟩| ⟨xs,h,hl,hx⟩
   ·exact .inl (e.lst _ _ h)
   ·exact .inr (.inl ⟨kvs,e.dct _ _ h⟩)
   ·exact .inr (.inr ⟨xs,e.tup _ _ h,hl,fun x hm=>Kn.ext e (hx x hm)⟩)
  |_=>exact h
theorem KnA.ext (h:KnA H v)(e:Ext H H'):KnA H' v:=fun n=>(h n).ext e
theorem Kn.le:∀{n m:Nat}{v:V},n<=m->Kn H m v->Kn H n v
 |0,_,_,_,_=>True.intro
 |n+1,0,_,h,_=>absurd h (by omega)
 |n+1,m+1,v,h,k=>by
  cases v with
  |ref a=>
   rcases k with⟨xs,k⟩| ⟨kvs,k⟩| ⟨xs,k,hl,hx⟩
   ·exact .inl ⟨xs,k⟩
   ·exact .inr (.inl ⟨kvs,k⟩)
   ·exact .inr (.inr ⟨xs,k,hl,fun x hm=>Kn.le (by omega) (hx x hm)⟩)
  |_=>exact k
theorem KnA.int (i:Int):KnA H (.int i):=fun n=>by cases n<;>exact True.intro
theorem KnA.bl (b:Bool):KnA H (.bl b):=fun n=>by cases n<;>exact True.intro
theorem KnA.non:KnA H .non:=fun n=>by cases n<;>exact True.intro
theorem KnA.str (x:Str):KnA H (.str x):=fun n=>by cases n<;>exact True.intro
theorem KnA.lst (h:H a=some (.lst xs)):KnA H (.ref a):=fun n=>by cases n with|zero=>exact True.intro|succ n=>exact .inl ⟨xs,h⟩
theorem KnA.dct (h:H a=some (.dK kvs)):KnA H (.ref a):=fun n=>by cases n with|zero=>exact True.intro|succ n=>exact .inr (.inl ⟨kvs,h⟩)
theorem KnA.tup (h:H a=some (.tup xs))(hl:xs.length<=1000)(hx:∀x∈xs,KnA H x):KnA H (.ref a):=fun n=>by
 cases n with
 |zero=>exact True.intro
 |succ n=>exact .inr (.inr ⟨xs,h,hl,fun x hm=>hx x hm n⟩)
theorem Kn.items (k:Kn H (n+1) (.ref a))(h:H a=some (.tup xs)):xs.length<=1000/\∀x∈xs,Kn H n x:=by
 rcases k with⟨ys,k⟩| ⟨kvs,k⟩| ⟨ys,k,hl,hx⟩
 ·rw [h]at k;cases k
 ·rw [h]at k;cases k
 ·rw [h]at k;cases k;exact⟨hl,hx⟩
def isInt:V->Bool| .int _=>true|_=>false
def vF:V->Bool| .bl _=>true|_=>false
def tupOf (H:Hp):V->Option (List V)
 | .ref a=>match H a with|some (.tup xs)=>some xs|_=>none
 |_=>none
theorem iF (h:H a=some (.tup xs)):tupOf H (.ref a)=some xs:=by simp [tupOf,h]
theorem eZ (h:tupOf H v=some xs):∃a,v= .ref a/\H a=some (.tup xs):=by
 cases v with
 |ref a=>
  unfold tupOf at h;cases e:H a with
  |none=>simp [e]at h
  |some o=>cases o<;>simp [e]at h;subst h;exact⟨a,rfl,e⟩
 |_=>simp [tupOf]at h
section
variable {K:W.Frag}
theorem kM {H:Hp}{v:V}(k:Kn H 1 v):∃t,TyOf K H v t/\W.kitOne K t (.type "int")=some (isInt v||vF v)/\W.kitOne K t (.type "bool")=some (vF v)/\W.kitOne K t (.type "tuple")=some (tupOf H v).isSome:=by
 cases v with
 |non=>exact⟨_,.non,by kernel_rfl,by kernel_rfl,by kernel_rfl⟩
 |bl b=>exact⟨_,.bl b,by kernel_rfl,by kernel_rfl,by kernel_rfl⟩
 |int i=>exact⟨_,.int i,by kernel_rfl,by kernel_rfl,by kernel_rfl⟩
 |str x=>exact⟨_,.str x,by kernel_rfl,by kernel_rfl,by kernel_rfl⟩
 |ref a=>
  rcases k with⟨xs,k⟩| ⟨kvs,k⟩| ⟨xs,k,hl,hx⟩
  ·refine⟨_,.lst k,by kernel_rfl,by kernel_rfl,?_⟩;have:(tupOf H (.ref a)).isSome=false:=by simp [tupOf,k]
   rw [this];kernel_rfl
  ·refine⟨_,.dK k,by kernel_rfl,by kernel_rfl,?_⟩;have:(tupOf H (.ref a)).isSome=false:=by simp [tupOf,k]
   rw [this];kernel_rfl
  ·refine⟨_,.tup k,by kernel_rfl,by kernel_rfl,?_⟩;have:(tupOf H (.ref a)).isSome=true:=by simp [tupOf,k]
   rw [this];kernel_rfl
 |_=>exact(show False from k).elim
end
def cS (lo hi:Int):V->Bool| .int i=>decide (lo<=i)&&decide (i<=hi)|_=>false
theorem Same.tupOf (s:Same H H')(k:Kn H 1 v):L2.tupOf H' v=L2.tupOf H v:=by
 cases v with
 |ref a=>
  rcases k with⟨xs,k⟩| ⟨kvs,k⟩| ⟨xs,k,_⟩
  ·simp [L2.tupOf,k,s _ _ k]
  ·simp [L2.tupOf,k,s _ _ k]
  ·simp [L2.tupOf,k,s _ _ k]
 |_=>rfl
def PenAt (H:Hp)(p:Addr):Prop:=∃x f:Int,H p=some (.lst [.int x,.int f])
structure Stp (p:Addr)(H H':Hp):Prop where
 pen:PenAt H' p
 keep:∀b o,b≠p->H b=some o->H' b=some o
theorem Stp.refl (h:PenAt H p):Stp p H H:=⟨h,fun _ _ _ e=>e⟩
theorem Stp.trans (a:Stp p H H1)(b:Stp p H1 H2):Stp p H H2:=⟨b.pen,fun c o h e=>b.keep c o h (a.keep c o h e)⟩
theorem Stp.same (a:Stp p H H1)(s:Same H1 H2):Stp p H H2:=⟨let ⟨x,f,e⟩:=a.pen;⟨x,f,s _ _ e⟩,fun b o h e=>s _ _ (a.keep b o h e)⟩
theorem PenAt.ne (h:PenAt H p)(e:H b=some o)(n:∀xs,o≠ .lst xs):b≠p:=fun z=>by
 obtain⟨x,f,e2⟩:=h;rw [z,e2]at e;cases e;exact n _ rfl
theorem Stp.ext (h:PenAt H p)(s:Stp p H H'):Ext H H' where
 tup:=fun a xs e=>s.keep a _ (h.ne e (by intro z;simp)) e
 lst:=fun a xs e=>by
  by_cases ha:a=p
  ·obtain⟨x,f,e2⟩:=s.pen;exact⟨_,by rw [ha];exact e2⟩
  ·exact⟨xs,s.keep a _ ha e⟩
 dct:=fun a kvs e=>s.keep a _ (h.ne e (by intro z;simp)) e
theorem jC {K:W.Frag}{a l:Addr}{xs:List V}{te:TE}{H0:Hp}{rest:St}{Q:St->Hp->Prop}(f:V->V)(ha:H0 a=some (.tup xs))(hl:H0 l=none)(hz:xs.length<=1000)
  (turn:∀x H' Q',x∈xs->Same H0 H'->(∀H2,Same H' H2->Q' (f x) H2)->te (some x::rest) H' Q')(hQ:∀σ H',Same H0 H'->H' l=some (.lst (xs.map f))->Q σ H'):
  cX (Itt K a) (dD 0) (cI iD (fA l te)) (eC Q) (none::rest) (upd H0 l (.lst [])):=by
 have s0:Same H0 (upd H0 l (.lst [])):=aG hl;refine gM (K:=K) (a:=a) (xs:=xs) (fun i σ H'=>(∃o,σ=o::rest)/\Same H0 H'/\H' l=some (.lst ((xs.take i).map f))) ⟨⟨_,rfl⟩,s0,by rw [aD];rfl⟩ (fun i σ H' _ h=>SqT.of (h.2.1 _ _ ha)) ?_ ?_
 ·rintro i x σ H' hx ⟨⟨o,rfl⟩,hs,hl'⟩;show fA l te (some x::rest) H' _;refine turn x H' _ (mem_of_getElem? hx) hs fun H2 h2=> ?_;refine⟨_,h2 _ _ hl',?_,⟨_,rfl⟩,fun b u e=> ?_,?_⟩
  ·rw [length_map,length_take];exact cM (by omega)
  ·rw [aV (bL e hl)];exact h2 _ _ (hs _ _ e)
  ·rw [aD,take_succ,hx,map_append];rfl
 ·rintro σ H' ⟨_,hs,hl'⟩;rw [take_of_length_le (zjQ _)]at hl';exact hQ σ H' hs hl'
theorem gZ (h:tb σ H D.nx):cI iD tb D σ H:=by show(if true=true then tb σ H D.nx else D.nx σ H);exact cV h
theorem kX (h:tb (σ.set i (some v)) H D.nx):dD i v σ H (fun σ2 H2=>cI iD tb D σ2 H2):=gZ h
theorem cF {b:Bool}{A B:Prop}(h1:b=true->A)(h2:b=false->B):if b=true then A else B:=by
 cases b with
 |true=>exact cV (h1 rfl)
 |false=>exact bX (h2 rfl)
theorem fI {c:Prop} [Decidable c]{A B:Prop}(h1:c->A)(h2:¬c->B):if decide c=true then A else B:=by
 by_cases h:c
 ·rw [zjV h];exact cV (h1 h)
 ·rw [zjU h];exact bX (h2 h)
end L2
namespace L2
open PySem PyProof.Rows
section
variable {P:Program}{w:World}{K:W.Frag}{mg:Str->Option Value}{base:Heap}{x:Str}{st:Stmt}{ps:List Str}{sp:Sp}
def D1 (K:W.Frag)(mg:Str->Option Value)(x:Str)(st:Stmt)(ps:List Str):Prop:=∃f fd,Fun K x x st f fd/\mg x=some (.ref f)/\Binds K fd ps []
def A1 (P:Program)(w:World)(K:W.Frag)(mg:Str->Option Value)(base:Heap)(k:Nat)(x:Str)(sp:Sp):Prop:=∃f fd ps,mg x=some (.ref f)/\W.keepIn K (.ref f)=true/\Binds K fd ps []/\FnOk P w K mg base CX0 k f fd ps sp
theorem D1.k {k:Nat}(F:D1 K mg x st ps)(N:List Str)
  (hbody:N.Nodup->∀(f:Addr)(cdv:Value)(A:Around)(outer:List Env)(s:Shared)(H:Hp)(vs:List V)(Q:VK)(E:XK),Room k (A.deeper (envOfC x (bD st) s.heap.objs.size f cdv))->sp vs H Q E->
   ∃t,PSs (eX CX0 P w K mg base N x (bD st) f cdv A outer s H E).nox (dA st) t/\t {nx:=fun _ H'=>Q .non H',rt:=Q} (start N vs) H)
  (S:jD N ps (bD st):=by ac_rfl)
  (len:∀vs H Q E,sp vs H Q E->vs.length=ps.length:=by intro _ _ _ _ h;repeat (first|exact congrArg List.length h.1|obtain⟨_,h⟩:=h)):A1 P w K mg base (k+1) x sp:=
 let ⟨f,fd,F,m,b⟩:=F
 ⟨f,fd,ps,m,F.kp,b,F.ok S len (hbody S.nd f)⟩
theorem A1.c (a:A1 X.prog X.w X.K X.mg X.base k x sp)(hr:Room m X.A)(ha:PA X (e::es) t)(h:k<=m:=by decide)(hg:Gl X x:=by rfl)(hdb:(x==("__debug__":Str))=false:=by decide)(he:starEach (e::es) X.env=(false,eval e X.env)::starEach es X.env:=by rfl)(hpl:(backTo pos (starEach es X.env)).any (·.1)=false:=by rfl):
  PE X (.Call (.Name x p) (e::es) [] pos) (oR sp [] E0 t):=let ⟨_,_,_,m,k,b,g⟩:=a;A15 g (hr.mono h) hg m k b .nil zB ha hdb he hpl
def Fk (K:W.Frag)(x:Str)(st:Stmt):Prop:=∃f fd,W.nsIn K mainGlobals x=some (some (.ref f))/\Fun K x x st f fd
theorem A4l {f:Addr}{oc:Value}{od an:Option Addr}{osl:Array (Option Value)}{kV doc pm cdv ct:Value}(a:W.nsIn K mainGlobals x=some (some (.ref f)))(l:K.lookup f=some ⟨oc,od,.func (W.fnOf x x (kB st) (dA st) (bD st) .none kV doc pm an cdv ct),osl⟩)(c:W.codeIn K cdv x=true)(k:W.keepIn K (.ref f)=true):Fk K x st:=⟨_,_,a,A8s l c k⟩
theorem Fk.d {h:Heap}(q:Fk K x st)(X:K.In h)(G:h.Ns mainGlobals mg)(hb:∀(kV doc pm:Value)(an:Option Addr)(cdv ct:Value)(us:List Value),us.length=ps.length->bindArgs (W.fnOf x x (kB st) (dA st) (bD st) .none kV doc pm an cdv ct) ⟨us,[]⟩=pure (ps.zip us):=by intro _ _ _ _ _ _ us hl;first| (match us,hl with| [_],_=>rfl)| (match us,hl with| [_,_],_=>rfl)| (match us,hl with| [_,_,_],_=>rfl)):D1 K mg x st ps:=let ⟨f,fd,a,F⟩:=q;⟨f,fd,F,W.mg_of X G a,F.binds hb⟩
theorem Fk.law {h:Heap}{y:Str}{fa:Addr}(q:Fk K x st)(X:K.In h)(G:h.Ns mainGlobals mg)(hfa:mg x=some (.ref fa))(hb:∀(kV doc pm:Value)(an:Option Addr)(cdv ct:Value)(u:Value),bindArgs (W.fnOf x x (kB st) (dA st) (bD st) .none kV doc pm an cdv ct) ⟨[u],[]⟩=pure [(y,u)]):∃fd,Fun K x x st fa fd/\∀(s:Shared)(v:Value),BindsTo s fd ⟨[v],[]⟩ [(y,v)]:=by obtain⟨f,fd,a,F⟩:=q;have e2:=hfa.symm.trans (W.mg_of X G a);cases e2;obtain⟨oc,od,kV,doc,pm,an,cdv,ct,osl,rfl,lk,hcd⟩:=F.ex;exact⟨_,F,fun s v=> .of_eq (hb _ _ _ _ _ _ _)⟩
end
end L2
namespace L2
open PySem PySem.Spec PyProof.Rows
section
end
def tE (l:Addr)(tk tv:TE):TC:=fun σ H Q=>tk σ H fun y H1=>tv σ H1 fun v H2=> ∃kvs k,y=kV k/\H2 l=some (.dK kvs)/\kvs.length<sizeLine/\Q σ (upd H2 l (.dK (cO kvs k v)))
def A1f (kx vx:Expr)(acc:Value)(env:Env)(k:Unit->Sem Fin):Sem Fin:=(eval kx env>>=fun kv=>holding [kv] (eval vx env)>>=fun vv=>match acc with
    | .ref d=>do
     standAt {kx.pos with endLine:=vx.pos.endLine,endCol:=vx.pos.endCol}
     holding [kv,vv] (dictSet d kv vv)
    |_=>unsupported "internal:dictcomp")>>=k
theorem A7u (kx vx tg iter:Expr)(ifs:List Expr)(scope:Scope)(pos:Pos)(it acc:Value)(env:Env):
  compTurn (.DictComp kx vx [⟨tg,iter,ifs,0⟩] scope pos) 0 it acc env=jG (.DictComp kx vx [⟨tg,iter,ifs,0⟩] scope pos) 0 it acc env tg iter ifs (A1f kx vx acc env):=by rfl
theorem A3z (hx:Y.xe=fun _ _=>False)(hu:Y.A.units<cLine)(he:PE Y kx tk)(hv:PE Y vx tv):PB Y (A1f kx vx (.ref l) Y.env) (tE l tk tv):=by
 intro pins s σ H Q Q' k I h hk;refine zjZ (zjZ (thn (gH (he pins s σ H _ I h) hx) fun kv s1 ⟨x,H1,I1,r1,q1⟩=> ?_));refine zjZ (wpAny_holding (thn (gH (hv pins s1 σ H1 _ I1 q1) hx) fun vv s2 ⟨y,H2,I2,r2,q2⟩=> ?_));obtain⟨kvs,ks,rfl,e,hl,q⟩:=q2;obtain⟨z,hd,vs,rel,dd⟩:=rM I2.hok e;have hz:vs.length<=sizeLine:=by rw [←rel.length];exact z
 have hl':(cO kvs ks y).length<=sizeLine:=by have:=nN kvs ks y;omega
 refine zjZ (wpAny_standAt (wpAny_holding ?_));refine wpAny_dictSet_pairs (hsz:=hz) (lW r1) dd fun h' dd' hs=>hk _ _ _ ?_ q;have he:∃q,h'.get? l=some q:=let ⟨q,_,_,hq,_⟩:=dd';⟨q,hq⟩;exact oZ I2 (by rw [e];exact True.intro) hs he (tV hl' hd (rel.put ks r2) dd')
section
theorem A82
  (hx:Y.xe=fun _ _=>False)(hc:Y.calm=true)(heq:compTurn (.DictComp kx vx gens scope pos) d (.ref it) (.ref l) Y.env=jG (.DictComp kx vx gens scope pos) d (.ref it) (.ref l) Y.env tg iter ifs tail)(hg:PG Y tg g)(ht:PTs Y ifs tt)(hb:PB Y tail tb)
  (I:Inv Y pins σ H s)(T:gE Y.prog Y.w Y.K tg J fp it tn)(st:tn 0 s.heap)(f2:∀b∈fp,fG Y pins H b)(h:cX J g (cI tt tb) (eC Q) σ H):
  codeAny (model Y.prog Y.w) Y.A (.compLoop (.DictComp kx vx gens scope pos) d (.ref it) (.ref l) Y.env) (fun r s'=>r= .ok .next/\∃σ' H',Inv Y pins σ' H' s'/\Q σ' H') s:=by
 obtain⟨W,⟨m0,w0⟩,turn⟩:=h;have stat:∀{H':Hp},(∀b∈fp,H' b=none)->∀b∈fp,fG Y pins H' b:=fun hn b hb=> ⟨hn b hb,(f2 b hb).2⟩;refine codeAny_loop rfl (fun n s'=> ∃i σ' H',Inv Y pins σ' H' s'/\tn i s'.heap/\(∀b∈fp,H' b=none)/\W i n σ' H') (fun n s3 hI=> ?_) m0 ⟨0,σ,H,I,st,fun b hb=>(f2 b hb).1,w0⟩;obtain⟨i,σ3,H3,I3,st3,fr3,w3⟩:=hI
 show wpAny _ Y.A ((compTurn (.DictComp kx vx gens scope pos) d (.ref it) (.ref l) Y.env).onRaise (fun x=>do noteFrame x Y.env;theTreesLotGoes x)) _ _ s3;refine wpAny_noted ?_;rw [heq];unfold jG;refine zjZ (wpAny_standAt (zjZ ?_));rcases turn i n σ3 H3 w3 with⟨stop,qn⟩| ⟨go,N,hN,step⟩
 ·refine thn (T.done Y rfl rfl rfl hc i pins s3 σ3 H3 _ I3 (stat fr3) st3 stop) fun r s4 ⟨hr,I4⟩=> ?_;subst hr;exact zjY ⟨rfl,σ3,H3,I4,qn⟩
 ·refine thn (T.item Y rfl rfl rfl hc i pins s3 σ3 H3 _ I3 (stat fr3) st3 go) fun r s4 ⟨u,hr,h4⟩=> ?_;subst hr;refine zjZ (thn h4 fun _ s5 ⟨x,H5,I5,r5,y5,st5,fr5⟩=> ?_);have I5':=I5.pinned (stat fr5) (T.obj _ _ st5);refine zjZ (thn (gH (hg _ s5 σ3 H5 x u _ I5' r5 (step x H5 y5)) hx) fun _ s6 ⟨σ6,H6,I6,q6⟩=> ?_);refine zjZ (thn (gH (ht _ s6 σ6 H6 _ I6 q6) hx) fun ok s7 ⟨H7,I7,q7⟩=> ?_);have again:∀{σ7:St}{H7:Hp}{s7:Shared},Inv Y (pins++kP fp s5.heap) σ7 H7 s7->N σ7 H7->∃m,m<n/\∃i σ' H',Inv Y pins σ' H' s7/\tn i s7.heap/\(∀b∈fp,H' b=none)/\W i m σ' H':=fun{σ7 H7 s7} I7 n7=>by
   obtain⟨m',hm,w7⟩:=hN σ7 H7 n7;refine⟨m',hm,i+1,σ7,H7,I7.unpinned,T.keep _ _ _ st5 fun b hb o e=>(I7.pin (b,o) (mem_append_right _ (mem_append_right _ (lF hb e)))).1,fun b hb=> ?_,w7⟩;obtain⟨o,e,d⟩:=T.obj _ _ st5 b hb;exact(I7.pin (b,o) (mem_append_right _ (mem_append_right _ (lF hb e)))).2.1
  cases ok with
  |false=>
   rw [if_neg Bool.false_ne_true]at q7⊢;exact zjY ⟨rfl,again I7 q7⟩
  |true=>
   rw [if_pos rfl]at q7⊢;exact gH (hb _ s7 σ6 H7 _ _ _ I7 q7 fun σ8 H8 s8 I8 q8=>zjY ⟨rfl,again I8 q8⟩) rfl
end
def B0y (wi:TI)(g:cQ->TG)(tt:cQ->TT)(tk tv:cQ->TE)(n:Nat)(frees:List (Str×Nat)):TE:=fun σ H Q=>wi σ H fun J H1=> ∀(Z:cQ)(l:Addr),H1 l=none->cX J (g Z) (cI (tt Z) (tE l (tk Z) (tv Z))) (eC fun _ H'=>Q (.ref l) H') (σC n frees σ) (upd H1 l (.dK []))
section
end
def jA (ns:List (Str×NameKind))(N:List Str)(scope:Scope)(frees:List (Str×Nat)):Prop:=
 (∀x∈scope.names,(x.2= .cell->scope.names.lookup x.1=some .cell)/\(x.2= .local->scope.names.lookup x.1=some .local)/\(x.2= .free->ns.lookup x.1=some .cell\/ns.lookup x.1=some .free))/\
 ∀p∈frees,N[p.2]?=some p.1/\scope.names.lookup p.1=some .free/\(ns.lookup p.1=some .cell\/ns.lookup p.1=some .free)
instance (ns:List (Str×NameKind)) (N:List Str) (scope:Scope) (frees:List (Str×Nat)):Decidable (jA ns N scope frees):=by unfold jA;infer_instance
def cU (X:Cx)(N:List Str)(scope:Scope)(Z:cQ):Cx:={B1h X N scope Z with fn:=fun x=>scope.names.lookup x==some .cell}
theorem uS:∀(names:List (Str×NameKind))(n:Nat)(a b:List (Str×Addr)),cellsFrom n names (a++b)=cellsFrom n names a++b
 | [],_,_,_=>rfl
 | (x,k)::r,n,a,b=>by
  unfold cellsFrom
  split
  ·exact uS r (n+1) ((x,n)::a) b
  ·exact uS r n a b
theorem cells_names:∀(names:List (Str×NameKind))(n:Nat)(acc:List (Str×Addr)){x:Str}{c:Addr},(x,c)∈cellsFrom n names acc->(x,NameKind.cell)∈names\/(x,c)∈acc
 | [],_,_,_,_,h=> .inr h
 | (y,k)::r,n,acc,x,c,h=>by
  unfold cellsFrom at h
  split at h
  ·rename_i hk;have hk':k= .cell:=eq_of_beq hk;subst hk';rcases cells_names r (n+1) _ h with z|z
   ·exact .inl (zjS _ z)
   ·rcases mem_cons.mp z with z|z
    ·cases z;exact .inl zjR
    ·exact .inr z
  ·rcases cells_names r n _ h with z|z
   ·exact .inl (zjS _ z)
   ·exact .inr z
structure A14 (names:List (Str×NameKind))(h:Heap)(lo:Nat)(cl cl':List (Str×Addr)):Prop where
 of:∀x c,cl'.lookup x=some c->cl.lookup x=some c\/(lo<=c/\h.IsCell c none)
 inj:∀x y c,lo<=c->(∀z d,cl.lookup z=some d->d<lo)->cl'.lookup x=some c->cl'.lookup y=some c->x=y
 old:∀x c,cl.lookup x=some c->(x,NameKind.cell)∉names->cl'.lookup x=some c
 own:∀x,names.lookup x=some .cell->∃c,cl'.lookup x=some c
 new:∀x c,names.lookup x=some .cell->cl'.lookup x=some c->lo<=c
theorem B2w (names:List (Str×NameKind))(h:Heap)(cl:List (Str×Addr)):A14 names (pushCells h names) h.objs.size cl (cellsFrom h.objs.size names cl):=by
 have e:cellsFrom h.objs.size names cl=cellsFrom h.objs.size names []++cl:=uS names _ [] cl;have ok:=cellsFrom_ok names h h.objs.size [] ⟨fun _ _ hm=>(nomatch hm),List.Pairwise.nil⟩ (zjQ _);have nm:∀{x c},(x,c)∈cellsFrom h.objs.size names []->(x,NameKind.cell)∈names:=fun hm=>(cells_names names _ [] hm).elim id fun z=>nomatch z;have sp:∀x c,(cellsFrom h.objs.size names cl).lookup x=some c->(x,c)∈cellsFrom h.objs.size names []\/cl.lookup x=some c:=fun x c hx=>by
  rw [e,lookup_append]at hx;cases h1:(cellsFrom h.objs.size names []).lookup x with
  |none=>rw [h1]at hx;exact .inr hx
  |some d=>rw [h1]at hx;cases hx;exact .inl (PySem.mem_of_lookup h1)
 refine⟨fun x c hx=> ?_,fun x y c hlo hcl hx hy=> ?_,fun x c hx hn=> ?_,fun x hx=> ?_,fun x c hx hc=> ?_⟩
 ·rcases sp x c hx with z|z
  ·exact .inr ⟨(ok.empty x c z).2,(ok.empty x c z).1⟩
  ·exact .inl z
 ·rcases sp x c hx with z|z
  ·rcases sp y c hy with z'|z'
   ·exact name_of_addr ok.apart z z'
   ·exact absurd (hcl _ _ z') (not_lt.mpr hlo)
  ·exact absurd (hcl _ _ z) (not_lt.mpr hlo)
 ·rw [e,lookup_append];cases h1:(cellsFrom h.objs.size names []).lookup x with
  |none=>exact hx
  |some d=>exact absurd (nm (PySem.mem_of_lookup h1)) hn
 ·exact Option.isSome_iff_exists.mp (W.cellsFrom_some names _ cl (.inl hx))
 ·obtain⟨d,hd⟩:=Option.isSome_iff_exists.mp (W.cellsFrom_some names h.objs.size [] (.inl hx));rw [e,lookup_append,hd]at hc;cases hc;exact(ok.empty x _ (PySem.mem_of_lookup hd)).2
theorem A5s
  (hQ:Q {scope,locals:=s.heap.objs.size,globals,cells:=cellsFrom (s.heap.objs.size+1) scope.names closure,qual,func:=none,code:=outer.code,frame:=outer.frame,builtins:=outer.builtins} {s with heap:=pushCells (s.heap.push {cls:=.type "dict",data:=.dict #[]}) scope.names}):
  wpAny M A (newFunctionEnv scope globals closure [] qual none .none (some outer)) Q E s:=by
 simp only [newFunctionEnv,Option.isSome_some,if_true];refine zjZ (wpAny_alloc ?_);refine zjZ (wpAny_layCells _ (fun name kind cells=>by cases hkc:kind==NameKind.cell<;>simp [hkc]) _ _ _ _ ?_);rw [show({s with heap:=s.heap.push {cls:=.type "dict",data:=.dict #[]}}:Shared).heap.objs.size=s.heap.objs.size+1 from size_push ..];exact zjZ (zjY (zjY hQ))
section
theorem A6o (I2:Inv X pins σ H2 s2)(hns:X.env.scope.names=ns)(hN:X.N=N)(hk:scope.kind= .function)(ok:jA ns N scope frees)(f2:∀b∈fp,fG X pins H2 b)(hlive:∀b∈fp,∃o,s2.heap.get? b=some o)
  (hc1:∀x c,cl.lookup x=some c->X.env.cells.lookup x=some c)(hc2:∀x,(x,NameKind.free)∈scope.names->∃c,cl.lookup x=some c)
  (O:A14 scope.names h4 (C+1) cl cl')(hC:C=s2.heap.objs.size+1)(hnsC:∃m,h4.Ns C m)(hacc:ObjOk X.prog X.w (upd H2 s2.heap.objs.size u) h4 s2.heap.objs.size u)
  (hkeep:∀b o,s2.heap.get? b=some o->h4.get? b=some o):
  Inv (cU X (loc++frees.map (·.1)) scope ⟨cl',C,s2,H2,fp,X.pn++pins⟩) [] (σC loc.length frees σ) (upd H2 s2.heap.objs.size u) {s2 with heap:=h4,toks:=tk}:=by
 have below:∀{b:Addr}{o:Obj},s2.heap.get? b=some o->b≠C:=fun{b o} e z=>by
  have:=zjT e;rw [z,hC]at this;exact lt_irrefl _ (lt_of_succ_lt this)
 have hl:H2 s2.heap.objs.size=none:=I2.hok.fresh (zjQ _);have hCn:H2 C=none:=I2.hok.fresh (by rw [hC];exact le_succ _);have cne:∀x c,X.env.cells.lookup x=some c->∃o v,s2.heap.get? c=some o/\o.data= .cell v:=fun x c e=>by
  obtain⟨v,o,ho,hd⟩:=I2.cell x c e;exact⟨o,v,ho,hd⟩
 obtain⟨mC,hmC⟩:=hnsC;have lt:∀x c,X.env.cells.lookup x=some c->c<s2.heap.objs.size:=fun x c e=>by
  obtain⟨o,v,ho,_⟩:=cne x c e;exact zjT ho
 have oc:∀x c,cl'.lookup x=some c->X.env.cells.lookup x=some c\/(s2.heap.objs.size+1<c/\h4.IsCell c none):=fun x c e=>by
  rcases O.of x c e with z| ⟨z,y⟩
  ·exact .inl (hc1 x c z)
  ·exact .inr ⟨by rw [hC]at z;exact z,y⟩
 have hCl:C≠s2.heap.objs.size:=by rw [hC];exact Nat.succ_ne_self _
 refine⟨⟨I2.ok.mod,hk,I2.ok.glob,I2.ok.blt,?_,fun x y c h1 h2=> ?_,fun x hx=> ?_,fun x c h hx=>le_of_lt (lt_of_lt_of_le (by show s2.heap.objs.size<C+1;rw [hC];exact lt_succ_of_lt (lt_succ_self _)) (O.new x c (eq_of_beq h) hx)),I2.ok.hd,I2.ok.frames,.inl rfl,fun b hb=> ⟨?_,fun x c e z=> ?_⟩,I2.bs,le_trans I2.ok.bsz I2.sz,fun b o e hb=> ?_,fun b hb hfs=> ?_,I2.stack,I2.stkFree⟩,
  rfl,I2.bare,?_,⟨mC,hmC,fun i x v h1 h2 h3=> ?_⟩,fun x c e=> ?_,?_,fun x c e=> ?_,fun p hp=> ?_,?_,?_⟩
 ·show s2.heap.objs.size<=C;rw [hC];exact le_succ _
 ·
  rcases oc x c h1 with z|z
  ·rcases oc y c h2 with z'|z'
   ·exact I2.ok.inj x y c z z'
   ·exact absurd (lt_trans (lt_succ_of_lt (lt x c z)) z'.1) (lt_irrefl _)
  ·exact O.inj x y c (by rw [hC];exact z.1) (fun z d e=>lt_trans (lt z d (hc1 z d e)) (by rw [hC];exact lt_succ_of_lt (lt_succ_self _))) h1 h2
 ·
  have hx':(relabel scope X.env).names.lookup x=some .cell\/(relabel scope X.env).names.lookup x=some .free:=hx;rcases relabel_back hx' with z|z
  ·by_cases hm:(x,NameKind.cell)∈scope.names
   ·exact O.own x ((ok.1 _ hm).1 rfl)
   ·obtain⟨c,hc⟩:=hc2 x z;exact⟨c,O.old x c hc hm⟩
  ·exact O.own x ((ok.1 _ z).1 rfl)
 ·obtain⟨o,ho⟩:=hlive b hb;exact below ho
 ·rcases oc x c e with y|y
  ·exact(f2 b hb).2.2.2.2.1 x c y z
  ·obtain⟨o,ho⟩:=hlive b hb;have:=zjT ho;have y1:=y.1;rw [z]at y1;exact Nat.lt_asymm this (lt_of_succ_lt y1)
 ·rcases(f2 b hb).2.2.2.1 with z|z
  ·exact I2.ok.noex b o e z
  ·exact absurd (lt_of_lt_of_le (zjT (I2.ok.bs b o e).1) z) (lt_irrefl _)
 ·rcases mem_cons.mp (I2.stkSub b hfs)with z|z
  ·exact(f2 b hb).2.1 z
  ·exact(f2 b hb).2.2.1 z
 ·exact Un.laid hkeep (zjQ _) hl
 ·
  have hi:¬i<loc.length:=fun hlt=>by
   unfold σC at h2;rw [List.getElem?_append_left (by simpa using hlt),List.getElem?_replicate]at h2;simp [hlt]at h2
  have h2':(frees[i - loc.length]?).map (fun p=>(σ[p.2]?).join)=some (some v):=by
   unfold σC at h2;rw [List.getElem?_append_right (by simpa using hi),List.length_replicate,getElem?_map]at h2;exact h2
  have h1':(frees[i - loc.length]?).map (·.1)=some x:=by
   have h1:(loc++frees.map (·.1))[i]?=some x:=h1;rw [List.getElem?_append_right (by omega),getElem?_map]at h1;exact h1
  cases ep:frees[i - loc.length]? with
  |none=>rw [ep]at h1';simp at h1'
  |some p=>
   rw [ep]at h1' h2';simp only [Option.map_some,Option.some.injEq]at h1' h2';obtain⟨q1,q2,q3⟩:=ok.2 p (mem_of_getElem? ep);have hσ:σ[p.2]?=some (some v):=by
    cases e:σ[p.2]? with
    |none=>rw [e]at h2';simp at h2'
    |some o=>rw [e]at h2';simp at h2';rw [h2']
   have vis:Vis X.env.scope p.1:=by
    show _\/_;rw [hns];rcases q3 with z|z
    ·exact .inr (.inl z)
    ·exact .inr (.inr z)
   obtain⟨m,hn,hlk⟩:=I2.loc;obtain⟨u,ru,lk⟩:=hlk p.2 p.1 v (by rw [hN];exact q1) hσ vis;refine⟨u,ru,.inr ?_⟩;rw [←h1'];rcases lk with⟨z,_⟩| ⟨_,c,ec,hcell⟩
   ·have z':X.env.scope.names.lookup p.1=some .local:=z;rw [hns]at z';rcases q3 with y|y<;>rw [z']at y<;>cases y
   ·obtain⟨c',hc'⟩:=hc2 p.1 (PySem.mem_of_lookup q2);have:c'=c:=by have:=hc1 _ _ hc';rw [ec]at this;exact(Option.some.inj this).symm
    subst this;refine⟨zR q2,c',O.old _ _ hc' (fun hm=>by have:=(ok.1 _ hm).1 rfl;rw [q2]at this;cases this),?_⟩;obtain⟨o,ho,hd⟩:=hcell;exact⟨o,hkeep _ _ ho,hd⟩
 ·rcases oc x c e with y|y
  ·obtain⟨o,v,ho,hd⟩:=cne x c y;exact⟨v,o,hkeep _ _ ho,hd⟩
  ·exact⟨none,y.2⟩
 ·show upd H2 _ _ C=none;rw [aV hCl];exact hCn
 ·rcases oc x c e with y|y
  ·have:c≠s2.heap.objs.size:=ne_of_lt (lt x c y);rw [aV this];exact I2.freeC x c y
  ·have h1:=y.1;rw [aV (fun e=>by rw [e]at h1;exact lt_irrefl _ (lt_of_succ_lt h1))];exact I2.hok.fresh (le_of_lt (lt_of_succ_lt h1))
 ·have hp':p∈X.pn++pins:=by
   rcases mem_append.mp hp with z|z
   ·exact z
   ·exact absurd z (by simp)
  obtain⟨e,n,ne,nf,d⟩:=I2.pin p hp';refine⟨hkeep _ _ e,?_,below e,fun z=> ?_,d⟩
  ·rw [aV (ne_of_lt (zjT e))];exact n
  ·rcases mem_cons.mp (I2.stkSub p.1 z)with y|y
   ·exact ne y
   ·exact nf y
 ·exact I2.hok.laid hkeep (zjQ _) hacc
 ·show(σC loc.length frees σ).length=(loc++frees.map (·.1)).length;unfold σC;simp
theorem A0j {σ':St}(I2:Inv X pins σ H2 s2)(f2:∀b∈fp,fG X pins H2 b)(hC:C=s2.heap.objs.size+1)
  (J:Inv (cU X N scope ⟨cl,C,s2,H2,fp,pl⟩) [] σ' H' s')(hs:Heap.SameBut C s'.heap h'):Inv X pins σ H' {s' with heap:=h'}:=by
 have I3:Inv X pins σ H' s':=I2.call' (ch:=fp) J.os J.base J.hok J.bare fun b hb=> ⟨(f2 b hb).2.2.2.1,(f2 b hb).2.1,(f2 b hb).2.2.2.2.1,(f2 b hb).2.2.2.2.2⟩;refine I3.turned (it:=C) (t':=s'.toks) (fun b o hb e=>(hs.2 b hb).trans e) J.free ?_ (.inr ?_) (fun x c e z=> ?_) fun p hp z=> ?_
 ·intro z;have:=I2.lt;rw [←z,hC]at this;exact lt_irrefl _ (lt_of_succ_lt this)
 ·rw [hC];exact le_trans I2.sz (le_succ _)
 ·obtain⟨v,q⟩:=I2.cell x c e;have:=q.lt;rw [z,hC]at this;exact lt_irrefl _ (lt_of_succ_lt this)
 ·have:=zjT (I2.pin p hp).1;rw [z,hC]at this;exact lt_irrefl _ (lt_of_succ_lt this)
end
section
theorem pG {e:Expr}{gs:List Comprehension}{g0:Comprehension}{wi:TI}{tg iter:Expr}{R:cQ->Addr->It->St->Hp->(Hp->Prop)->Prop}{use:Option (Value->Sem Unit)}{Q:Value->Shared->Prop}{newPos:Pos}{nac:Sem Value}{oa:Obj}{u:HO}
  (hna:∀(E:Value->Shared->Prop)(s:Shared)(Q:Value->Shared->Prop),Q (.ref s.heap.objs.size) {s with heap:=s.heap.push oa}->wpAny (model X.prog X.w) X.A nac Q E s)(hoa:oa.isFreed=false)(hou:∀(H:Hp)(h:Heap)(a:Addr),sysModules<a->h.get? a=some oa->ObjOk X.prog X.w H h a u)
  (hcl:clausesOf e=g0::gs)(hg0:g0.iter=iter)(hi:PI X tg iter wi)(hns:X.env.scope.names=ns)(hN:X.N=N)(hk:scope.kind= .function)(ok:jA ns N scope frees)
  (hs:∀x,foldedSetIterable iter X.env x=pure x){pins:List (Addr×Obj)}{s:Shared}{σ:St}{H:Hp}{QH:Addr->Hp->Prop}(I:Inv X pins σ H s)
  (h:wi σ H fun J H1=> ∀(Z:cQ)(l:Addr),H1 l=none->R Z l J (σC loc.length frees σ) (upd H1 l u) (QH l))
  (block:∀(Z:cQ)(l it:Addr)(fp:List Addr)(tn:Nat->Heap->Prop)(J:It)(H4:Hp)(s4:Shared)(σ4:St),Z.fp=fp->Inv (cU X (loc++frees.map (·.1)) scope Z) [] σ4 H4 s4->gE X.prog X.w X.K tg J fp it tn->tn 0 s4.heap->
   (∀b∈fp,fG (cU X (loc++frees.map (·.1)) scope Z) [] H4 b)->R Z l J σ4 H4 (QH l)->
   codeAny (model X.prog X.w) X.A (.compStart e 0 (.ref it) (.ref l) (compEnvC scope Z.cl Z.C X.env)) (fun r s'=>r= .ok .next/\∃σ' H',Inv (cU X (loc++frees.map (·.1)) scope Z) [] σ' H' s'/\QH l H') s4)
  (fin:∀(l C:Addr)(H':Hp)(s':Shared),(∃m,s'.heap.Ns C m)->Inv X pins σ H' s'->H' C=none->X.s₀.heap.objs.size<=C->C≠X.env.locals->(∀x c,X.env.cells.lookup x=some c->c≠C)->(∀h',Heap.SameBut C s'.heap h'->Inv X pins σ H' {s' with heap:=h'})->(∀p∈X.pn++pins,p.1≠C)->QH l H'->
   compPost (model X.prog X.w) X.A X.xe use Q (.ref l) C (.ok .next) s'):
  wpAny (model X.prog X.w) X.A (comprehension e scope X.env newPos nac false (eval iter X.env) use) Q X.xe s:=by
 obtain⟨cl,hclos,hc1,hc2⟩:=B0k (env:=X.env) (scope:=scope) fun x hx hf=>by
  refine I.ok.has x.1 ?_;have:=(ok.1 x hx).2.2 hf;rw [←hns]at this;exact this
 have hs':∀x,foldedSetIterable g0.iter X.env x=pure x:=by rw [hg0];exact hs
 refine wpAny_comprehension_free hcl hs' hclos hk (fun x hx hl=>(ok.1 x hx).2.1 hl) (thn (hi pins s σ H _ I h) fun v s1 h1=>thn h1 fun itv s2 h2=> ?_);obtain⟨it,fp,tn,J,H2,e2,I2,T,st2,f2,q2⟩:=h2;subst e2;refine hna _ _ _ (A5s ?_);have hsz:(s2.heap.push oa).objs.size=s2.heap.objs.size+1:=size_push ..;have keep:∀b o,s2.heap.get? b=some o->(pushCells ((s2.heap.push oa).push {cls:=.type "dict",data:=.dict #[]}) scope.names).get? b=some o:=fun b o e=>pushCells_keeps _ _ _ _ (zjX _ (zjX _ e));have hacc:(pushCells ((s2.heap.push oa).push {cls:=.type "dict",data:=.dict #[]}) scope.names).get? s2.heap.objs.size=some oa:=pushCells_keeps _ _ _ _ (zjX _ (get?_push_size _ hoa));have hns₁:∃m,(pushCells ((s2.heap.push oa).push {cls:=.type "dict",data:=.dict #[]}) scope.names).Ns (s2.heap.push oa).objs.size m:=⟨_,(Heap.Ns.new (s2.heap.push oa) (.type "dict")).keeps (pushCells_keeps _ _)⟩;have O:=B2w scope.names ((s2.heap.push oa).push {cls:=.type "dict",data:=.dict #[]}) cl;rw [size_push]at O;dsimp only
 generalize hcl':cellsFrom ((s2.heap.push oa).objs.size+1) scope.names cl=cl' at O⊢;generalize hh₁:pushCells ((s2.heap.push oa).push {cls:=.type "dict",data:=.dict #[]}) scope.names=h₁ at keep hacc hns₁ O⊢;generalize hCeq:(s2.heap.push oa).objs.size=C at hns₁ hsz O⊢;have live:∀b∈fp,∃o,s2.heap.get? b=some o:=fun b hb=>let ⟨o,ho,_⟩:=T.obj _ _ st2 b hb;⟨o,ho⟩;have J0:=A6o (scope:=scope) (loc:=loc) (frees:=frees) (tk:=s2.toks) I2 hns hN hk ok f2 live hc1 hc2 O hsz hns₁ (hou _ _ _ I2.big hacc) keep;have hln:H2 s2.heap.objs.size=none:=I2.hok.fresh (zjQ _);have B:=block ⟨cl',C,s2,H2,fp,X.pn++pins⟩ s2.heap.objs.size it fp tn J _ _ _ rfl J0 T (T.keep _ _ _ st2 fun b _ o e=>keep b o e) (fun b hb=>by
  obtain⟨o,ho⟩:=live b hb;obtain⟨z0,z1,z2,z3,z4,z5⟩:=f2 b hb;refine⟨?_,?_,fun z=> ?_,.inl hb,fun x c e=> ?_,fun p hp=>z5 p ?_⟩
  ·rw [aV (ne_of_lt (zjT ho))];exact z0
  ·show b≠C;rw [hsz];exact ne_of_lt (lt_succ_of_lt (zjT ho))
  ·rcases mem_cons.mp (I2.stkSub b z)with y|y
   ·exact z1 y
   ·exact z2 y
  ·rcases O.of x c e with y| ⟨y,_⟩
   ·exact z4 x c (hc1 x c y)
   ·have:=zjT ho;intro z;have z':c=b:=z;rw [z',hsz]at y;exact Nat.lt_asymm this (lt_of_succ_lt y)
  ·rcases mem_append.mp hp with y|y
   ·exact y
   ·exact absurd y (by simp)) (q2 _ _ hln)
 refine codeAny_mono B fun r s' hr=> ?_;obtain⟨rfl,σ',H',J',q'⟩:=hr;obtain⟨m',hm',_⟩:=J'.loc;have hCl:C≠X.env.locals:=fun z=>by
  have:=I2.lt;rw [←z,hsz]at this;exact lt_irrefl _ (lt_of_succ_lt this)
 have hCc:∀x c,X.env.cells.lookup x=some c->c≠C:=fun x c e z=>by
  obtain⟨v,q⟩:=I2.cell x c e;have:=q.lt;rw [z,hsz]at this;exact lt_irrefl _ (lt_of_succ_lt this)
 have hCp:∀p∈X.pn++pins,p.1≠C:=fun p hp z=>by
  have:=zjT (I2.pin p hp).1;rw [z,hsz]at this;exact lt_irrefl _ (lt_of_succ_lt this)
 exact fin s2.heap.objs.size C H' s' ⟨m',hm'⟩ (by have:=A0j I2 f2 hsz J' (Heap.SameBut.refl C s'.heap);exact this) J'.free (by rw [hsz];exact le_trans I2.sz (le_succ _)) hCl hCc (fun h' hs=>A0j I2 f2 hsz J' hs) hCp q'
theorem bM {elt tg iter:Expr}{ifs:List Expr}{wi:TI}{g:cQ->TG}{tt:cQ->TT}{te:cQ->TE}(ns:List (Str×NameKind))(N:List Str)(loc:List Str)(frees:List (Str×Nat))(hc:X.calm=true)(hi:PI X tg iter wi)
  (hns:X.env.scope.names=ns)(hN:X.N=N)(hk:scope.kind= .function)(ok:jA ns N scope frees)
  (hg:∀Z,PG (cU X (loc++frees.map (·.1)) scope Z) tg (g Z))(ht:∀Z,PTs (cU X (loc++frees.map (·.1)) scope Z) ifs (tt Z))(he:∀Z,PE (cU X (loc++frees.map (·.1)) scope Z) elt (te Z))
  (hs:∀x,foldedSetIterable iter X.env x=pure x:=by intro _;rfl):PE X (.ListComp elt [⟨tg,iter,ifs,0⟩] scope pos) (A1p wi g tt te loc.length frees):=by
 intro pins s σ H Q I h;rw [eval_ListComp];refine pG (nac:=newList []) (oa:={cls:=.type "list",dict:=none,data:=.seq ([]:List Value).toArray}) (u:=.lst []) (fun E s Q h=>wpAny_newObj_type h) rfl (fun H h a _ e=> ⟨by simp,[],_,.nil,e⟩) (e:=.ListComp elt [⟨tg,iter,ifs,0⟩] scope pos) (g0:=⟨tg,iter,ifs,0⟩) (gs:=[]) (tg:=tg) (iter:=iter) (loc:=loc) (R:=fun Z l J σ H QH=>cX J (g Z) (cI (tt Z) (fA l (te Z))) (eC fun _ H'=>QH H') σ H) (use:=none) (QH:=fun l H'=>Q (.ref l) H') rfl rfl hi hns hN hk ok hs I h ?_ ?_
 ·intro Z l it fp tn J H4 s4 σ4 hfp I4 T st4 f4 q4;have L:=pD (Y:=cU X (loc++frees.map (·.1)) scope Z) rfl hc (zD elt tg iter ifs scope pos (.ref it) (.ref l) _) (hg Z) (ht Z) (tK rfl (he Z)) I4 T st4 f4 q4;refine codeAny_mono (codeAny_compStart_list L (T.self _ _ _ _ _ st4 L)) fun r s' hr=> ?_;exact hr
 ·intro l C H' s' hm J' hn h1 h2 h3 h4 _ q';obtain⟨m,hm⟩:=hm;exact⟨m,hm,fun h' hs'=> ⟨.ref l,H',h4 h' hs',rfl,q'⟩⟩
theorem wB {kx vx tg iter:Expr}{ifs:List Expr}{wi:TI}{g:cQ->TG}{tt:cQ->TT}{tk tv:cQ->TE}(ns:List (Str×NameKind))(N:List Str)(loc:List Str)(frees:List (Str×Nat))(hc:X.calm=true)(hi:PI X tg iter wi)
  (hns:X.env.scope.names=ns)(hN:X.N=N)(hk:scope.kind= .function)(ok:jA ns N scope frees)
  (hg:∀Z,PG (cU X (loc++frees.map (·.1)) scope Z) tg (g Z))(ht:∀Z,PTs (cU X (loc++frees.map (·.1)) scope Z) ifs (tt Z))(hu:X.A.units<cLine)(he:∀Z,PE (cU X (loc++frees.map (·.1)) scope Z) kx (tk Z))(hv:∀Z,PE (cU X (loc++frees.map (·.1)) scope Z) vx (tv Z))
  (hs:∀x,foldedSetIterable iter X.env x=pure x:=by intro _;rfl):PE X (.DictComp kx vx [⟨tg,iter,ifs,0⟩] scope pos) (B0y wi g tt tk tv loc.length frees):=by
 intro pins s σ H Q I h;rw [arm_eval_DictComp];refine pG (nac:=newDict) (oa:={cls:=.type "dict",data:=.dict #[]}) (u:=.dK []) (fun E s Q h=>wpAny_newObj_type h) rfl (fun H h a hb e=> ⟨zero_le _,beq_eq_false_iff_ne.mpr (Ne.symm (ne_of_lt hb)),[],.nil,_,#[],0,e,⟨rfl,rfl,rfl⟩,rfl,(fun e he=>by simp at he),.nil,nodup_nil⟩) (e:=.DictComp kx vx [⟨tg,iter,ifs,0⟩] scope pos) (g0:=⟨tg,iter,ifs,0⟩) (gs:=[]) (tg:=tg) (iter:=iter) (loc:=loc) (R:=fun Z l J σ H QH=>cX J (g Z) (cI (tt Z) (tE l (tk Z) (tv Z))) (eC fun _ H'=>QH H') σ H) (use:=none) (QH:=fun l H'=>Q (.ref l) H') rfl rfl hi hns hN hk ok hs I h ?_ ?_
 ·intro Z l it fp tn J H4 s4 σ4 hfp I4 T st4 f4 q4;have L:=A82 (Y:=cU X (loc++frees.map (·.1)) scope Z) rfl hc (A7u kx vx tg iter ifs scope pos (.ref it) (.ref l) _) (hg Z) (ht Z) (A3z rfl hu (he Z) (hv Z)) I4 T st4 f4 q4;refine codeAny_mono (codeAny_compStart_dict L (T.self _ _ _ _ _ st4 L)) fun r s' hr=> ?_;exact hr
 ·intro l C H' s' hm J' hn h1 h2 h3 h4 _ q';obtain⟨m,hm⟩:=hm;exact⟨m,hm,fun h' hs'=> ⟨.ref l,H',h4 h' hs',rfl,q'⟩⟩
end
section
theorem wT (ns:List (Str×NameKind))(N:List Str)(loc:List Str)(frees:List (Str×Nat))(hc:X.calm=true)(hi:PI X tg iter wi)
  (hns:X.env.scope.names=ns)(hN:X.N=N)(hk:scope.kind= .function)(ok:jA ns N scope frees)
  (hg:∀Z,PG (cU X (loc++frees.map (·.1)) scope Z) tg (g Z))(ht:∀Z,PTs (cU X (loc++frees.map (·.1)) scope Z) ifs (tt Z))
  (hi2:∀Z,PI (cU X (loc++frees.map (·.1)) scope Z) tg2 iter2 (wi2 Z))(hg2:∀Z,PG (cU X (loc++frees.map (·.1)) scope Z) tg2 (g2 Z))(ht2:∀Z,PTs (cU X (loc++frees.map (·.1)) scope Z) ifs2 (tt2 Z))
  (he:∀Z,PE (cU X (loc++frees.map (·.1)) scope Z) elt (te Z))
  (hs:∀x,foldedSetIterable iter X.env x=pure x:=by intro _;rfl)(hs2:∀(Z:cQ) x,foldedSetIterable iter2 (cU X (loc++frees.map (·.1)) scope Z).env x=pure x:=by intro _ _;rfl):
  PE X (.ListComp elt [⟨tg,iter,ifs,0⟩,⟨tg2,iter2,ifs2,0⟩] scope pos) (A8u wi g tt wi2 g2 tt2 te loc.length frees):=by
 intro pins s σ H Q I h;rw [eval_ListComp];refine pG (nac:=newList []) (oa:={cls:=.type "list",dict:=none,data:=.seq ([]:List Value).toArray}) (u:=.lst []) (fun E s Q h=>wpAny_newObj_type h) rfl (fun H h a _ e=> ⟨by simp,[],_,.nil,e⟩) (e:=.ListComp elt [⟨tg,iter,ifs,0⟩,⟨tg2,iter2,ifs2,0⟩] scope pos) (g0:=⟨tg,iter,ifs,0⟩) (gs:=[⟨tg2,iter2,ifs2,0⟩]) (tg:=tg) (iter:=iter) (loc:=loc) (R:=fun Z l J σ H QH=>cX J (g Z) (cI (tt Z) (pM (wi2 Z) (g2 Z) (tt2 Z) (fA l (te Z)))) (eC fun _ H'=>QH H') σ H) (use:=none) (QH:=fun l H'=>Q (.ref l) H') rfl rfl hi hns hN hk ok hs I h ?_ ?_
 ·intro Z l it fp tn J H4 s4 σ4 hfp I4 T st4 f4 q4;have L:=pD (Y:=cU X (loc++frees.map (·.1)) scope Z) rfl hc (A6m elt tg iter tg2 iter2 ifs ifs2 scope pos (.ref it) (.ref l) _) (hg Z) (ht Z) (A7j rfl hc (hi2 Z) (hg2 Z) (ht2 Z) (he Z) (hs2 Z)) I4 T st4 f4 q4;refine codeAny_mono (codeAny_compStart_list L (T.self _ _ _ _ _ st4 L)) fun r s' hr=> ?_;exact hr
 ·intro l C H' s' hm J' hn h1 h2 h3 h4 _ q';obtain⟨m,hm⟩:=hm;exact⟨m,hm,fun h' hs'=> ⟨.ref l,H',h4 h' hs',rfl,q'⟩⟩
theorem A2a (ns:List (Str×NameKind))(N:List Str)(loc:List Str)(frees:List (Str×Nat))(hc:X.calm=true)(hND:X.N.Nodup)(hix:X.N[i]?=some x)(hxl:X.env.scope.names.lookup x=some .local)(hi:PI X tg iter wi)
  (hns:X.env.scope.names=ns)(hN:X.N=N)(hk:scope.kind= .function)(ok:jA ns N scope frees)
  (hg:∀Z,PG (cU X (loc++frees.map (·.1)) scope Z) tg (g Z))(ht:∀Z,PTs (cU X (loc++frees.map (·.1)) scope Z) ifs (tt Z))(he:∀Z,PE (cU X (loc++frees.map (·.1)) scope Z) elt (te Z))
  (hsw:swapsWith (.ListComp elt [⟨tg,iter,ifs,0⟩] scope pos) (some (.Name x pos')) apos.line X.env=pure true:=by rfl)
  (hs:∀x,foldedSetIterable iter X.env x=pure x:=by intro _;rfl):PS X (.Assign [.Name x pos'] (.ListComp elt [⟨tg,iter,ifs,0⟩] scope pos) apos) (iE (A1p wi g tt te loc.length frees) (dD i)):=by
 intro pins s σ H D I h;rw [exec_Assign_Name_used _ _ _ _ hsw];refine zjZ (wpAny_standAt (zjZ ?_))
 show wpAny _ X.A (do let _←comprehension (.ListComp elt [⟨tg,iter,ifs,0⟩] scope pos) scope X.env _ (newList []) false (eval iter X.env) (some (assign (.Name x pos') X.env))) _ _ s;refine zjZ ?_;have key:=pG (X:=X) (nac:=newList []) (oa:={cls:=.type "list",dict:=none,data:=.seq ([]:List Value).toArray}) (u:=.lst []) (fun E s Q h=>wpAny_newObj_type h) rfl (fun H h a _ e=> ⟨by simp,[],_,.nil,e⟩) (e:=.ListComp elt [⟨tg,iter,ifs,0⟩] scope pos) (g0:=⟨tg,iter,ifs,0⟩) (gs:=[]) (tg:=tg) (iter:=iter) (newPos:=firstIterPos [⟨tg,iter,ifs,0⟩] pos) (loc:=loc) (R:=fun Z l J σ H QH=>cX J (g Z) (cI (tt Z) (fA l (te Z))) (eC fun _ H'=>QH H') σ H) (use:=some (assign (.Name x pos') X.env)) (QH:=fun l H'=>D.nx (σ.set i (some (.ref l))) H') (Q:=fun _ s'=>SP X pins D .next s') rfl rfl hi hns hN hk ok hs I h ?_ ?_
 ·exact thn key fun _ s' hq=>zjY (zjY hq)
 ·intro Z l it fp tn J H4 s4 σ4 hfp I4 T st4 f4 q4;have L:=pD (Y:=cU X (loc++frees.map (·.1)) scope Z) rfl hc (zD elt tg iter ifs scope pos (.ref it) (.ref l) _) (hg Z) (ht Z) (tK rfl (he Z)) I4 T st4 f4 q4;refine codeAny_mono (codeAny_compStart_list L (T.self _ _ _ _ _ st4 L)) fun r s' hr=> ?_;exact hr
 ·intro l C H' s' hm J' hn h1 h2 h3 h4 h5 q';obtain⟨m,hm⟩:=hm;show wpAny _ X.A (assign (.Name x pos') X.env (.ref l)) _ _ _;refine wpAny_assign_Name (xP J' hND hix (.inl hxl) (v:=.ref l) rfl (fun s'' I'' hsb=> ?_) (.inr hxl));obtain⟨a,hsb,ha⟩:=hsb;have haC:C≠a:=by
   rcases ha with z|z
   ·rw [z];exact h2
   ·exact fun y=>h3 x a z y.symm
  refine⟨m,hm.sameBut hsb haC,fun h' hs'=> ⟨_,H',?_,q'⟩⟩;exact I''.turned (it:=C) (t':=s''.toks) (fun b o hb e=>(hs'.2 b hb).trans e) hn h2 (.inr h1) h3 h5
end
end L2
namespace M10
open PySem L2 PyProof.Rows
def top (i:Nat):Stmt:=PySem.Challenge.pw_meadshares_k10_lacks.main.body.getD i (.Pass ⟨0,0,0,0⟩)
abbrev vY:Stmt:=top 8
abbrev xK:Stmt:=top 9
abbrev A08:Stmt:=top 10
abbrev rG:Stmt:=top 11
abbrev kG:Stmt:=top 12
abbrev qS:Stmt:=top 13
abbrev sE:Stmt:=top 20
abbrev A1l:Stmt:=top 21
abbrev oB:Stmt:=top 22
abbrev wG:Stmt:=top 23
abbrev A1m:Stmt:=top 24
abbrev rC:Stmt:=top 25
abbrev zO:Stmt:=top 26
abbrev tT:Stmt:=top 27
abbrev A0r:Stmt:=top 28
abbrev vK:Stmt:=top 29
abbrev sJ:Stmt:=top 30
abbrev tP:Stmt:=top 31
abbrev A1h:Stmt:=top 32
abbrev wX:Stmt:=top 33
abbrev vC:Stmt:=top 41
abbrev nJ:Stmt:=top 42
abbrev wP:Stmt:=top 43
abbrev qX:Stmt:=top 44
abbrev A0t:Stmt:=top 45
abbrev qM:Stmt:=top 46
abbrev A0v:Stmt:=top 47
abbrev mI:Stmt:=top 48
abbrev xD:Stmt:=top 49
abbrev A1x:Stmt:=top 50
abbrev rH:Stmt:=top 52
abbrev oN:Stmt:=top 53
abbrev yU:Stmt:=top 54
abbrev sF:Stmt:=top 55
abbrev tL:Stmt:=top 56
abbrev wN:Stmt:=top 59
abbrev A3f:Stmt:=top 60
abbrev wO:Stmt:=top 61
abbrev yS:Stmt:=top 62
abbrev A1g:Stmt:=top 63
abbrev zN:Stmt:=top 64
abbrev sV:Stmt:=top 65
abbrev qR:Stmt:=top 66
abbrev oF:Stmt:=top 67
abbrev oW:Stmt:=top 69
abbrev sM:Stmt:=top 70
abbrev tG:Stmt:=top 71
abbrev sY:Stmt:=top 72
abbrev xJ:Stmt:=top 73
abbrev A0d:Stmt:=top 74
abbrev A1a:Stmt:=top 76
abbrev A1w:Stmt:=top 77
abbrev vM:Stmt:=top 78
abbrev wV:Stmt:=top 79
abbrev kW:Stmt:=top 80
abbrev gY:Stmt:=top 81
abbrev A2n:Stmt:=top 82
abbrev wL:Stmt:=top 83
abbrev lI:Stmt:=top 84
abbrev qN:Stmt:=top 85
abbrev oA:Stmt:=top 86
abbrev A18:Stmt:=top 87
abbrev qG:Stmt:=top 88
abbrev zS:Stmt:=top 89
abbrev A1z:Stmt:=top 90
abbrev pC:Stmt:=top 91
abbrev uJ:Stmt:=top 92
abbrev rP:Stmt:=top 93
abbrev yO:Stmt:=top 94
abbrev qO:Stmt:=top 95
abbrev wE:Stmt:=top 96
abbrev sP:Stmt:=top 97
abbrev vH:Stmt:=top 98
abbrev nK:Stmt:=top 99
abbrev A1q:Stmt:=top 100
abbrev vG:Stmt:=top 101
abbrev iJ:Stmt:=top 102
abbrev pY:Stmt:=top 103
abbrev jT:Stmt:=top 104
structure Txt (mg:Str->Option Value):Prop where
 isinstance:mg "isinstance" =none
 int:mg "int" =none
 bool:mg "bool" =none
 tuple:mg "tuple" =none
 len:mg "len" =none
 all:mg "all" =none
 enumerate:mg "enumerate" =none
 rows:∃t,mg "MOST_ROWS" =some (.int 4 t)
 cols:∃t,mg "MOST_COLUMNS" =some (.int 6 t)
 cells:∃t,mg "MOST_CELLS" =some (.int 10 t)
 worth:∃t,mg "MOST_WORTH" =some (.int 99 t)
 water:∃t,mg "WATER" =some (.int (-2) t)
def oT:Sp:=fun vs H Q _=> ∃v,vs=[v]/\Kn H 1 v/\Q (.bl (isInt v)) H
def mF:Sp:=fun vs H Q _=> ∃v lo hi,vs=[v,.int lo,.int hi]/\Kn H 1 v/\Q (.bl (cS lo hi v)) H
def dX (H:Hp)(lo hi:Int)(v:V):Bool:=match tupOf H v with|some xs=>decide (lo<=xs.length)&&decide ((xs.length:Int)<=hi)|none=>false
def iW:Sp:=fun vs H Q _=> ∃v lo hi,vs=[v,.int lo,.int hi]/\Kn H 1 v/\Q (.bl (dX H lo hi v)) H
section
variable {P:Program}{w:World}{K:W.Frag}{mg:Str->Option Value}{base:Heap}
theorem A76 (F:D1 K mg "is_number" vY ["thing"])(T:Txt mg):A1 P w K mg base 1 "is_number" oT:=by
 refine F.k ["thing"] ?_;ac_nf
 ·obtain⟨v,rfl,k,q⟩:=h;refine⟨_,aR (aY (fP (bE fZ rfl T.isinstance boot_isinstance (bC (pv 0) (bC (eO (v:=.ty "int") rfl T.int boot_int rfl) aA)))
   (fO (A0g (bE fZ rfl T.isinstance boot_isinstance (bC (pv 0) (bC (eO (v:=.ty "bool") rfl T.bool boot_bool rfl) aA))))))),?_⟩
  obtain⟨t,ty,k1,k2,_⟩:=kM (K:=K) k;refine⟨_,rfl,_,"int",t,_,rfl,ty,k1,_,rfl,cF (fun e=> ?_) fun e=> ?_⟩
  ·refine⟨_,rfl,_,"bool",t,_,rfl,ty,k2,_,rfl,?_⟩;have:(!vF v)=isInt v:=by cases v<;>first|rfl|cases e
   rw [this];exact q
  ·have:isInt v=false:=(Bool.or_eq_false_iff.mp e).1;rw [this]at q;exact q
theorem A43 (F:D1 K mg "is_number_within" xK ["thing","least","most"])(a1:A1 P w K mg base 1 "is_number" oT):A1 P w K mg base 2 "is_number_within" mF:=by
 refine F.k ["thing","least","most"] ?_;ac_nf
 ·obtain⟨v,lo,hi,rfl,k,q⟩:=h;refine⟨_,aR (aY (fP (a1.c hr (bC (pv 0) aA)) (fO (nQ iI iI (pv 1) (pv 0) (pv 2))))),?_⟩;refine⟨_,rfl,v,rfl,k,_,rfl,cF (fun e=> ?_) fun e=> ?_⟩
  ·cases v with
   |int i=>
    refine⟨_,rfl,_,rfl,_,_,rfl,rfl,_,rfl,fI (fun h1=> ?_) fun h1=> ?_⟩
    ·refine⟨_,rfl,_,_,rfl,rfl,?_⟩;have:cS lo hi (.int i)=decide (i<=hi):=by simp [cS,h1]
     rw [this]at q;exact q
    ·have:cS lo hi (.int i)=false:=by simp [cS,h1]
     rw [this]at q;exact q
   |_=>cases e
  ·have:cS lo hi v=false:=by cases v<;>first|rfl|cases e
   rw [this]at q;exact q
theorem B3q (F:D1 K mg "is_tuple_within" A08 ["thing","least","most"])(T:Txt mg):A1 P w K mg base 1 "is_tuple_within" iW:=by
 refine F.k ["thing","least","most"] ?_;ac_nf
 ·obtain⟨v,lo,hi,rfl,k,q⟩:=h;refine⟨_,aR (aY (fP (bE fZ rfl T.isinstance boot_isinstance (bC (pv 0) (bC (eO (v:=.ty "tuple") rfl T.tuple boot_tuple rfl) aA)))
   (fO (nQ iI iI (pv 1) (bE dM rfl T.len PySem.boot_len (bC (pv 0) aA)) (pv 2))))),?_⟩
  obtain⟨t,ty,_,_,k3⟩:=kM (K:=K) k;refine⟨_,rfl,_,"tuple",t,_,rfl,ty,k3,_,rfl,cF (fun e=> ?_) fun e=> ?_⟩
  ·obtain⟨xs,ex⟩:=Option.isSome_iff_exists.mp e;obtain⟨a,rfl,ha⟩:=eZ ex;refine⟨_,rfl,_,rfl,a,xs,rfl,.inr (SqT.of ha),_,_,rfl,rfl,_,rfl,fI (fun h1=> ?_) fun h1=> ?_⟩
   ·refine⟨_,rfl,_,_,rfl,rfl,?_⟩;have:dX H lo hi (.ref a)=decide ((xs.length:Int)<=hi):=by simp [dX,ex,h1]
    rw [this]at q;exact q
   ·have:dX H lo hi (.ref a)=false:=by simp [dX,ex,h1]
    rw [this]at q;exact q
  ·have:dX H lo hi v=false:=by
    unfold dX;cases z:tupOf H v with
    |none=>rfl
    |some xs=>rw [z]at e;cases e
   rw [this]at q;exact q
end
theorem nd4:(["at","row","k","mark"]:List Str).Nodup:=by decide +kernel
end M10
namespace L2
open PySem PySem.Spec PyProof.Rows
section
end
theorem FnOk.never {P:Program}{w:World}{K:W.Frag}{mg:Str->Option Value}{base:Heap}{CX:CXT}{k:Nat}{f:Addr}{fd:FuncData}{ps:List Str}:FnOk P w K mg base CX k f fd ps (fun _ _ _ _=>False):=
 ⟨fun _ _ _ _ h=>h.elim,fun _ _ _ _ _ _ _ _ _ _ _ _ _ h=>h.elim⟩
section
theorem cN (he:PE X (.Constant c j pos) te)(hr:PA X es t):PA X (.Constant c j pos::es) (bY te t):=bC he hr rfl
theorem aB (he:PE X (.Name x pos) te)(hr:PA X es t):PA X (.Name x pos::es) (bY te t):=bC he hr rfl
theorem eU (he:PE X (.BinOp a o b pos) te)(hr:PA X es t):PA X (.BinOp a o b pos::es) (bY te t):=bC he hr rfl
theorem A37 (he:PE X (.UnaryOp o b pos) te)(hr:PA X es t):PA X (.UnaryOp o b pos::es) (bY te t):=bC he hr rfl
theorem bV (he:PE X (.Call f a k pos) te)(hr:PA X es t):PA X (.Call f a k pos::es) (bY te t):=bC he hr rfl
theorem gW (he:PE X (.Tuple a k pos) te)(hr:PA X es t):PA X (.Tuple a k pos::es) (bY te t):=bC he hr rfl
theorem sR (he:PE X (.List a pos) te)(hr:PA X es t):PA X (.List a pos::es) (bY te t):=bC he hr rfl
theorem dZ (he:PE X (.Subscript a b pos) te)(hr:PA X es t):PA X (.Subscript a b pos::es) (bY te t):=bC he hr rfl
theorem vP (he:PE X (.Compare a b c pos) te)(hr:PA X es t):PA X (.Compare a b c pos::es) (bY te t):=bC he hr rfl
theorem A9v (he:PE X (.Dict a b pos) te)(hr:PA X es t):PA X (.Dict a b pos::es) (bY te t):=bC he hr rfl
theorem cJ (he:PE X (.ListComp a b c pos) te)(hr:PA X es t):PA X (.ListComp a b c pos::es) (bY te t):=bC he hr rfl
end
@[irreducible] def PAq (X:Cx)(es:List Expr)(t:TA):Prop:=PA X es t
section
theorem jQ (h:PAq X es t):PA X es t:=by unfold PAq at h;exact h
theorem bH:PAq X [] iR:=by unfold PAq;exact aA
theorem uY (hr:PAq X es t):PAq X (.Constant (.str x) j pos::es) (bY (tC (.str x)) t):=by unfold PAq at*;exact cN A98 hr
theorem bI (hr:PAq X es t):PAq X (.Constant (.int i) j pos::es) (bY (tC (.int i)) t):=by unfold PAq at*;exact cN aM hr
theorem lZ (hr:PAq X es t):PAq X (.Constant (.bool b) j pos::es) (bY (tC (.bl b)) t):=by unfold PAq at*;exact cN cZ hr
theorem A0c (hr:PAq X es t):PAq X (.Constant .none j pos::es) (bY (tC .non) t):=by unfold PAq at*;exact cN pR hr
theorem eT (he:PE X (.BinOp a o b pos) te)(hr:PAq X es t):PAq X (.BinOp a o b pos::es) (bY te t):=by unfold PAq at*;exact eU he hr
theorem mM (he:PE X (.UnaryOp o b pos) te)(hr:PAq X es t):PAq X (.UnaryOp o b pos::es) (bY te t):=by unfold PAq at*;exact A37 he hr
theorem mK (he:PE X (.Call f a k pos) te)(hr:PAq X es t):PAq X (.Call f a k pos::es) (bY te t):=by unfold PAq at*;exact bV he hr
end
@[irreducible] def nL (X:Cx)(st:List Stmt)(t:TS):Prop:=PSs X st t
section
end
@[irreducible] def PEq (X:Cx)(e:Expr)(t:TE):Prop:=PE X e t
@[irreducible] def PSq (X:Cx)(st:Stmt)(t:TS):Prop:=PS X st t
section
theorem uM {st:Stmt}{rest:List Stmt}{t u:TS}(h1:PSq X st t)(h2:PSs X rest u):PSs X (st::rest) (mQ t u):=by unfold PSq at h1;exact aU h1 h2
end
section
theorem tupq (h:PAq X es t):PEq X (.Tuple es k p1) (mD t):=by unfold PEq;exact cD (jQ h)
theorem lstq (h:PAq X es t):PEq X (.List es p1) (mL t):=by unfold PEq;exact dR (jQ h)
theorem cR (he:PEq X (.Tuple a k pos) te)(hr:PAq X es t):PAq X (.Tuple a k pos::es) (bY te t):=by unfold PEq at he;unfold PAq at*;exact gW he hr
theorem fJ (he:PEq X (.List a pos) te)(hr:PAq X es t):PAq X (.List a pos::es) (bY te t):=by unfold PEq at he;unfold PAq at*;exact sR he hr
theorem B39 (h:PEq X e te):nL X [.Return (some e) p3] (nF te):=by unfold PEq at h;unfold nL;exact aR (aY h)
theorem B2c {st:Stmt}{rest:List Stmt}{t u:TS}(h1:PS X st t)(h2:nL X rest u):PSs X (st::rest) (mQ t u):=by unfold nL at h2;exact aU h1 h2
end
theorem Ext.updL (h:H l=some (.lst xs)):Ext H (upd H l (.lst ys))where
 tup:=fun a zs e=>by rw [aV (qW e h (by simp))];exact e
 lst:=fun a zs e=>by
  by_cases ha:a=l
  ·exact⟨ys,by rw [ha,aD]⟩
  ·exact⟨zs,by rw [aV ha];exact e⟩
 dct:=fun a zs e=>by rw [aV (qW e h (by simp))];exact e
theorem Stp.updL (s:Stp p H H1)(hl:H l=none)(hp:PenAt H p):Stp p H (upd H1 l (.lst ys)):=by obtain⟨x,f,e⟩:=hp;have hne:p≠l:=bL e hl;obtain⟨x',f',e'⟩:=s.pen;exact⟨⟨x',f',by rw [aV hne];exact e'⟩,fun b o hb h=>by rw [aV (bL h hl)];exact s.keep b o hb h⟩
end L2
namespace Grd
abbrev bF:=List (List Int)
def pos (n:Int):Bool:=decide (0<=n)
def road (n:Int):Bool:=decide (n= -1)
def eM (f:Int->Bool)(r:Int)(xs:List Int):List (Int×Int):=xs.zipIdx.filterMap fun q=>if f q.1 then some (r,(q.2:Int))else none
def bA (f:Int->Bool)(g:bF):List (Int×Int):=(g.zipIdx.map fun p=>eM f p.2 p.1).flatten
def atG (g:bF)(c:Int×Int):Int:=(g.getD c.1.toNat []).getD c.2.toNat 0
def iY (xs:List Int):Int:=(xs.map fun n=>if n>0 then n else 0).sum
def bP (g:bF):Int:=(g.map iY).sum
def eW (xs:List Int):Nat:=(xs.filter pos).length
def dG (g:bF):Nat:=(g.map eW).sum
structure dO (g:bF)(w:Nat):Prop where
 h1:1<=g.length
 h4:g.length<=4
 w1:1<=w
 w5:w<=5
 len:∀xs∈g,xs.length=w
 num:∀xs∈g,∀n∈xs,-2<=n/\n<=99
 c1:1<=dG g
 c10:dG g<=10
theorem yV (xs:List α)(i:Nat)(x:α)(h:xs[i]?=some x):(xs.take (i+1)).zipIdx=(xs.take i).zipIdx++[(x,i)]:=by have hlt:i<xs.length:=(zjW.mp h).1;rw [take_succ,h,List.zipIdx_append];simp;omega
theorem rowF_succ (f:Int->Bool)(r:Int)(xs:List Int)(i:Nat)(x:Int)(h:xs[i]?=some x):eM f r (xs.take (i+1))=eM f r (xs.take i)++if f x then [(r,(i:Int))]else []:=by
 unfold eM;rw [yV xs i x h,List.filterMap_append]
 congr 1
 cases hf:f x<;>simp [hf]
theorem gridF_succ (f:Int->Bool)(g:bF)(i:Nat)(xs:List Int)(h:g[i]?=some xs):bA f (g.take (i+1))=bA f (g.take i)++eM f i xs:=by unfold bA;rw [yV g i xs h,map_append,List.flatten_append];simp
theorem A9a (xs:List Int)(x:Int):eW (xs++[x])=eW xs+if pos x then 1 else 0:=by unfold eW;rw [filter_append,length_append];cases hp:pos x<;>simp [hp]
theorem A46 (g:bF)(xs:List Int):dG (g++[xs])=dG g+eW xs:=by unfold dG;rw [map_append,sum_append];simp
theorem mem_rowF:c∈eM f r xs↔c.1=r/\∃j x,c.2=(j:Nat)/\xs[j]?=some x/\f x=true:=by
 unfold eM;rw [mem_filterMap];constructor
 ·rintro⟨⟨x,j⟩,hm,e⟩;have hx:=mem_zipIdx_iff_getElem?.mp hm;cases hf:f x with
  |true=>
   simp only [hf,if_true,Option.some.injEq]at e;subst e;exact⟨rfl,j,x,rfl,hx,hf⟩
  |false=>simp [hf]at e
 ·rintro⟨e1,j,x,e2,hx,hf⟩;refine⟨(x,j),mem_zipIdx_iff_getElem?.mpr hx,?_⟩;simp only [hf,if_true,Option.some.injEq];exact Prod.ext e1.symm e2.symm
theorem mem_gridF:c∈bA f g↔ ∃(i j:Nat)(xs:List Int)(x:Int),c=((i:Int),(j:Int))/\g[i]?=some xs/\xs[j]?=some x/\f x=true:=by
 unfold bA;rw [List.mem_flatten];constructor
 ·rintro⟨l,hl,hc⟩;obtain⟨⟨xs,i⟩,hm,rfl⟩:=mem_map.mp hl;obtain⟨e1,j,x,e2,hx,hf⟩:=mem_rowF.mp hc;exact⟨i,j,xs,x,Prod.ext e1 e2,mem_zipIdx_iff_getElem?.mp hm,hx,hf⟩
 ·rintro⟨i,j,xs,x,rfl,hg,hx,hf⟩;exact⟨eM f i xs,mem_map.mpr ⟨(xs,i),mem_zipIdx_iff_getElem?.mpr hg,rfl⟩,mem_rowF.mpr ⟨rfl,j,x,rfl,hx,hf⟩⟩
theorem lC {g:bF}{i j:Nat}{xs:List Int}{x:Int}(h1:g[i]?=some xs)(h2:xs[j]?=some x):atG g ((i:Int),(j:Int))=x:=by unfold atG;simp [getD_eq_getElem?_getD,h1,h2]
theorem yK {r:Int}:∀(pre xs:List Int)(v:Int×Int->Int),(∀j x,xs[j]?=some x->v (r,((pre.length+j:Nat):Int))=x)->(((xs.zipIdx pre.length).filterMap fun q=>if pos q.1 then some (r,(q.2:Int))else none).map v)=xs.filter pos
 |_,[],_,_=>by simp
 |pre,x::xs,v,h=>by
  have ih:=yK (r:=r) (pre++[x]) xs v fun j y hy=>by
   have:=h (j+1) y (by simpa using hy);rw [length_append];have e:pre.length+[x].length+j=pre.length+(j+1):=by simp;omega
   rw [e];exact this
  have h0:=h 0 x rfl;rw [length_append]at ih;rw [zipIdx_cons];have ih':(((xs.zipIdx (pre.length+1)).filterMap fun q=>if pos q.1 then some (r,(q.2:Int))else none).map v)=xs.filter pos:=ih;cases hp:pos x with
  |true=>
   rw [List.filterMap_cons_some (b:=(r,(pre.length:Int))) (by simp [hp]),map_cons,ih',filter_cons_of_pos hp]
   congr 1
  |false=>
   rw [List.filterMap_cons_none (by simp [hp]),ih',filter_cons_of_neg (by simp [hp])]
theorem sS (g:bF):(bA pos g).map (atG g)=(g.map fun xs=>xs.filter pos).flatten:=by
 unfold bA;rw [List.map_flatten,map_map];have e:g.zipIdx.map (List.map (atG g)∘fun p=>eM pos p.2 p.1)=g.zipIdx.map fun p=>p.1.filter pos:=by
  refine map_congr_left fun p hp=> ?_;obtain⟨xs,i⟩:=p;have hx:=mem_zipIdx_iff_getElem?.mp hp;show(eM pos i xs).map (atG g)=xs.filter pos;exact yK (r:=(i:Int)) [] xs (atG g) fun j x hj=>by
   simp only [length_nil,Nat.zero_add];exact lC hx hj
 rw [e]
 congr 1
 have:(fun p:List Int×Nat=>p.1.filter pos)=(fun xs=>xs.filter pos)∘Prod.fst:=rfl;rw [this,←map_map,List.zipIdx_map_fst]
theorem A77 (xs:List Int):(xs.filter pos).sum=iY xs:=by
 unfold iY
 induction xs with
 |nil=>rfl
 |cons x xs ih=>
  rw [map_cons,sum_cons,←ih];by_cases h:0<=x
  ·rw [filter_cons_of_pos (by simp [pos,h]),sum_cons]
   congr 1
   split<;>omega
  ·rw [filter_cons_of_neg (by simp [pos,h])];rw [if_neg (by omega)];omega
theorem A2l:∀g:bF,(g.map fun xs=>xs.filter pos).flatten.sum=bP g
 | []=>rfl
 |xs::g=>by
  rw [map_cons,flatten_cons,sum_append,A77,A2l g];unfold bP;rw [map_cons,sum_cons]
theorem A2o (g:bF):((bA pos g).map (atG g)).sum=bP g:=by rw [sS,A2l]
theorem fE (g:bF):(bA pos g).length=dG g:=by have:=congrArg List.length (sS g);rw [length_map]at this;rw [this,List.length_flatten,map_map];rfl
end Grd
namespace L2
open PySem Grd
def lD (s:Stmt):List Stmt:=match s with| .For _ _ b _ _=>b|_=> []
def RowsG (H:Hp)(bs:List Addr)(g:bF):Prop:=Paired (fun b xs=>H b=some (.tup ((xs:List Int).map V.int))) bs g
def GridAt (H:Hp)(a:Addr)(g:bF):Prop:=∃bs:List Addr,H a=some (.tup (bs.map V.ref))/\RowsG H bs g
theorem RowsG.ext (h:RowsG H bs g)(e:Ext H H'):RowsG H' bs g:=Paired.mapP h fun _ _ z=>e.tup _ _ z
theorem GridAt.ext (h:GridAt H a g)(e:Ext H H'):GridAt H' a g:=let ⟨bs,h1,h2⟩:=h;⟨bs,e.tup _ _ h1,h2.ext e⟩
theorem RowsG.get:∀{bs:List Addr}{g:bF}{i:Nat}{xs:List Int},RowsG H bs g->g[i]?=some xs->∃b,bs[i]?=some b/\H b=some (.tup (xs.map V.int))
 |_,_,0,_,.cons r _,h=>by cases h;exact⟨_,rfl,r⟩
 |_,_,i+1,_,.cons _ t,h=>RowsG.get (i:=i) t (by simpa using h)
theorem RowsG.row:∀{bs:List Addr}{g:bF}{i:Nat}{b:Addr},RowsG H bs g->bs[i]?=some b->∃xs,g[i]?=some xs/\H b=some (.tup (xs.map V.int))
 |_,_,0,_,.cons r _,h=>by cases h;exact⟨_,rfl,r⟩
 |_,_,i+1,_,.cons _ t,h=>RowsG.row (i:=i) t (by simpa using h)
end L2
namespace M10
open PySem L2 PyProof.Rows Grd
structure dC (mg:Str->Option Value):Prop where
 range:mg "range" =none
 list:mg "list" =none
 zip:mg "zip" =none
 sum:mg "sum" =none
 dict:mg "dict" =none
 set:mg "set" =none
 sorted:mg "sorted" =none
 any:mg "any" =none
 abs:mg "abs" =none
 road:∃t,mg "ROAD" =some (.int (-1) t)
end M10
namespace L2
open PySem PySem.Spec PyProof.Rows
def PlAt (H:Hp)(ps:List Addr)(cs:List (Int×Int)):Prop:=Paired (fun p c=>H p=some (.tup [.int c.1,.int c.2])) ps cs
theorem PlAt.same (h:PlAt H ps cs)(s:Same H H'):PlAt H' ps cs:=Paired.mapP h fun _ _ e=>s _ _ e
theorem PlAt.snoc (h:PlAt H ps cs)(e:H p=some (.tup [.int c.1,.int c.2])):PlAt H (ps++[p]) (cs++[c]):=Paired.snoc h e
end L2
namespace PySem
open Sem (wp)
section
structure jK (z TI TO i1 i2:Addr)(f1 f2:List Addr):Prop where
 z1:z∉f1
 z2:z∉f2
 o1:TO∉f1
 o2:TO∉f2
 c1:i1∉f2
 c2:i2∉f1
 Iz:TI≠z
 Oz:TO≠z
 iz:i1≠z
 jz:i2≠z
 IO:TI≠TO
 I1:TI≠i1
 I2:TI≠i2
 O1:TO≠i1
 O2:TO≠i2
 ij:i1≠i2
theorem A8p (n a b:Nat)(h1:a<n)(h2:b<n):jK (n+4) (n+2) (n+3) n (n+1) [n,a] [n+1,b]:=by
  constructor<;>intro h<;>first
    | (have h':@Eq Nat _ _:=h;omega)
    | (rcases mem_cons.mp h with y|y
       · have y':@Eq Nat _ _:=y;omega
       · have y':@Eq Nat _ _:=mem_singleton.mp y;omega)
theorem A7g {z TI TO i1 i2:Addr}{f1 f2:List Addr}{n1 n2 k:Nat}{P1 P2:Nat->Value->Prop}{S1 S2:Nat->Heap->Prop}{a b:Value}{Q:Value->Shared->Prop}(D1:Draws prog w A i1 f1 n1 P1 S1)(D2:Draws prog w A i2 f2 n2 P2 S2)(D:jK z TI TO i1 i2 f1 f2)
  (hz:IsZip s.heap z TI TO .none)(hTI:IsPair s.heap TI (.ref i1) (.ref i2))(hTO:IsPair s.heap TO a b)(t1:S1 k s.heap)(t2:S2 k s.heap)(hk1:k<n1)(hk2:k<n2)
  (hQ:∀x y h' tk,P1 k x->P2 k y->IsZip h' z TI TO (rawInt s.heap.objs.size)->IsPair h' TO x y->S1 (k+1) h'->S2 (k+1) h'->IsPair h' s.heap.objs.size x y->
   (∀c o,c≠z->c≠TO->c≠i1->c≠i2->s.heap.get? c=some o->h'.get? c=some o)->Q (.ref s.heap.objs.size) {s with heap:=h',toks:=tk}):
  wpAny (model prog w) A (Builtin.«zip.__next__» ⟨[.ref z],[]⟩) (fun fin s'=> ∃v,fin= .done (.ret v)/\Q v s') E s:=by
 show wpAny _ _ (field (.ref z) 2>>=_) _ _ _;refine zjZ (wpAny_field hz rfl (x:=.bool false) rfl ?_);show wpAny _ _ (field (.ref z) 3>>=_) _ _ _;refine zjZ (wpAny_field hz rfl (x:=.ref TI) rfl (zjZ (wpAny_seqItems hTI rfl ?_)));show wpAny _ _ (Builtin.SmallTypes.ownedTupleIsFree (.ref z)>>=_) _ _ _;refine zjZ ?_;unfold Builtin.SmallTypes.ownedTupleIsFree;refine zjZ (wpAny_field hz rfl (x:=.none) rfl (zjY ?_));simp only [if_true];refine zjZ (wpAny_rule (zjZ (wpAny_field hz rfl (x:=.ref TO) rfl (zjZ (wpAny_setField_rec hz (by simp) fun h₁ hz₁ hs₁=> ?_)))));replace hz₁:IsZip h₁ z TI TO .ellipsis:=hz₁;refine zjZ ?_;simp only [zipIdx_cons,zipIdx_nil,forIn_cons,forIn_nil];refine zjZ (zjZ (wpAny_onRaise ?_));show wpAny _ _ (Builtin.SmallTypes.nextOf (.ref i1)>>=_) _ _ _;have u1:S1 k h₁:=D1.frame k _ _ t1 fun c hc o e=>hs₁.extBut _ _ (fun q=>D.z1 (q▸hc)) e;refine zjZ (D1.item k _ _ _ hk1 u1 fun x h₂ tk₂ hx v1 hs₂=>zjY ?_);have hTO₂:IsPair h₂ TO a b:=hs₂.extBut _ _ D.O1 (hs₁.extBut _ _ D.Oz hTO);refine zjZ (wpAny_seqItems hTO₂ rfl (zjZ (wpAny_updateSeq_pair hTO₂ fun h₃ hTO₃ hs₃=> ?_)));replace hTO₃:IsPair h₃ TO x b:=hTO₃;refine zjZ (wpAny_letGo (zjY ?_));refine zjZ (zjZ (wpAny_onRaise ?_));show wpAny _ _ (Builtin.SmallTypes.nextOf (.ref i2)>>=_) _ _ _;have u2:S2 k h₃:=D2.frame k _ _ t2 fun c hc o e=>hs₃.extBut _ _ (fun q=>D.o2 (q▸hc)) (hs₂.extBut _ _ (fun q=>D.c1 (q▸hc)) (hs₁.extBut _ _ (fun q=>D.z2 (q▸hc)) e));refine zjZ (D2.item k _ _ _ hk2 u2 fun y h₄ tk₄ hy v2 hs₄=>zjY ?_);have hTO₄:IsPair h₄ TO x b:=hs₄.extBut _ _ D.O2 hTO₃;refine zjZ (wpAny_seqItems hTO₄ rfl (zjZ (wpAny_updateSeq_pair hTO₄ fun h₅ hTO₅ hs₅=> ?_)));replace hTO₅:IsPair h₅ TO x y:=hTO₅;refine zjZ (wpAny_letGo (zjY (zjY ?_)));refine zjZ (wpAny_seqItems hTO₅ rfl (zjZ (wpAny_newTuple ?_)));have hsz:h₅.objs.size=s.heap.objs.size:=by rw [hs₅.1,hs₄.1,hs₃.1,hs₂.1,hs₁.1]
 have hz₅:IsZip h₅ z TI TO .ellipsis:=hs₅.extBut _ _ D.Oz.symm (hs₄.extBut _ _ D.jz.symm (hs₃.extBut _ _ D.Oz.symm (hs₂.extBut _ _ D.iz.symm hz₁)));have hk₅:∀c o,c≠z->c≠TO->c≠i1->c≠i2->s.heap.get? c=some o->h₅.get? c=some o:=fun c o e1 e2 e3 e4 e=>hs₅.extBut _ _ e2 (hs₄.extBut _ _ e4 (hs₃.extBut _ _ e2 (hs₂.extBut _ _ e3 (hs₁.extBut _ _ e1 e))));have w1:S1 (k+1) h₅:=D1.frame _ _ _ v1 fun c hc o e=>hs₅.extBut _ _ (fun q=>D.o1 (q▸hc)) (hs₄.extBut _ _ (fun q=>D.c2 (q▸hc)) (hs₃.extBut _ _ (fun q=>D.o1 (q▸hc)) e));have w2:S2 (k+1) h₅:=D2.frame _ _ _ v2 fun c hc o e=>hs₅.extBut _ _ (fun q=>D.o2 (q▸hc)) e;have hzlt:z<h₅.objs.size:=zjT hz₅;show wpAny _ _ (Builtin.SmallTypes.ownedTupleHandOut (.ref z) (.ref h₅.objs.size)>>=_) _ _ _;refine zjZ ?_;unfold Builtin.SmallTypes.ownedTupleHandOut;have hz₆:IsZip (h₅.push {cls:=.type "tuple",data:=.seq #[x,y]}) z TI TO .ellipsis:=zjX _ hz₅;refine zjZ (wpAny_setField_rec hz₆ (by simp) fun h₇ hz₇ hs₇=> ?_);replace hz₇:IsZip h₇ z TI TO (rawInt h₅.objs.size):=hz₇;refine wpAny_setField_rec hz₇ (by simp) fun h₈ hz₈ hs₈=> ?_;replace hz₈:IsZip h₈ z TI TO (rawInt h₅.objs.size):=hz₈;have up:∀c o,c≠z->h₅.get? c=some o->h₈.get? c=some o:=fun c o e1 e=>hs₈.extBut _ _ e1 (hs₇.extBut _ _ e1 (zjX _ e));have hT₈:IsPair h₈ h₅.objs.size x y:=hs₈.extBut _ _ (ne_of_gt hzlt) (hs₇.extBut _ _ (ne_of_gt hzlt) (get?_push_size _ rfl));rw [hsz]at hz₈ hT₈;refine zjY ⟨_,rfl,?_⟩;show Q (.ref h₅.objs.size) _;rw [hsz];exact hQ x y h₈ _ hx hy hz₈ (up _ _ D.Oz hTO₅) (D1.frame _ _ _ w1 fun c hc o e=>up c o (fun q=>D.z1 (q▸hc)) e) (D2.frame _ _ _ w2 fun c hc o e=>up c o (fun q=>D.z2 (q▸hc)) e) hT₈ fun c o e1 e2 e3 e4 e=>up c o e1 (hk₅ c o e1 e2 e3 e4 e)
theorem A39 (D1:Draws prog w A i1 f1 n1 P1 S1)(D:jK z TI TO i1 i2 f1 f2)
  (hz:IsZip s.heap z TI TO .none)(hTI:IsPair s.heap TI (.ref i1) (.ref i2))(t1:S1 n1 s.heap)
  (hE:∀h' e,(∀c o,c≠z->c≠i1->s.heap.get? c=some o->h'.get? c=some o)->(∃o,h'.get? e=some o/\o.cls= .type "StopIteration")->E (.ref e) {s with heap:=h'}):
  wpAny (model prog w) A (Builtin.«zip.__next__» ⟨[.ref z],[]⟩) Q E s:=by
 show wpAny _ _ (field (.ref z) 2>>=_) _ _ _;refine zjZ (wpAny_field hz rfl (x:=.bool false) rfl ?_);show wpAny _ _ (field (.ref z) 3>>=_) _ _ _;refine zjZ (wpAny_field hz rfl (x:=.ref TI) rfl (zjZ (wpAny_seqItems hTI rfl ?_)));show wpAny _ _ (Builtin.SmallTypes.ownedTupleIsFree (.ref z)>>=_) _ _ _;refine zjZ ?_;unfold Builtin.SmallTypes.ownedTupleIsFree;refine zjZ (wpAny_field hz rfl (x:=.none) rfl (zjY ?_));simp only [if_true];refine zjZ (wpAny_rule (zjZ (wpAny_field hz rfl (x:=.ref TO) rfl (zjZ (wpAny_setField_rec hz (by simp) fun h₁ hz₁ hs₁=> ?_)))));replace hz₁:IsZip h₁ z TI TO .ellipsis:=hz₁;refine zjZ ?_;simp only [zipIdx_cons,zipIdx_nil,forIn_cons,forIn_nil];refine zjZ (zjZ (wpAny_onRaise ?_));show wpAny _ _ (Builtin.SmallTypes.nextOf (.ref i1)>>=_) _ _ _;have u1:S1 n1 h₁:=D1.frame n1 _ _ t1 fun c hc o e=>hs₁.extBut _ _ (fun q=>D.z1 (q▸hc)) e;refine zjZ (D1.done _ _ _ u1 fun h₂ e hs₂ he=> ?_);obtain⟨oe,hoe,hce⟩:=he;have hz₂:IsZip h₂ z TI TO .ellipsis:=hs₂ _ _ D.iz.symm hz₁;have hez:e≠z:=fun x=>by subst x;rw [hz₂]at hoe;cases hoe;simp at hce
 refine wpAny_setField_rec hz₂ (by simp) fun h₃ _ hs₃=>hE h₃ e (fun c o c1 c3 x=>hs₃.extBut _ _ c1 (hs₂ _ _ c3 (hs₁.extBut _ _ c1 x))) ⟨oe,hs₃.extBut _ _ hez hoe,hce⟩
theorem B0t {z TI TO i1 i2:Addr}{f1 f2:List Addr}{n1 n2 k:Nat}{P1 P2:Nat->Value->Prop}{S1 S2:Nat->Heap->Prop}{a b:Value}{Q:Option Value->Shared->Prop}(D1:Draws prog w A.in1 i1 f1 n1 P1 S1)(D2:Draws prog w A.in1 i2 f2 n2 P2 S2)(D:jK z TI TO i1 i2 f1 f2)
  (hz:IsZip s.heap z TI TO .none)(hTI:IsPair s.heap TI (.ref i1) (.ref i2))(hTO:IsPair s.heap TO a b)(t1:S1 k s.heap)(t2:S2 k s.heap)(hk1:k<n1)(hk2:k<n2)
  (hQ:∀x y h' tk,P1 k x->P2 k y->IsZip h' z TI TO (rawInt s.heap.objs.size)->IsPair h' TO x y->S1 (k+1) h'->S2 (k+1) h'->IsPair h' s.heap.objs.size x y->
   (∀c o,c≠z->c≠TO->c≠i1->c≠i2->s.heap.get? c=some o->h'.get? c=some o)->Q (some (.ref s.heap.objs.size)) {s with heap:=h',toks:=tk}):
  wpAny (model prog w) A (pyNext (.ref z)) Q E s:=by
 have hT:s.TypeIs (.ref z) "zip":=⟨_,hz,rfl⟩;unfold pyNext;exact zjZ (wpAny_attempt (wpAny_callSpecial?_slot (name:=Str.ofString "__next__") hT F.slot_zip_next (wpAny_call_entry F.slot_zip_next hT F.entry_zip_next
   (A7g D1 D2 D hz hTI hTO t1 t2 hk1 hk2 fun x y h' tk q1 q2 a1 a2 a3 a4 a5 a6=>zjY (hQ x y h' tk q1 q2 a1 a2 a3 a4 a5 a6)) (F.args_zip_next_1 _))))
theorem A8z (D1:Draws prog w A.in1 i1 f1 n1 P1 S1)(D:jK z TI TO i1 i2 f1 f2)
  (hz:IsZip s.heap z TI TO .none)(hTI:IsPair s.heap TI (.ref i1) (.ref i2))(t1:S1 n1 s.heap)
  (hQ:∀h',(∀c o,c≠z->c≠i1->s.heap.get? c=some o->h'.get? c=some o)->Q none {s with heap:=h'}):wpAny (model prog w) A (pyNext (.ref z)) Q E s:=by
 have hT:s.TypeIs (.ref z) "zip":=⟨_,hz,rfl⟩;unfold pyNext;refine zjZ (wpAny_attempt (wpAny_callSpecial?_slot (name:=Str.ofString "__next__") hT F.slot_zip_next (wpAny_call_entry F.slot_zip_next hT F.entry_zip_next (A39 D1 D hz hTI t1 fun h' e hk he=> ?_) (F.args_zip_next_1 _))));obtain⟨o,ho,hc⟩:=he;exact zjZ (wpAny_isInstance (T:="StopIteration") (b:=true) ⟨o,ho,hc⟩ isSubtype_stop (zjY (hQ _ hk)))
end
abbrev zT1 (h:Heap)(l1:Addr):Heap:=h.push {cls:=.type "tuple_iterator",data:=.fields #[.ref l1,.int 0 0]}
abbrev zT2 (h:Heap)(l1 l2:Addr):Heap:=(zT1 h l1).push {cls:=.type "tuple_iterator",data:=.fields #[.ref l2,.int 0 0]}
abbrev zT3 (h:Heap)(l1 l2:Addr):Heap:=(zT2 h l1 l2).push {cls:=.type "tuple",data:=.seq #[.ref h.objs.size,.ref (zT1 h l1).objs.size]}
abbrev zT4 (h:Heap)(l1 l2:Addr):Heap:=(zT3 h l1 l2).push {cls:=.type "tuple",data:=.seq #[.none,.none]}
abbrev zT5 (h:Heap)(l1 l2:Addr):Heap:=(zT4 h l1 l2).push {cls:=.type "zip",data:=.fields #[.none,.bool false,.bool false,.ref (zT2 h l1 l2).objs.size,.ref (zT3 h l1 l2).objs.size]}
theorem A4r (l1 l2:Addr)(xs ys:Array Value):
  Meets (Builtin.«zip.__new__» ⟨[.type "zip",.ref l1,.ref l2],[]⟩) (fun _ R s=>s.heap.IsTuple l1 xs/\s.heap.IsTuple l2 ys/\R (.ok (.ret (.ref (zT4 s.heap l1 l2).objs.size))) {s with heap:=zT5 s.heap l1 l2}):=
 .of_wp fun prog w A R s h=>by
  obtain⟨hp,g,d,tk,os⟩:=s;obtain⟨p1,p2,h⟩:=h;have isz:=sub_zip;have q1:Heap.IsTuple (Shared.heap ⟨hp,g,d,tk,os⟩) l1 xs:=p1;have q2:Heap.IsTuple (Shared.heap ⟨hp.push {cls:=.type "tuple_iterator",data:=.fields #[.ref l1,.int 0 0]},g,d,tk,os⟩) l2 ys:=let ⟨o,ho,r⟩:=p2;⟨o,zjX _ ho,r⟩
  wp_walk using wpAny_pyIter_tuple q1,wpAny_pyIter_tuple q2
  exact⟨_,rfl,h⟩
section
theorem A34 (p1:s.heap.IsTuple l1 xs)(p2:s.heap.IsTuple l2 ys)
  (h:∀h',IsZip h' (s.heap.objs.size+4) (s.heap.objs.size+2) (s.heap.objs.size+3) .none->IsPair h' (s.heap.objs.size+2) (.ref s.heap.objs.size) (.ref (s.heap.objs.size+1))->
   IsPair h' (s.heap.objs.size+3) .none .none->h'.IsTupleIter s.heap.objs.size l1 0->h'.IsTupleIter (s.heap.objs.size+1) l2 0->h'.objs.size=s.heap.objs.size+5->
   (∀c o,s.heap.get? c=some o->h'.get? c=some o)->Q (.ref (s.heap.objs.size+4)) {s with heap:=h'}):
  wpAny (model prog w) A (call (.type "zip") [.ref l1,.ref l2]) Q E s:=by
 refine callType_new F.called_zip (by decide) (F.typeCall_zip_2 _ _) (F.newCall_zip_2 _ _) (fun obj=>F.args_object_init_3 obj _ _) F.entry_zip_new (A4r l1 l2 xs ys) ⟨p1,p2,?_⟩;have y1:(zT1 s.heap l1).objs.size=s.heap.objs.size+1:=size_push ..;have y2:(zT2 s.heap l1 l2).objs.size=s.heap.objs.size+2:=by rw [size_push,y1]
 have y3:(zT3 s.heap l1 l2).objs.size=s.heap.objs.size+3:=by rw [size_push,y2]
 have y4:(zT4 s.heap l1 l2).objs.size=s.heap.objs.size+4:=by rw [size_push,y3]
 have y5:(zT5 s.heap l1 l2).objs.size=s.heap.objs.size+5:=by rw [size_push,y4]
 have r5:(zT5 s.heap l1 l2).get? (zT4 s.heap l1 l2).objs.size=some _:=get?_push_size _ rfl;have r4:(zT5 s.heap l1 l2).get? (zT3 s.heap l1 l2).objs.size=some _:=zjX _ (get?_push_size _ rfl);have r3:(zT5 s.heap l1 l2).get? (zT2 s.heap l1 l2).objs.size=some _:=zjX _ (zjX _ (get?_push_size _ rfl));have r2:(zT5 s.heap l1 l2).get? (zT1 s.heap l1).objs.size=some _:=zjX _ (zjX _ (zjX _ (get?_push_size _ rfl)));have r1:(zT5 s.heap l1 l2).get? s.heap.objs.size=some _:=zjX _ (zjX _ (zjX _ (zjX _ (get?_push_size _ rfl))));show _/\_;rw [y2,y3,y4]at r5;rw [y1,y2]at r3;rw [y3]at r4;rw [y1]at r2;rw [y4];exact⟨⟨_,r5,rfl⟩,h _ r5 r3 r4 ⟨_,r1,rfl,rfl⟩ ⟨_,r2,rfl,rfl⟩ y5 fun c o x=>zjX _ (zjX _ (zjX _ (zjX _ (zjX _ x))))⟩
theorem B16 (D1:Draws prog w A i1 f1 n1 P1 S1)(D2:Draws prog w A i2 f2 n2 P2 S2)(D:jK z TI TO i1 i2 f1 f2)
  (hz:IsZip s.heap z TI TO .none)(hTI:IsPair s.heap TI (.ref i1) (.ref i2))(hTO:IsPair s.heap TO a b)(t1:S1 n2 s.heap)(t2:S2 n2 s.heap)(hk1:n2<n1)
  (hE:∀h' e tk,(∀c o,c≠z->c≠TO->c≠i1->c≠i2->s.heap.get? c=some o->h'.get? c=some o)->(∃o,h'.get? e=some o/\o.cls= .type "StopIteration")->E (.ref e) {s with heap:=h',toks:=tk}):
  wpAny (model prog w) A (Builtin.«zip.__next__» ⟨[.ref z],[]⟩) Q E s:=by
 show wpAny _ _ (field (.ref z) 2>>=_) _ _ _;refine zjZ (wpAny_field hz rfl (x:=.bool false) rfl ?_);show wpAny _ _ (field (.ref z) 3>>=_) _ _ _;refine zjZ (wpAny_field hz rfl (x:=.ref TI) rfl (zjZ (wpAny_seqItems hTI rfl ?_)));show wpAny _ _ (Builtin.SmallTypes.ownedTupleIsFree (.ref z)>>=_) _ _ _;refine zjZ ?_;unfold Builtin.SmallTypes.ownedTupleIsFree;refine zjZ (wpAny_field hz rfl (x:=.none) rfl (zjY ?_));simp only [if_true];refine zjZ (wpAny_rule (zjZ (wpAny_field hz rfl (x:=.ref TO) rfl (zjZ (wpAny_setField_rec hz (by simp) fun h₁ hz₁ hs₁=> ?_)))));replace hz₁:IsZip h₁ z TI TO .ellipsis:=hz₁;refine zjZ ?_;simp only [zipIdx_cons,zipIdx_nil,forIn_cons,forIn_nil];refine zjZ (zjZ (wpAny_onRaise ?_));show wpAny _ _ (Builtin.SmallTypes.nextOf (.ref i1)>>=_) _ _ _;have u1:S1 n2 h₁:=D1.frame n2 _ _ t1 fun c hc o e=>hs₁.extBut _ _ (fun q=>D.z1 (q▸hc)) e;refine zjZ (D1.item n2 _ _ _ hk1 u1 fun x h₂ tk₂ hx v1 hs₂=>zjY ?_);have hTO₂:IsPair h₂ TO a b:=hs₂.extBut _ _ D.O1 (hs₁.extBut _ _ D.Oz hTO);refine zjZ (wpAny_seqItems hTO₂ rfl (zjZ (wpAny_updateSeq_pair hTO₂ fun h₃ hTO₃ hs₃=> ?_)));refine zjZ (wpAny_letGo (zjY ?_));refine zjZ (zjZ (wpAny_onRaise ?_));show wpAny _ _ (Builtin.SmallTypes.nextOf (.ref i2)>>=_) _ _ _;have u2:S2 n2 h₃:=D2.frame n2 _ _ t2 fun c hc o e=>hs₃.extBut _ _ (fun q=>D.o2 (q▸hc)) (hs₂.extBut _ _ (fun q=>D.c1 (q▸hc)) (hs₁.extBut _ _ (fun q=>D.z2 (q▸hc)) e));refine zjZ (D2.done _ _ _ u2 fun h₄ e hs₄ he=> ?_);obtain⟨oe,hoe,hce⟩:=he;have hz₄:IsZip h₄ z TI TO .ellipsis:=hs₄ _ _ D.jz.symm (hs₃.extBut _ _ D.Oz.symm (hs₂.extBut _ _ D.iz.symm hz₁));have hez:e≠z:=fun x=>by subst x;rw [hz₄]at hoe;cases hoe;simp at hce
 refine wpAny_setField_rec hz₄ (by simp) fun h₅ _ hs₅=>hE h₅ e _ (fun c o c1 c2 c3 c4 x=>hs₅.extBut _ _ c1 (hs₄ _ _ c4 (hs₃.extBut _ _ c2 (hs₂.extBut _ _ c3 (hs₁.extBut _ _ c1 x))))) ⟨oe,hs₅.extBut _ _ hez hoe,hce⟩
theorem A87 (D1:Draws prog w A.in1 i1 f1 n1 P1 S1)(D2:Draws prog w A.in1 i2 f2 n2 P2 S2)(D:jK z TI TO i1 i2 f1 f2)
  (hz:IsZip s.heap z TI TO .none)(hTI:IsPair s.heap TI (.ref i1) (.ref i2))(hTO:IsPair s.heap TO a b)(t1:S1 n2 s.heap)(t2:S2 n2 s.heap)(hk1:n2<n1)
  (hQ:∀h' tk,(∀c o,c≠z->c≠TO->c≠i1->c≠i2->s.heap.get? c=some o->h'.get? c=some o)->Q none {s with heap:=h',toks:=tk}):wpAny (model prog w) A (pyNext (.ref z)) Q E s:=by
 have hT:s.TypeIs (.ref z) "zip":=⟨_,hz,rfl⟩;unfold pyNext;refine zjZ (wpAny_attempt (wpAny_callSpecial?_slot (name:=Str.ofString "__next__") hT F.slot_zip_next (wpAny_call_entry F.slot_zip_next hT F.entry_zip_next (B16 D1 D2 D hz hTI hTO t1 t2 hk1 fun h' e tk hk he=> ?_) (F.args_zip_next_1 _))));obtain⟨o,ho,hc⟩:=he;exact zjZ (wpAny_isInstance (T:="StopIteration") (b:=true) ⟨o,ho,hc⟩ isSubtype_stop (zjY (hQ _ _ hk)))
end
end PySem
namespace L2
open PySem PySem.Spec PyProof.Rows
structure SeqK where
 Sq:W.Frag->Hp->Addr->List V->Prop
 isq:Heap->Addr->Array Value->Prop
 iit:Heap->Addr->Addr->Nat->Prop
structure SeqK.Ok (k:SeqK):Prop where
 get:∀{X:Cx}{pins:List (Addr×Obj)}{σ:St}{H:Hp}{s:Shared}{a:Addr}{xs:List V},Inv X pins σ H s->k.Sq X.K H a xs->∃its:List Value,Vals xs its/\k.isq s.heap a its.toArray
 inj:∀{X:Cx}{pins:List (Addr×Obj)}{σ:St}{H:Hp}{s:Shared}{a:Addr}{xs ys:List V},Inv X pins σ H s->k.Sq X.K H a xs->k.Sq X.K H a ys->xs=ys
 lt:∀{h:Heap}{a:Addr}{its:Array Value},k.isq h a its->a<h.objs.size
 dr:∀{prog:Program}{w:World}{A:Around},A.handled=none->∀(it l:Addr),l≠it->∀items:Array Value,Draws prog w A it [it,l] items.size (fun i v=>items[i]?=some v) (fun i h=>k.iit h it l i/\k.isq h l items)
 obj:∀{h:Heap}{it l:Addr}{i:Nat},k.iit h it l i->∃o,h.get? it=some o/\∀v,o.data≠ .cell v
 «at»:∀{h h':Heap}{it l:Addr}{i:Nat},k.iit h it l i->(∀o,h.get? it=some o->h'.get? it=some o)->k.iit h' it l i
 zip:∀{prog:Program}{w:World}{A:Around}{E:Value->Shared->Prop}{s:Shared}{l1 l2:Addr}{xs ys:Array Value}{Q:Value->Shared->Prop},k.isq s.heap l1 xs->k.isq s.heap l2 ys->
  (∀h',IsZip h' (s.heap.objs.size+4) (s.heap.objs.size+2) (s.heap.objs.size+3) .none->IsPair h' (s.heap.objs.size+2) (.ref s.heap.objs.size) (.ref (s.heap.objs.size+1))->IsPair h' (s.heap.objs.size+3) .none .none->
   k.iit h' s.heap.objs.size l1 0->k.iit h' (s.heap.objs.size+1) l2 0->(∀c o,s.heap.get? c=some o->h'.get? c=some o)->Q (.ref (s.heap.objs.size+4)) {s with heap:=h'})->wpAny (model prog w) A (call (.type "zip") [.ref l1,.ref l2]) Q E s
def kL:SeqK:=⟨SqL,Heap.IsList,Heap.IsListIter⟩
def kT:SeqK:=⟨SqT,Heap.IsTuple,Heap.IsTupleIter⟩
theorem vX:kL.Ok where
 get:=fun I h=>let ⟨its,r,p,_⟩:=I.list h;⟨its,r,p.isList⟩
 inj:=fun I h1 h2=>I.list_inj h1 h2
 lt:=fun p=>let ⟨o,ho,_⟩:=p;zjT ho
 dr:=fun hh it l hne items=>Draws.list hh it l hne items
 obj:=fun⟨o,e,c,d⟩=> ⟨o,e,fun v z=>by rw [d]at z;cases z⟩
 «at»:=fun x k=>Heap.IsListIter.at x k
 zip:=fun p1 p2 h=>call_zip_2 p1 p2 fun h' a1 a2 a3 a4 a5 _ a7=>h h' a1 a2 a3 a4 a5 a7
theorem rQ:kT.Ok where
 get:=fun I h=>let ⟨its,r,p,_⟩:=I.tuple h;⟨its,r,p⟩
 inj:=fun I h1 h2=>I.tuple_inj h1 h2
 lt:=fun p=>let ⟨o,ho,_⟩:=p;zjT ho
 dr:=fun hh it l hne items=>Draws.tuple hh it l hne items
 obj:=fun⟨o,e,c,d⟩=> ⟨o,e,fun v z=>by rw [d]at z;cases z⟩
 «at»:=fun x k=>Heap.IsTupleIter.at x k
 zip:=fun p1 p2 h=>A34 p1 p2 fun h' a1 a2 a3 a4 a5 _ a7=>h h' a1 a2 a3 a4 a5 a7
def Itz (S1 S2:Hp->List V->Prop):It:=
 ⟨fun i H=> ∃xs ys x y,S1 H xs/\S2 H ys/\xs[i]?=some x/\ys[i]?=some y,fun i H v H'=> ∃p x y,v= .ref p/\H p=none/\H'=upd H p (.tup [x,y])/\(∀xs,S1 H xs->xs[i]?=some x)/\∀ys,S2 H ys->ys[i]?=some y,fun i H=> ∃xs ys,S1 H xs/\S2 H ys/\(xs.length=i\/(ys.length=i/\i<xs.length))⟩
theorem B2n {P:Program}{w:World}{K:W.Frag}{es:List Expr}{x1}{pos:Pos}{k:SeqK}(ok:k.Ok)(z TI TO i1 i2 a b:Addr)(D:jK z TI TO i1 i2 [i1,a] [i2,b])(ha:a≠i1)(hb:b≠i2):
  gE P w K (.Tuple es x1 pos) (Itz (fun H xs=>k.Sq K H a xs) fun H ys=>k.Sq K H b ys) [z,TI,TO,i1,i2] z (fun i h=>IsZip h z TI TO .none/\IsPair h TI (.ref i1) (.ref i2)/\(∃u v,IsPair h TO u v)/\k.iit h i1 a i/\k.iit h i2 b i)where
 mem:=by simp
 obj:=fun i h st c hc=>by
  obtain⟨hz,hTI,⟨u,v,hTO⟩,h1,h2⟩:=st;simp only [mem_cons,not_mem_nil,or_false]at hc;rcases hc with rfl|rfl|rfl|rfl|rfl
  ·exact⟨_,hz,fun v z=>by cases z⟩
  ·exact⟨_,hTI,fun v z=>by cases z⟩
  ·exact⟨_,hTO,fun v z=>by cases z⟩
  ·exact ok.obj h1
  ·exact ok.obj h2
 keep:=fun i h h' st kp=>by
  obtain⟨hz,hTI,⟨u,v,hTO⟩,h1,h2⟩:=st;exact⟨kp z (by simp) _ hz,kp TI (by simp) _ hTI,⟨u,v,kp TO (by simp) _ hTO⟩,ok.at h1 fun o q=>kp i1 (by simp) o q,ok.at h2 fun o q=>kp i2 (by simp) o q⟩
 item:=by
  intro X hP hw hK hc i pins s σ H E I hf st hg;subst hP hw hK;obtain⟨hz,hTI,⟨u,v,hTO⟩,h1,h2⟩:=st;obtain⟨xs,ys,x,y,q1,q2,e1,e2⟩:=hg;obtain⟨its,rv,p1⟩:=ok.get I q1;obtain⟨jts,rw',p2⟩:=ok.get I q2;obtain⟨ux,hux,rx⟩:=rv.get e1;obtain⟨uy,huy,ry⟩:=rw'.get e2;have l1:i<its.toArray.size:=by rw [size_toArray];exact(zjW.mp hux).1
  have l2:i<jts.toArray.size:=by rw [size_toArray];exact(zjW.mp huy).1
  have hh:X.A.in1.handled=none:=by simp [I.ok.hd hc]
  refine B0t (ok.dr hh i1 a ha its.toArray) (ok.dr hh i2 b hb jts.toArray) D hz hTI hTO ⟨h1,p1⟩ ⟨h2,p2⟩ l1 l2 fun vx vy h' tk hvx hvy g1 g2 g3 g4 g5 g6=> ?_;have ex:vx=ux:=by
   have e:its[i]?=some vx:=by simpa using hvx
   rw [hux]at e;exact(Option.some.inj e).symm
  have ey:vy=uy:=by
   have e:jts[i]?=some vy:=by simpa using hvy
   rw [huy]at e;exact(Option.some.inj e).symm
  subst ex ey;refine⟨_,rfl,wpAny_letOwnedTupleGo_zip (s:={s with heap:=h',toks:=tk}) g1 fun h2' hz2 hs2=> ?_⟩;have hn:H s.heap.objs.size=none:=I.hok.fresh (zjQ _);have lz:∀{c o},s.heap.get? c=some o->s.heap.objs.size≠c:=fun e=>ne_of_gt (zjT e);have li1:s.heap.objs.size≠i1:=let ⟨o,e,_⟩:=ok.obj h1;lz e;have li2:s.heap.objs.size≠i2:=let ⟨o,e,_⟩:=ok.obj h2;lz e;have kp:∀c o,c∉[z,TI,TO,i1,i2]->s.heap.get? c=some o->h2'.get? c=some o:=fun c o hc' q=>by
   have c1:c≠z:=fun e=>hc' (by simp [e]);exact(hs2.2 c c1).trans (g6 c o c1 (fun e=>hc' (by simp [e])) (fun e=>hc' (by simp [e])) (fun e=>hc' (by simp [e])) q)
  have hT2:IsPair h2' s.heap.objs.size vx vy:=(hs2.2 _ (lz hz)).trans g5;have I2:Inv X pins σ (upd H s.heap.objs.size (.tup [x,y])) {s with heap:=h2',toks:=tk}:=I.turnLaid (fp:=[z,TI,TO,i1,i2]) kp hf (zjQ _) ⟨by show 2<=sizeLine;rw [sizeLine_eq];decide,[vx,vy],.cons rx (.cons ry .nil),⟨_,hT2,rfl,_,rfl⟩⟩;have hTI2:IsPair h2' TI (.ref i1) (.ref i2):=(hs2.2 _ D.Iz).trans (g6 _ _ D.Iz D.IO D.I1 D.I2 hTI);refine⟨.ref s.heap.objs.size,_,I2,rfl,⟨s.heap.objs.size,x,y,rfl,hn,rfl,fun zs hz'=>by rw [ok.inj I hz' q1];exact e1,fun zs hz'=>by rw [ok.inj I hz' q2];exact e2⟩,⟨hz2,hTI2,⟨_,_,(hs2.2 _ D.Oz).trans g2⟩,ok.at g3.1 fun o q=>(hs2.2 _ D.iz).trans q,ok.at g4.1 fun o q=>(hs2.2 _ D.jz).trans q⟩,fun c hc'=> ?_⟩;have hcz:c≠s.heap.objs.size:=by
   simp only [mem_cons,not_mem_nil,or_false]at hc';rcases hc' with rfl|rfl|rfl|rfl|rfl
   ·exact(lz hz).symm
   ·exact(lz hTI).symm
   ·exact(lz hTO).symm
   ·exact li1.symm
   ·exact li2.symm
  rw [aV hcz];exact(hf c hc').1
 done:=by
  intro X hP hw hK hc i pins s σ H E I hf st hg;subst hP hw hK;obtain⟨hz,hTI,⟨u,v,hTO⟩,h1,h2⟩:=st;obtain⟨xs,ys,q1,q2,hxy⟩:=hg;obtain⟨its,rv,p1⟩:=ok.get I q1;have hl:=rv.length;have hh:X.A.in1.handled=none:=by simp [I.ok.hd hc]
  rcases hxy with hx| ⟨hy,hx⟩
  rotate_left
  ·obtain⟨jts,rw',p2⟩:=ok.get I q2;have hl2:=rw'.length;have hi2:jts.toArray.size=i:=by rw [size_toArray,←hl2,hy]
   have hi1:i<its.toArray.size:=by rw [size_toArray,←hl];exact hx
   refine A87 (ok.dr hh i1 a ha its.toArray) (ok.dr hh i2 b hb jts.toArray) D hz hTI hTO (by rw [hi2];exact⟨h1,p1⟩) (by rw [hi2];exact⟨h2,p2⟩) (by rw [hi2];exact hi1) fun h' tk hk=> ⟨rfl,?_⟩;exact I.turnedL (fp:=[z,TI,TO,i1,i2]) (t':=tk) (fun c o hc' q=>hk c o (fun e=>hc' (by simp [e])) (fun e=>hc' (by simp [e])) (fun e=>hc' (by simp [e])) (fun e=>hc' (by simp [e])) q) hf
  have hi:its.toArray.size=i:=by rw [size_toArray,←hl,hx]
  refine A8z (ok.dr hh i1 a ha its.toArray) D hz hTI (by rw [hi];exact⟨h1,p1⟩) fun h' hk=> ⟨rfl,?_⟩;exact I.turnedL (fp:=[z,TI,TO,i1,i2]) (t':=s.toks) (fun c o hc' q=>hk c o (fun e=>hc' (by simp [e])) (fun e=>hc' (by simp [e])) q) hf
 self:=fun _ _ _ _ _ st h=>wpAny_pyIter_zip st.1 h
def A3m (k:SeqK)(K:W.Frag)(ta:TA):TI:=fun σ H R=>ta σ H fun vs H1=> ∃a b xs ys,vs=[.ref a,.ref b]/\k.Sq K H1 a xs/\k.Sq K H1 b ys/\R (Itz (fun H xs=>k.Sq K H a xs) fun H ys=>k.Sq K H b ys) H1
section
theorem lX {a b:Expr}{ta:TA}{p pos:Pos}{es:List Expr}{x1}{tpos:Pos}{k:SeqK}(ok:k.Ok)(hg:Gl X "zip")(hm:X.mg "zip" =none)(ha:PA X [a,b] ta)(hs:starEach [a,b] X.env=[(false,eval a X.env),(false,eval b X.env)]:=by rfl)(hs2:starEach [b] X.env=[(false,eval b X.env)]:=by rfl):
  PI X (.Tuple es x1 tpos) (.Call (.Name "zip" p) [a,b] [] pos) (A3m k X.K ta):=by
 intro pins s σ H R I h;refine Call_ (jV I hg hm boot_zip (PyProof.Rows.callWith_type1 (thn (ha pos pins s σ H _ I h) fun us s1 ⟨vs,H1,I1,r1,q1⟩=> ?_) (by rw [hs,hs2]) (by rw [hs2];rfl)));obtain⟨a',b',xs,ys,e,q1,q2,q⟩:=q1;subst e;obtain⟨u,v,rfl,rx,ry⟩:=tN r1;cases rx;cases ry;obtain⟨its,rv,p1⟩:=ok.get I1 q1;obtain⟨jts,rw',p2⟩:=ok.get I1 q2;have l1:=ok.lt p1;have l2:=ok.lt p2;refine ok.zip p1 p2 fun h' a1 a2 a3 a4 a5 a7=> ?_;refine wpAny_pyIter_zip (s:={s1 with heap:=h'}) a1 ?_;have I2:Inv X pins σ H1 {s1 with heap:=h'}:=I1.kept (t':=s1.toks) a7;have far:=A8p s1.heap.objs.size a' b' l1 l2;refine⟨s1.heap.objs.size+4,[s1.heap.objs.size+4,s1.heap.objs.size+2,s1.heap.objs.size+3,s1.heap.objs.size,s1.heap.objs.size+1],_,_,H1,rfl,I2,B2n ok _ _ _ _ _ a' b' far (ne_of_lt l1) (ne_of_lt (lt_succ_of_lt l2)),⟨a1,a2,⟨_,_,a3⟩,a4,a5⟩,fun c hc'=> ?_,q⟩;have hge:s1.heap.objs.size<=c:=by
  simp only [mem_cons,not_mem_nil,or_false]at hc';rcases hc' with rfl|rfl|rfl|rfl|rfl
  ·exact Nat.le_add_right _ 4
  ·exact Nat.le_add_right _ 2
  ·exact Nat.le_add_right _ 3
  ·exact zjQ _
  ·exact le_succ _
 exact I1.fpOk hge (I1.hok.fresh hge)
theorem oC (hlen:ys.length<=xs.length)(Pv:Nat->St->Hp->Prop)(h0:Pv 0 σ H)(hl:∀i σ H,Pv i σ H->S1 H xs/\S2 H ys)
  (hs:∀i x y p σ H,xs[i]?=some x->ys[i]?=some y->Pv i σ H->H p=none->g (.ref p) σ (upd H p (.tup [x,y])) fun σ2 H2=>tb {D with nx:=Pv (i+1),ct:=Pv (i+1),bk:=D.nx} σ2 H2)(hd:∀σ H,Pv ys.length σ H->D.nx σ H):
  cX (Itz S1 S2) g tb D σ H:=by
 refine⟨fun i m σ H=>m=ys.length - i/\i<=ys.length/\Pv i σ H,⟨ys.length,by simp,zero_le _,h0⟩,?_⟩;rintro i m σ H ⟨rfl,hi,p⟩;obtain⟨q1,q2⟩:=hl i σ H p;by_cases hlt2:i<ys.length
 ·have hlt:i<xs.length:=by omega
  refine .inr ⟨⟨xs,ys,xs[i],ys[i],q1,q2,by simp [hlt],by simp [hlt2]⟩,Pv (i+1),fun σ' H' p'=> ⟨ys.length -(i+1),by omega,rfl,hlt2,p'⟩,fun x H' y=> ?_⟩;obtain⟨pp,a,b,e1,e2,e3,e4,e5⟩:=y;subst e1 e3;exact hs i a b pp σ H (e4 xs q1) (e5 ys q2) p e2
 ·have e:i=ys.length:=by omega
  subst e;exact .inl ⟨⟨xs,ys,q1,q2,by omega⟩,hd σ H p⟩
end
section
variable {X:Cx}
theorem lS (ns:List Int):∀j:Nat,preSum (fun i=>(ns[i]?).getD 0) j=(ns.take j).sum
 |0=>by simp [preSum]
 |j+1=>by
  have ih:=lS ns j;rw [take_succ,sum_append];show preSum (fun i=>(ns[i]?).getD 0) j+(ns[j]?).getD 0=_;rw [ih];cases ns[j]?<;>simp
theorem qL (hB:0<=B):∀{ns:List Int},(∀n∈ns,-B<=n/\n<=B)->-(B*ns.length)<=ns.sum/\ns.sum<=B*ns.length
 | [],_=>by simp
 |n::ns,h=>by
  have ih:=qL hB (ns:=ns) fun m hm=>h m (zjS _ hm);have h0:=h n zjR;rw [sum_cons,length_cons];have e:B*((ns.length+1:Nat):Int)=B*(ns.length:Int)+B:=by
   rw [Int.natCast_add,Int.mul_add];simp
  rw [e];constructor<;>omega
theorem A2f (hc:X.calm=true):dW X (.builtin "sum") (fun xs H Q=> ∃(p:Addr)(ns:List Int),xs=[.ref p]/\SqL X.K H p (ns.map V.int)/\ns.length<=1000/\(∀n∈ns,-1000<=n/\n<=1000)/\Q (.int ns.sum) H):=by
 intro pins s σ H xs us Q I r h;obtain⟨p,ns,rfl,hq,hl,hn,q⟩:=h;obtain⟨u,rfl,rx⟩:=eI r;cases rx;obtain⟨its,rv,pl,hz⟩:=I.list hq;have hlen:=rv.length;rw [length_map]at hlen;have hlt:p<s.heap.objs.size:=by obtain⟨_,e,_⟩:=pl.isList;exact zjT e
 have long:∀z:Int,-1000000<=z->z<=1000000->InLong z:=fun z h1 h2=>by unfold InLong;omega
 refine call_sum_walk (wpAny_pyIter_list pl.isList ?_);refine⟨s.heap.objs.size,[s.heap.objs.size,p],[s.heap.objs.size],its.toArray.size,_,_,fun i=>(ns[i]?).getD 0,rfl,Walks.list (A:=X.A.in1) (by simp [I.ok.hd hc]) _ p (ne_of_lt hlt) its.toArray,⟨⟨_,get?_push_size _ rfl,rfl,rfl⟩,pl.isList.push _⟩,fun b hb=> ?_,fun i v hP=> ?_,fun j hj=> ?_,fun h' tk t' hk=> ?_⟩
 ·show b<(s.heap.push _).objs.size;rw [size_push];rcases mem_cons.mp hb with z|z
  ·rw [z];exact lt_succ_self _
  ·rw [mem_singleton.mp z];exact lt_succ_of_lt hlt
 ·have hP':its[i]?=some v:=by simpa using hP
  have hi:i<ns.length:=by rw [hlen];exact(zjW.mp hP').1
  obtain⟨u,hu,ru⟩:=rv.get (i:=i) (x:=.int ns[i]) (by rw [getElem?_map];simp [hi]);rw [hP']at hu;cases hu;obtain⟨t,rfl⟩:=ru;exact⟨t,by simp [hi]⟩
 ·have hj':j<ns.length:=by rw [size_toArray]at hj;omega
  refine⟨?_,?_⟩
  ·have:=hn ns[j] (getElem_mem hj');have e:(ns[j]?).getD 0=ns[j]:=by simp [hj']
   show InLong ((ns[j]?).getD 0);rw [e];exact long _ (by omega) (by omega)
  ·rw [lS];have:=qL (B:=1000) (by decide) (ns:=ns.take (j+1)) fun n h=>hn n (mem_of_mem_take h);have h2:(ns.take (j+1)).length<=1000:=by rw [length_take];omega
   exact long _ (by omega) (by omega)
 ·have e:preSum (fun i=>(ns[i]?).getD 0) its.toArray.size=ns.sum:=by
   rw [lS,size_toArray,←hlen,take_of_length_le (zjQ _)]
  rw [e];exact⟨.int _,H,I.kept (h':=h') (t':=tk) (LSm.kept_iter hk),⟨_,rfl⟩,q⟩
theorem oK {pins:List (Addr×Obj)}{σ:St}{H:Hp}{s:Shared}{A:Around}{a p:Addr}{c d:Int×Int}(I:Inv X pins σ H s)(hu:A.units<cLine)(ha:H a=some (.tup [.int d.1,.int d.2]))(hp:H p=some (.tup [.int c.1,.int c.2])):SeqAt.EqAt A s (.ref a) (.ref p) (decide (d=c)):=by
 by_cases hap:a=p
 ·subst hap;rw [ha]at hp;have e:d=c:=by
   injection hp with z;injection z with z;injection z with z1 z2;injection z2 with z2 _;exact Prod.ext (V.int.inj z1) (V.int.inj z2)
  rw [zjV e];exact SeqAt.EqAt.same _
 ·obtain⟨its,r1,p1,_⟩:=I.tuple (SqT.of ha);obtain⟨jts,r2,p2,_⟩:=I.tuple (SqT.of hp);obtain⟨x1,x2,rfl,⟨t1,rfl⟩,⟨t2,rfl⟩⟩:=r1.two;obtain⟨y1,y2,rfl,⟨u1,rfl⟩,⟨u2,rfl⟩⟩:=r2.two;have key:SeqAt.RcAt A s (.ref a) (.ref p) ((List.range (min 2 2)).all (fun j=>if j=0 then d.1==c.1 else d.2==c.2)&&(2:Nat)==2):=SeqAt.RcAt.tuples (items:=#[.int d.1 t1,.int d.2 t2]) (items2:=#[.int c.1 u1,.int c.2 u2]) p1 p2 hu fun j h1 h2=>by
   match j,h1,h2 with
   |0,_,_=>exact SeqAt.EqAt.int_int _ _ _ _
   |1,_,_=>exact SeqAt.EqAt.int_int _ _ _ _
  have e:((List.range (min 2 2)).all (fun j=>if j=0 then d.1==c.1 else d.2==c.2)&&(2:Nat)==2)=decide (d=c):=by
   obtain⟨d1,d2⟩:=d;obtain⟨c1,c2⟩:=c;show(List.all [0,1] _&&true)=_;simp only [all_cons,List.all_nil,Bool.and_true,if_true,Nat.one_ne_zero,if_false];rw [Bool.eq_iff_iff];simp
  rw [e]at key;exact SeqAt.EqAt.of_refs hap key
def A8m:R2:=fun x y H Q=> ∃p l ps cs c,x= .ref p/\y= .ref l/\H p=some (.tup [.int c.1,.int c.2])/\H l=some (.lst (ps.map V.ref))/\PlAt H ps cs/\Q (.bl (decide (c∈cs))) H
theorem yP (he:∀a d,H a=some (.tup [.int d.1,.int d.2])->e (.ref a)=decide (d=c)):∀{ps:List Addr}{cs:List (Int×Int)}{us:List Value},PlAt H ps cs->Vals (ps.map V.ref) us->us.any e=decide (c∈cs)
 |_,_,_,.nil,.nil=>by simp
 |p::ps,d::cs,u::us,.cons h t,.cons r v=>by
  cases (show u=Value.ref p from r);rw [any_cons,he p d h,yP he t v,Bool.eq_iff_iff];simp only [Bool.or_eq_true,decide_eq_true_eq,mem_cons];constructor
  ·rintro(z|z)
   ·exact .inl z.symm
   ·exact .inr z
  ·rintro(z|z)
   ·exact .inl z.symm
   ·exact .inr z
theorem A2p:∀{ps:List Addr}{cs:List (Int×Int)}{us:List Value},PlAt H ps cs->Vals (ps.map V.ref) us->∀u∈us,∃(a:Addr)(d:Int×Int),u= .ref a/\H a=some (.tup [.int d.1,.int d.2])
 |_,_,_,.nil,.nil=>fun u hu=>by cases hu
 |p::ps,d::cs,u::us,.cons h t,.cons r v=>fun w hw=>by
  cases (show u=Value.ref p from r);rcases mem_cons.mp hw with z|z
  ·exact⟨p,d,z,h⟩
  ·exact A2p t v w z
open Classical in
theorem A59 (hu:X.A.units+1<cLine):OpR X (compareOp .In) A8m:=by
 intro pins s σ H x y v u Q I rx ry h;obtain⟨p,l,ps,cs,c,rfl,rfl,hp,hl,hP,q⟩:=h;cases rx;cases ry;obtain⟨its,r,pl,hz⟩:=I.list (SqL.of hl);let e:Value->Bool:=fun y=>decide (∃a,y= .ref a/\H a=some (.tup [.int c.1,.int c.2]));have he:∀a d,H a=some (.tup [.int d.1,.int d.2])->e (.ref a)=decide (d=c):=fun a d ha=>by
  show decide (∃a',Value.ref a= .ref a'/\_)=_;rw [Bool.eq_iff_iff];simp only [decide_eq_true_eq];constructor
  ·rintro⟨a',z1,z2⟩;cases z1;rw [ha]at z2;injection z2 with z;injection z with z;injection z with z1 z2;injection z2 with z2 _
   exact Prod.ext (V.int.inj z1) (V.int.inj z2)
  ·intro z;subst z;exact⟨a,rfl,ha⟩
 refine SeqAt.in_listAt e pl.isList (fun y hy=> ?_) ⟨.bl _,H,I,rfl,?_⟩
 ·obtain⟨a,d,rfl,ha⟩:=A2p hP r y (by simpa using hy);rw [he a d ha];exact oK I (show X.A.units+1<cLine from hu) ha hp
 ·rw [show its.toArray.any e=its.any e by simp,yP he hP r];exact q
end
section
end
section
variable {X:Cx}{x:Str}{z:Str}{j:Nat}{np p1 cpos pos:Pos}{C:Addr}{E:XK}
end
def Cx.within (X:Cx)(e:Addr)(oe:Obj):Cx:={X with A:=X.A.mark (some (.ref e)),calm:=false,pn:=(e,oe)::X.pn,xe:=fun _ _=>False}
section
end
section
variable {X:Cx}{E:XK}{R:VK}{y n:Str}{i:Nat}{Cy:Addr}{b₀:Stmt}{suite:List Stmt}{np hp:Pos}{tS:Addr->Obj->TS}
end
section
variable {P:Program}{w:World}{K:W.Frag}{mg:Str->Option Value}{base:Heap}
end
end L2
namespace L2
open PySem PySem.Spec PyProof.Rows Grd
theorem GridAt.same (h:GridAt H a g)(s:Same H H'):GridAt H' a g:=h.ext s.ext
theorem A11 {K:W.Frag}{a l:Addr}{g:bF}{bs:List Addr}{f:Int->Bool}{H0:Hp}{tt2:TT}{Q:St->Hp->Prop}(ha:H0 a=some (.tup (bs.map V.ref)))(hG:RowsG H0 bs g)(hl:H0 l=none)(h4:g.length<=4)(h6:∀xs∈g,xs.length<=6)
  (htt:∀(at' k:Nat)(r:V)(i:Int) H' (Q':Bool->Hp->Prop),Q' (f i) H'->tt2 [some (.int at'),some r,some (.int k),some (.int i)] H' Q')
  (hQ:∀σ H' ps,Same H0 H'->H' l=some (.lst (ps.map V.ref))->PlAt H' ps (bA f g)->Q σ H'):
  cX (Ite fun H xs=>SqT K H a xs) (kK K 2 (fM (dD 0) (fM (dD 1) kF))) (cI iD (pM (A3e K (bY (cY 1) iR)) (kK K 2 (fM (dD 2) (fM (dD 3) kF))) tt2 (fA l (mD (bY (cY 0) (bY (cY 2) iR)))))) (eC Q) [none,none,none,none] (upd H0 l (.lst [])):=by
 have s0:Same H0 (upd H0 l (.lst [])):=aG hl;have hbs:bs.length=g.length:=Paired.length hG;refine pP (xs:=bs.map V.ref) (fun i σ H'=>σ.length=4/\Same H0 H'/\∃ps,H' l=some (.lst (ps.map V.ref))/\PlAt H' ps (bA f (g.take i))/\ps.length<=6*i) ⟨rfl,s0,[],by rw [aD];rfl,.nil,zero_le _⟩ (fun i σ H' _ h=>SqT.of (h.2.1 _ _ ha)) ?_ ?_
 ·rintro i r p σ H' hx ⟨hσ,hs,ps,hl',hP,hn⟩ hp;obtain⟨b,hbi,rfl⟩:∃b,bs[i]?=some b/\V.ref b=r:=by
   rw [getElem?_map]at hx;cases e:bs[i]? with
   |none=>rw [e]at hx;cases hx
   |some b=>rw [e]at hx;exact⟨b,rfl,Option.some.inj hx⟩
  obtain⟨xs,hgi,hb⟩:=hG.row hbi;have hx6:=h6 xs (mem_of_getElem? hgi);have hi4:i<4:=lt_of_lt_of_le (zjW.mp hgi).1 h4;have s1:Same H' (upd H' p (.tup [.int i,.ref b])):=aG hp
  match σ,hσ with
  | [x0,x1,x2,x3],_=>
  refine⟨p,_,rfl,SqT.of aD,rfl,_,_,rfl,_,_,rfl,rfl,?_⟩;refine gZ ?_;refine⟨_,rfl,b,xs.map V.int,rfl,SqT.of (s1 _ _ (hs _ _ hb)),?_⟩;refine pP (xs:=xs.map V.int) (fun j σ H2=>(∃y2 y3,σ=[some (.int i),some (.ref b),y2,y3])/\Same H0 H2/\∃ps,H2 l=some (.lst (ps.map V.ref))/\PlAt H2 ps (bA f (g.take i)++eM f i (xs.take j))/\ps.length<=6*i+j) ?_ (fun j σ H2 _ h=>SqT.of (h.2.1 _ _ hb)) ?_ ?_
  ·exact⟨⟨x2,x3,rfl⟩,hs.trans s1,ps,s1 _ _ hl',by simpa [eM]using hP.same s1,hn⟩
  ·rintro j x p2 σ H2 hxj ⟨⟨y2,y3,rfl⟩,hs2,ps2,hl2,hP2,hn2⟩ hp2;obtain⟨z,hzj,rfl⟩:∃z,xs[j]?=some z/\V.int z=x:=by
    rw [getElem?_map]at hxj;cases e:xs[j]? with
    |none=>rw [e]at hxj;cases hxj
    |some z=>rw [e]at hxj;exact⟨z,rfl,Option.some.inj hxj⟩
   have hj6:j<6:=lt_of_lt_of_le (zjW.mp hzj).1 hx6;have s2:Same H2 (upd H2 p2 (.tup [.int j,.int z])):=aG hp2;refine⟨p2,_,rfl,SqT.of aD,rfl,_,_,rfl,_,_,rfl,rfl,?_⟩;refine htt i j (.ref b) z _ _ (cF (fun e=> ?_) fun e=> ?_)
   ·refine⟨_,rfl,_,rfl,(by show 2<=sizeLine;decide),fun q hq=> ?_⟩;have s3:=aG (o:=.tup [.int i,.int j]) hq;have hlq:l≠q:=bL (s2 _ _ hl2) hq;refine⟨_,s3 _ _ (s2 _ _ hl2),cM (by rw [length_map];omega),⟨_,_,rfl⟩,fun b' u e'=> ?_,ps2++[q],?_,?_,?_⟩
    ·rw [aV (bL e' hl)];exact s3 _ _ (s2 _ _ (hs2 _ _ e'))
    ·rw [aD,map_append];rfl
    ·have hne:∀b' u,(upd (upd H2 p2 (.tup [.int j,.int z])) q (.tup [.int i,.int j])) b'=some (.tup u)->(upd (upd (upd H2 p2 (.tup [.int j,.int z])) q (.tup [.int i,.int j])) l (.lst (ps2.map V.ref++[.ref q]))) b'=some (.tup u):=fun b' u e'=>by
      rw [aV (fun z'=> ?_)];exact e';rw [z',aV hlq,s2 _ _ hl2]at e';cases e'
     rw [Grd.rowF_succ f i xs j _ hzj,if_pos e,←append_assoc];exact PlAt.snoc (Paired.mapP ((hP2.same s2).same s3) fun _ _ e'=>hne _ _ e') (hne _ _ aD)
    ·rw [length_append];show ps2.length+1<=_;omega
   ·refine⟨⟨_,_,rfl⟩,hs2.trans s2,ps2,s2 _ _ hl2,?_,by omega⟩;rw [Grd.rowF_succ f i xs j _ hzj,if_neg (by rw [e];decide),append_nil];exact hP2.same s2
  ·rintro σ H2 ⟨⟨y2,y3,rfl⟩,hs2,ps2,hl2,hP2,hn2⟩;rw [length_map]at hP2 hn2;refine⟨rfl,hs2,ps2,hl2,?_,by omega⟩;rw [take_of_length_le (zjQ _)]at hP2;rw [Grd.gridF_succ f g i _ hgi];exact hP2
 ·rintro σ H' ⟨_,hs,ps,hl',hP,_⟩;rw [length_map,hbs,take_of_length_le (zjQ _)]at hP;exact hQ σ H' ps hs hl' hP
theorem GridAt.ix {H:Hp}{a:Addr}{g:bF}(hA:GridAt H a g){i j:Nat}{xs:List Int}{x:Int}(h1:g[i]?=some xs)(h2:xs[j]?=some x):∃(bs:List Addr)(b:Addr),H a=some (.tup (bs.map V.ref))/\atI (bs.map V.ref) i=some (.ref b)/\H b=some (.tup (xs.map V.int))/\atI (xs.map V.int) j=some (.int x):=by obtain⟨bs,ha,hG⟩:=hA;obtain⟨b,hb,hr⟩:=hG.get h1;exact⟨bs,b,ha,cK (by rw [getElem?_map,hb];rfl),hr,cK (by rw [getElem?_map,h2];rfl)⟩
end L2
namespace M10
open PySem L2 PyProof.Rows Grd
def eY (f:Int->Bool):Sp:=fun vs H Q _=> ∃a g w,vs=[.ref a]/\GridAt H a g/\dO g w/\∀H' l ps,H l=none->Same H H'->H' l=some (.lst (ps.map V.ref))->PlAt H' ps (bA f g)->Q (.ref l) H'
def A1j:Sp:=fun vs H Q _=> ∃b xs,vs=[.ref b]/\H b=some (.tup ((xs:List Int).map V.int))/\1<=xs.length/\xs.length<=6/\(∀n∈xs,-2<=n/\n<=99)/\∀H',Same H H'->Q (.bl true) H'
def tI:Sp:=fun vs H Q _=> ∃a g w,vs=[.ref a]/\GridAt H a g/\dO g w/\∀H',Same H H'->Q (.bl true) H'
theorem xW {H:Hp}{a:Addr}{xs:List V}{lo hi:Int}(h:H a=some (.tup xs))(h1:lo<=xs.length)(h2:(xs.length:Int)<=hi):dX H lo hi (.ref a)=true:=by
 unfold dX;rw [iF h];dsimp only
 rw [zjV h1,zjV h2];rfl
theorem qU (xs:List α):(xs.map fun _=>true).all id=true:=by simp
def nS:Sp:=fun vs H Q _=> ∃a g w,vs=[.ref a]/\GridAt H a g/\dO g w/\∀H',Same H H'->Q .non H'
def dY (H:Hp)(v:V):Option (Int×Int):=match tupOf H v with
 |some [.int r,.int c]=>some (r,c)
 |_=>none
def isCell (H:Hp)(g:bF)(v:V):Bool:=match dY H v with
 |some c=>decide (c∈bA pos g)
 |none=>false
def zJ:Sp:=fun vs H Q _=> ∃a g w v,vs=[.ref a,v]/\GridAt H a g/\dO g w/\Kn H 2 v/\∀H',Same H H'->Q (.bl (isCell H g v)) H'
section
variable {P:Program}{w:World}{K:W.Frag}{mg:Str->Option Value}{base:Heap}
theorem B10 (F:D1 K mg "places_of_cells" qX ["mead"])(T:Txt mg):A1 P w K mg base 1 "places_of_cells" (eY pos):=by
 refine F.k ["mead"] ?_;ac_nf
 ·obtain⟨a,g,w',rfl,⟨bs,ha,hG⟩,G,q⟩:=h;refine⟨_,aR (aY (wT (bD qX).names ["mead"] ["at","row","k","mark"] [] rfl (lB rfl rfl T.enumerate (bC (pv 0) aA)) rfl rfl rfl (by decide +kernel)
   (fun Z=>bU rfl (aW (nm1 0 nd4) (aW (nm1 1 nd4) bT))) (fun Z=>cA)
   (fun Z=>lB rfl rfl T.enumerate (bC (pv 1) aA)) (fun Z=>bU rfl (aW (nm1 2 nd4) (aW (nm1 3 nd4) bT)))
   (fun Z=>eE (cB mG (pv 3) aM (nomark _))) (fun Z=>cD (bC (pv 0) (bC (pv 2) aA))))),?_⟩
  refine⟨_,rfl,a,_,rfl,SqT.of ha,fun Z l hl=> ?_⟩;exact A11 (f:=pos) ha hG hl G.h4 (fun xs hx=>by have:=G.len xs hx;have:=G.w5;omega) (fun at' k r i H' Q' hq=> ⟨_,rfl,_,_,rfl,rfl,_,rfl,hq⟩) fun σ H' ps hs hl' hP=>q H' l ps hl hs hl' hP
theorem A3p (F:D1 K mg "is_row" vC ["thing"])(T:Txt mg)(a1:A1 P w K mg base 1 "is_tuple_within" iW)(a2:A1 P w K mg base 2 "is_number_within" mF):A1 P w K mg base 3 "is_row" A1j:=by
 obtain⟨t1,mCol⟩:=T.cols;obtain⟨t2,mWa⟩:=T.water;obtain⟨t3,mWo⟩:=T.worth;refine F.k ["thing"] ?_;ac_nf
 ·obtain⟨b,xs,rfl,hb,h1,h6,hn,q⟩:=h;refine⟨_,aU (bR (cE (bN (a1.c hr (bC (pv 0) (bC aM (bC (fN (v:=.int 6) rfl mCol ⟨_,rfl⟩) aA)))))) (aR (aY cZ)) bQ)
   (aR (aY (bE (fU rfl) rfl T.all boot_all (bC (bM (bD vC).names ["thing"] ["mark"] [] rfl (cP (pv 0)) rfl rfl rfl (by decide +kernel)
    (fun Z=>aJ (i:=0) (show(["mark"]:List Str).Nodup by decide +kernel) rfl (Or.inl rfl)) (fun Z=>cA)
    (fun Z=>a2.c hr (bC (pv 0) (bC (fN (v:=.int (-2)) rfl mWa ⟨_,rfl⟩) (bC (fN (v:=.int 99) rfl mWo ⟨_,rfl⟩) aA))))) aA)))),?_⟩
  have hz:(xs.map V.int).length<=1000:=by rw [length_map];omega
  refine⟨_,rfl,.ref b,1,6,rfl,.inr (.inr ⟨_,hb,hz,fun _ _=>trivial⟩),_,rfl,?_⟩;rw [xW hb (by rw [length_map];omega) (by rw [length_map];omega)];refine bX ⟨_,rfl,b,rfl,⟨_,SqT.of hb⟩,fun Z l hl=> ?_⟩;refine jC (fun _=> .bl true) hb hl hz (fun x H' Q' hm hs hq=> ?_) fun σ H' hs hl'=> ?_
  ·obtain⟨n,hn',rfl⟩:=mem_map.mp hm;have:=hn n hn';refine⟨_,rfl,.int n,-2,99,rfl,trivial,?_⟩;rw [show cS (-2) 99 (.int n)=true by simp [cS,this]];exact hq _ (Same.refl _)
  ·refine⟨l,(xs.map V.int).map fun _=>true,rfl,SqL.of (by rw [hl'];simp only [map_map];rfl),?_⟩;rw [qU];exact q H' hs
theorem A4g (F:D1 K mg "is_mead" nJ ["thing"])(T:Txt mg)(a1:A1 P w K mg base 1 "is_tuple_within" iW)(a2:A1 P w K mg base 3 "is_row" A1j)(a3:A1 P w K mg base 1 "places_of_cells" (eY pos)):A1 P w K mg base 4 "is_mead" tI:=by
 obtain⟨t1,mRow⟩:=T.rows;obtain⟨t2,mCel⟩:=T.cells;refine F.k ["thing"] ?_;ac_nf
 ·obtain⟨a,g,w',rfl,hA,G,q⟩:=h;refine⟨_,aU (bR (cE (bN (a1.c hr (bC (pv 0) (bC aM (bC (fN (v:=.int 4) rfl mRow ⟨_,rfl⟩) aA)))))) (aR (aY cZ)) bQ)
   (aU (bR (cE (bN (bE (fU rfl) rfl T.all boot_all (bC (bM (bD nJ).names ["thing"] ["row"] [] rfl (cP (pv 0)) rfl rfl rfl (by decide +kernel)
    (fun Z=>aJ (i:=0) (show(["row"]:List Str).Nodup by decide +kernel) rfl (Or.inl rfl)) (fun Z=>cA) (fun Z=>a2.c hr (bC (pv 0) aA))) aA)))) (aR (aY cZ)) bQ)
   (aU (bR (cE (bN (bE (fU rfl) rfl T.all boot_all (bC (bM (bD nJ).names ["thing"] ["row"] [("thing",0)] rfl (cP (pv 0)) rfl rfl rfl (by decide +kernel)
    (fun Z=>aJ (i:=0) (show(["row","thing"]:List Str).Nodup by decide +kernel) rfl (Or.inl rfl)) (fun Z=>cA)
    (fun Z=>cW fY (bE dM rfl T.len PySem.boot_len (bC (pv 0) aA)) (bE dM rfl T.len PySem.boot_len (bC (bJ bW (pv 1) aM (fun _ _=>rfl)) aA)) (nomark _))) aA)))) (aR (aY cZ)) bQ)
   (aR (aY (nQ iI iI aM (bE dM rfl T.len PySem.boot_len (bC (a3.c hr (bC (pv 0) aA)) aA)) (fN (v:=.int 10) rfl mCel ⟨_,rfl⟩)))))),?_⟩
  obtain⟨bs,ha,hG⟩:=id hA;have hbl:bs.length=g.length:=Paired.length hG;have h4:=G.h4;have h1:=G.h1;have w5:=G.w5;have hz:(bs.map V.ref).length<=1000:=by rw [length_map];omega
  refine⟨_,rfl,.ref a,1,4,rfl,.inr (.inr ⟨_,ha,hz,fun _ _=>trivial⟩),_,rfl,?_⟩;rw [xW ha (by rw [length_map];omega) (by rw [length_map];omega)];refine bX ⟨_,rfl,a,rfl,⟨_,SqT.of ha⟩,fun Z l hl=> ?_⟩;have row:∀x∈bs.map V.ref,∃b xs,x= .ref b/\H b=some (.tup ((xs:List Int).map V.int))/\xs∈g:=fun x hx=>by
   obtain⟨b,hb,rfl⟩:=mem_map.mp hx;obtain⟨i,hi⟩:=mem_iff_getElem?.mp hb;obtain⟨xs,h1,h2⟩:=hG.row hi;exact⟨b,xs,rfl,h2,mem_of_getElem? h1⟩
  refine jC (fun _=> .bl true) ha hl hz (fun x H' Q' hm hs hq=> ?_) fun σ H1 s1 hl1=> ?_
  ·obtain⟨b,xs,rfl,hb,hx⟩:=row x hm;have:=G.len xs hx;have:=G.w1;exact⟨_,rfl,b,xs,rfl,hs _ _ hb,by omega,by omega,G.num xs hx,fun H3 s3=>hq H3 s3⟩
  ·refine⟨l,(bs.map V.ref).map fun _=>true,rfl,SqL.of (by rw [hl1];simp only [map_map];rfl),_,rfl,?_⟩;rw [qU];refine bX ⟨_,rfl,a,rfl,⟨_,SqT.of (s1 _ _ ha)⟩,fun Z2 l2 hl2=> ?_⟩;refine jC (rest:=[some (.ref a)]) (fun _=> .bl true) (s1 _ _ ha) hl2 hz (fun x H' Q' hm hs hq=> ?_) fun σ H2 s2 hl2'=> ?_
   ·obtain⟨b,xs,rfl,hb,hx⟩:=row x hm;obtain⟨xs0,e0⟩:∃xs0,g[0]?=some xs0:=⟨g[0],getElem?_eq_getElem (by omega)⟩;obtain⟨b0,hb0,eb0⟩:=hG.get e0;have sH:=s1.trans hs;refine⟨_,rfl,b,_,rfl,.inr (SqT.of (sH _ _ hb)),_,rfl,a,_,0,.ref b0,rfl,rfl,SqT.of (sH _ _ ha),cK (j:=0) (by rw [getElem?_map,hb0];rfl),b0,_,rfl,.inr (SqT.of (sH _ _ eb0)),rfl,?_⟩;rw [zjV (by rw [length_map,length_map,G.len xs hx,G.len xs0 (mem_of_getElem? e0)])];exact hq _ (Same.refl _)
   ·refine⟨l2,(bs.map V.ref).map fun _=>true,rfl,SqL.of (by rw [hl2'];simp only [map_map];rfl),_,rfl,?_⟩;rw [qU];have s12:=s1.trans s2;refine bX ⟨_,rfl,a,g,w',rfl,hA.same s12,G,fun H3 l3 ps hl3' s3 hl3 hP=> ?_⟩;have hp:ps.length=_:=Paired.length hP;rw [fE]at hp;have c1:=G.c1;have c10:=G.c10;refine⟨l3,_,rfl,.inl (SqL.of hl3),_,_,rfl,rfl,_,rfl,fI (fun z=> ?_) fun z=>absurd ?_ z⟩
    ·refine⟨_,_,rfl,rfl,?_⟩;dsimp only
     rw [zjV (show(((ps.map V.ref).length:Nat):Int)<=10 by rw [length_map];omega)];exact q H3 (s12.trans s3)
    ·rw [length_map];omega
theorem A8q (F:D1 K mg "check_mead" wP ["mead"])(aI:A1 P w K mg base 4 "is_mead" tI):A1 P w K mg base 5 "check_mead" nS:=by
 refine F.k ["mead"] ?_;ac_nf
 ·obtain⟨a,g,w',rfl,hA,G,q⟩:=h;refine⟨_,aR (bR (cE (bN (aI.c hr (aB (pv 0) aA)))) iB bQ),?_⟩;exact⟨_,rfl,a,g,w',rfl,hA,G,fun H' hs=> ⟨_,rfl,bX (q H' hs)⟩⟩
theorem A6q (F:D1 K mg "cells_of" A0t ["mead"])(aC:A1 P w K mg base 5 "check_mead" nS)(aP:A1 P w K mg base 1 "places_of_cells" (eY pos)):A1 P w K mg base 6 "cells_of" (eY pos):=by
 refine F.k ["mead"] ?_;ac_nf
 ·obtain⟨a,g,w',rfl,hA,G,q⟩:=h;refine⟨_,aU (eF (aC.c hr (aB (pv 0) aA)))<|aR (aY (aP.c hr (aB (pv 0) aA))),?_⟩;refine⟨_,rfl,a,g,w',rfl,hA,G,fun H1 s1=> ?_⟩;exact⟨_,rfl,a,g,w',rfl,hA.same s1,G,fun H2 l ps hl s2 hl' hP=>q H2 l ps (s1.free hl) (s1.trans s2) hl' hP⟩
theorem B0c (F:D1 K mg "roads_of" qM ["mead"])(T:Txt mg)(T2:dC mg)(aC:A1 P w K mg base 5 "check_mead" nS):A1 P w K mg base 6 "roads_of" (eY road):=by
 obtain⟨tR,mR⟩:=T2.road;refine F.k ["mead"] ?_;ac_nf
 ·obtain⟨a,g,w',rfl,hA,G,q⟩:=h;refine⟨_,aU (eF (aC.c hr (aB (pv 0) aA)))<|aR (aY (wT (bD qM).names ["mead"] ["at","row","k","mark"] [] rfl (lB rfl rfl T.enumerate (bC (pv 0) aA)) rfl rfl rfl (by decide +kernel)
   (fun Z=>bU rfl (aW (nm1 0 nd4) (aW (nm1 1 nd4) bT))) (fun Z=>cA)
   (fun Z=>lB rfl rfl T.enumerate (bC (pv 1) aA)) (fun Z=>bU rfl (aW (nm1 2 nd4) (aW (nm1 3 nd4) bT)))
   (fun Z=>eE (cB fY (pv 3) (fN (v:=.int (-1)) rfl mR ⟨_,rfl⟩) (nomark _))) (fun Z=>cD (bC (pv 0) (bC (pv 2) aA))))),?_⟩
  refine⟨_,rfl,a,g,w',rfl,hA,G,fun H1 s1=> ?_⟩;obtain⟨bs,ha,hG⟩:=hA.same s1;refine⟨_,rfl,a,_,rfl,SqT.of ha,fun Z l hl=> ?_⟩;refine A11 (f:=road) ha hG hl G.h4 (fun xs hx=>by have:=G.len xs hx;have:=G.w5;omega) (fun at' k r i H' Q' hq=> ⟨_,rfl,rfl,_,rfl,?_⟩) fun σ H' ps hs hl' hP=>q H' l ps (s1.free hl) (s1.trans hs) hl' hP;have e:decide (V.int i=V.int (-1))=road i:=by
   unfold road;rw [Bool.eq_iff_iff];simp
  rw [e];exact hq
def A1k:Sp:=fun vs H Q _=> ∃v,vs=[v]/\Kn H 2 v/\∀H',Same H H'->Q (.bl (dY H v).isSome) H'
theorem A93 (F:D1 K mg "is_pair_of_numbers" rG ["thing"])(T:Txt mg)(aT:A1 P w K mg base 1 "is_tuple_within" iW)(aN:A1 P w K mg base 1 "is_number" oT):A1 P w K mg base 2 "is_pair_of_numbers" A1k:=by
 refine F.k ["thing"] ?_;ac_nf
 ·obtain⟨v,rfl,k,q⟩:=h;refine⟨_,aR (aY (fP (aT.c hr (aB (pv 0) (cN aM (cN aM aA)))) (fO (bE (fU rfl) rfl T.all boot_all (cJ (bM (bD rG).names ["thing"] ["number"] [] rfl (cP (pv 0)) rfl rfl rfl (by decide +kernel)
    (fun Z=>aJ (i:=0) (show(["number"]:List Str).Nodup by decide +kernel) rfl (Or.inl rfl)) (fun Z=>cA) (fun Z=>aN.c hr (aB (pv 0) aA))) aA))))),?_⟩
  refine⟨_,rfl,v,2,2,rfl,k.le (by decide),_,rfl,cF (fun e'=> ?_) fun e'=> ?_⟩
  ·unfold dX at e';cases z:tupOf H v with
   |none=>rw [z]at e';cases e'
   |some xs=>
    rw [z]at e';obtain⟨p,rfl,hp⟩:=eZ z;obtain⟨hz,hk⟩:=k.items hp;have hlen:xs.length=2:=by
     simp only [Bool.and_eq_true,decide_eq_true_eq]at e';omega
    refine⟨_,rfl,p,rfl,⟨xs,SqT.of hp⟩,fun Z l hl=> ?_⟩;refine jC (fun x=> .bl (isInt x)) hp hl hz (fun x H' Q' hm hs hq=> ?_) fun σ H1 s1 hl1=> ?_
    ·exact⟨_,rfl,x,rfl,(hk x hm).ext hs.ext,hq _ (Same.refl _)⟩
    ·refine⟨l,xs.map isInt,rfl,SqL.of (by rw [hl1,map_map];rfl),?_⟩;have:(dY H (.ref p)).isSome=(xs.map L2.isInt).all id:=by
      unfold dY;rw [z]
      match xs,hlen with
      | [x,y],_=>cases x<;>cases y<;>rfl
     have q':=q H1 s1;rw [this]at q';exact q'
  ·have:(dY H v).isSome=false:=by
    unfold dX at e';unfold dY;cases z:tupOf H v with
    |none=>rfl
    |some xs=>
     rw [z]at e'
     match xs,e' with
     | [x,y],e'=>simp at e'
     | [],_=>rfl
     | [x],_=>cases x<;>rfl
     |x::y::u::t,_=>cases x<;>cases y<;>rfl
   have q':=q H (Same.refl H);rw [this]at q';exact q'
theorem A81 (F:D1 K mg "is_cell" A0v ["mead","thing"])(aT:A1 P w K mg base 2 "is_pair_of_numbers" A1k)(aP:A1 P w K mg base 1 "places_of_cells" (eY pos)):A1 P w K mg base 3 "is_cell" zJ:=by
 refine F.k ["mead","thing"] ?_;ac_nf
 ·obtain⟨a,g,w',v,rfl,hA,G,k,q⟩:=h;refine⟨_,aR (aY (fP (aT.c hr (aB (pv 1) aA)) (fO (cW (A59 (pE hr)) (pv 1) (aP.c hr (aB (pv 0) aA)) rfl)))),?_⟩;refine⟨_,rfl,v,rfl,k,fun H1 s1=> ⟨_,rfl,cF (fun e=> ?_) fun e=> ?_⟩⟩
  ·obtain⟨⟨r,c⟩,z⟩:=Option.isSome_iff_exists.mp e;have zt:tupOf H v=some [.int r,.int c]:=by
    unfold dY at z
    split at z
    ·rename_i r2 c2 hz;injection z with z;injection z with z1 z2
     subst z1 z2;exact hz
    ·cases z
   obtain⟨p,rfl,hp⟩:=eZ zt;refine⟨_,rfl,_,rfl,a,g,w',rfl,hA.same s1,G,fun H2 l2 ps hl2 s2 hl2' hP=> ?_⟩;refine⟨p,l2,ps,bA pos g,(r,c),rfl,rfl,s2 _ _ (s1 _ _ hp),hl2',hP,?_⟩;have:isCell H g (.ref p)=decide ((r,c)∈bA pos g):=by unfold isCell;rw [z]
   have q':=q H2 (s1.trans s2);rw [this]at q';exact q'
  ·have:isCell H g v=false:=by
    unfold isCell;cases z:dY H v with
    |none=>rfl
    |some c=>rw [z]at e;cases e
   have q':=q H1 s1;rw [this]at q';exact q'
def zK:Sp:=fun vs H Q _=> ∃a l g w ps,vs=[.ref a,.ref l]/\GridAt H a g/\dO g w/\H l=some (.lst ((ps:List Addr).map V.ref))/\PlAt H ps (bA pos g)/\∀H',Same H H'->Q (.int (bP g)) H'
theorem pJ:(["row","column","mead"]:List Str).Nodup:=by decide +kernel
theorem A40 (F:D1 K mg "worth_together" mI ["mead","places"])(T2:dC mg):A1 P w K mg base 1 "worth_together" zK:=by
 refine F.k ["mead","places"] fun nd f cdv A outer s H2 vs Q E hr h=> ?_
 ·obtain⟨a,l,g,w',ps,rfl,hA,G,hl',hP,q⟩:=h;refine⟨_,aR (aY (bE (A2f rfl) rfl T2.sum boot_sum (cJ (bM (bD mI).names ["mead","places"] ["row","column"] [("mead",0)] rfl (cT (pv 1)) rfl rfl rfl (by decide +kernel)
    (fun Z=>bU rfl (aW (nm1 0 pJ) (aW (nm1 1 pJ) bT))) (fun Z=>cA) (fun Z=>bJ bW (bJ bW (pv 2) (pv 0) (fun _ _=>rfl)) (pv 1) (fun _ _=>rfl))) aA))),?_⟩
  have s12:Same H2 H2:=Same.refl H2;refine⟨_,rfl,?_⟩;have hpl:ps.length=(bA pos g).length:=Paired.length hP;have h20:ps.length<=10:=by rw [hpl,fE];exact G.c10
  refine⟨l,rfl,⟨_,SqL.of hl'⟩,fun Z l3 hl3=> ?_⟩;refine fX (K:=K) (a:=l) (xs:=ps.map V.ref) (fun i σ H'=>(∃o1 o2,σ=[o1,o2,some (.ref a)])/\Same H2 H'/\H' l3=some (.lst ((((bA pos g).take i).map (atG g)).map V.int))) ⟨⟨_,_,rfl⟩,aG hl3,by rw [aD];rfl⟩ (fun i σ H' _ h=>SqL.of (h.2.1 _ _ hl')) ?_ ?_
  ·rintro i x σ H' hi ⟨⟨o1,o2,rfl⟩,hs,hl3'⟩;obtain⟨p,hpi,rfl⟩:∃p,ps[i]?=some p/\V.ref p=x:=by
    rw [getElem?_map]at hi;cases e:ps[i]? with
    |none=>rw [e]at hi;cases hi
    |some p=>rw [e]at hi;exact⟨p,rfl,Option.some.inj hi⟩
   have hil:i<ps.length:=(zjW.mp hpi).1;obtain⟨cc,hci,hpc⟩:∃cc,(bA pos g)[i]?=some cc/\H2 p=some (.tup [.int cc.1,.int cc.2]):=by
    have go:∀{ps:List Addr}{cs:List (Int×Int)}{i:Nat}{p:Addr},PlAt H2 ps cs->ps[i]?=some p->∃cc,cs[i]?=some cc/\H2 p=some (.tup [.int cc.1,.int cc.2]):=by
     intro ps cs i p h
     induction h generalizing i with
     |nil=>intro z;simp at z
     |cons r t ih=>
      intro z;cases i with
      |zero=>cases z;exact⟨_,rfl,r⟩
      |succ i=>exact ih (by simpa using z)
    exact go hP hpi
   obtain⟨i',j',xs,n,rfl,hg,hx,hf⟩:=mem_gridF.mp (mem_of_getElem? hci);obtain⟨bs,b,h1,h2,h3,h4⟩:=(hA.same (s12.trans hs)).ix hg hx;refine⟨p,_,rfl,SqT.of (hs _ _ hpc),rfl,_,_,rfl,_,_,rfl,rfl,?_⟩;refine gZ ?_;refine⟨_,rfl,_,rfl,a,_,_,_,rfl,rfl,SqT.of h1,h2,_,rfl,b,_,_,_,rfl,rfl,SqT.of h3,h4,?_⟩;refine⟨_,hl3',cM (by rw [length_map,length_map,length_take];omega),⟨_,_,rfl⟩,fun b' u e'=> ?_,?_⟩
   ·rw [aV (bL e' hl3)];exact hs _ _ e'
   ·rw [aD,take_succ,hci,map_append,map_append];show some (HO.lst (_++[V.int n]))=some (HO.lst (_++[V.int (atG g ((i':Int),(j':Int)))]));rw [lC hg hx]
  ·rintro σ H' ⟨_,hs,hl3'⟩;rw [length_map,hpl,take_of_length_le (zjQ _)]at hl3';refine⟨l3,_,rfl,SqL.of hl3',by rw [length_map,←hpl];omega,fun n hn=> ?_,?_⟩
   ·rw [sS]at hn;obtain⟨ys,hy,hny⟩:=List.mem_flatten.mp hn;obtain⟨xs,hxg,rfl⟩:=mem_map.mp hy;have:=G.num xs hxg n (mem_filter.mp hny).1;omega
   ·rw [A2o];exact q H' (s12.trans hs)
end
end M10
namespace Srt
open PySem PySem.W PyProof.Rows
section
def hW (cmp:Nat->Nat->(Bool->Shared->Prop)->Shared->Prop)(n:Nat)(r:Nat->Int)(s:Shared):Prop:=∀i j (C:Bool->Shared->Prop),i<n->j<n->C (decide (r i<r j)) s->cmp i j C s
def at' (p:Array Nat)(k:Nat):Nat:=p.getD k 0
def Pm (n:Nat)(p:Array Nat):Prop:=p.Perm (List.range n).toArray
theorem Pm.size (h:Pm n p):p.size=n:=by rw [Array.Perm.size_eq h];simp
theorem Pm.lt (h:Pm n p)(k:Nat)(hn:0<n):at' p k<n:=by
 unfold at';by_cases hk:k<p.size
 ·have e:p.getD k 0=p[k]:=by simp [Array.getD,hk]
  rw [e];have h1:p[k]∈p.toList:=by simp
  have h2:=(Array.perm_iff_toList_perm.mp h).mem_iff.mp h1;simpa using h2
 ·have e:p.getD k 0=0:=by simp [Array.getD,hk]
  rw [e];exact hn
def R (r:Nat->Int)(p:Array Nat)(k:Nat):Int:=r (at' p k)
def Up (r:Nat->Int)(p:Array Nat)(k:Nat):Prop:=∀i j,i<=j->j<k->R r p i<=R r p j
def Dn (r:Nat->Int)(p:Array Nat)(k:Nat):Prop:=∀i j,i<=j->j<k->R r p j<=R r p i
theorem A7z (h:Up r p k)(h1:R r p (k - 1)<=R r p k):Up r p (k+1):=by
 intro i j hij hj;by_cases e:j<k
 ·exact h i j hij e
 ·have:j=k:=by omega
  subst this;by_cases e2:i=j
  ·subst e2;exact Int.le_refl _
  ·exact Int.le_trans (h i (j - 1) (by omega) (by omega)) h1
theorem qB (h:Dn r p k)(h1:R r p k<=R r p (k - 1)):Dn r p (k+1):=by
 intro i j hij hj;by_cases e:j<k
 ·exact h i j hij e
 ·have:j=k:=by omega
  subst this;by_cases e2:i=j
  ·subst e2;exact Int.le_refl _
  ·exact Int.le_trans h1 (h i (j - 1) (by omega) (by omega))
theorem B1y (hj:j<=p.size)(k:Nat):at' (kas_rev p i j) k=if i<=k/\k<j then at' p (i+j - 1 - k)else at' p k:=by
 have e:=getElem?_mirror_all (xs:=p) (i:=i) hj k;have g:∀(xs:Array Nat)(k:Nat),at' xs k=(xs[k]?).getD 0:=fun xs k=>by unfold at';simp [Array.getD];split<;>simp [*]
 rw [g,g,g];show(mirror p i j ((j - i)/2))[k]?.getD 0=_;rw [e]
 split<;>rfl
theorem vI (hj:j<=p.size)(k:Nat):R r (kas_rev p i j) k=if i<=k/\k<j then R r p (i+j - 1 - k)else R r p k:=by unfold R;rw [B1y hj];split<;>rfl
theorem lM (hj:j<=p.size)(h:∀k,i<=k->k<j->R r p k=R r p (j - 1))(k:Nat):R r (kas_rev p i j) k=R r p k:=by
 rw [vI hj]
 split
 ·rw [h _ (by omega) (by omega),h k (by omega) (by omega)]
 ·rfl
theorem Pm.rev (h:Pm n p)(i j:Nat):Pm n (kas_rev p i j):=Array.Perm.trans (mirror_perm _ _ _ _) h
theorem Pm.bub (h:Pm n p)(k d:Nat):Pm n (bubble p k d):=Array.Perm.trans (bubble_perm _ _ _) h
theorem A0e (hs:src<p.size)(hd:d<=src)(k:Nat):R r (bubble p src d) k=if k=src - d then R r p src else if src - d<k/\k<=src then R r p (k - 1)else R r p k:=by
 have e:=getElem?_bubble (xs:=p) hs d hd k;have g:∀(xs:Array Nat)(k:Nat),at' xs k=(xs[k]?).getD 0:=fun xs k=>by unfold at';simp [Array.getD];split<;>simp [*]
 unfold R;rw [g,e]
 split
 ·rw [g]
 ·split<;>rw [g]
theorem tH (ha:hW cmp n r s)(hn:0<n)(hp:Pm n p):∀(f k:Nat)(Q:Nat->Shared->Prop),1<=k->Up r p k->(∀m,k<=m->m<=k+f->Up r p m->(m=k+f\/R r p m<R r p (m - 1))->Q m s)->(kas_asc p f k).kasWp cmp Q s
 |0,k,Q,h1,hu,h=>h k (zjQ _) (zjQ _) hu (.inl rfl)
 |f+1,k,Q,h1,hu,h=>by
  show cmp (at' p k) (at' p (k - 1)) (fun b s'=>(if b=true then KasT.ret k else kas_asc p f (k+1)).kasWp cmp Q s') s;refine ha _ _ _ (hp.lt _ hn) (hp.lt _ hn) ?_;by_cases c:r (at' p k)<r (at' p (k - 1))
  ·rw [zjV c];exact h k (zjQ _) (by omega) hu (.inr c)
  ·rw [zjU c];refine tH ha hn hp f (k+1) Q (by omega) (A7z hu (Int.not_lt.mp c)) fun m a b u e=>h m (by omega) (by omega) u ?_;rcases e with e|e
   ·left;omega
   ·exact .inr e
theorem qJ (ha:hW cmp n r s)(hn:0<n):∀(f k q:Nat)(p:Array Nat)(Q:Array Nat×Nat×Nat->Shared->Prop),Pm n p->1<=k->k+f<=n->Dn r p k->q+1<=k->(∀i,k -(q+1)<=i->i<k->R r p i=R r p (k - 1))->
  (∀p' m q',Pm n p'->k<=m->m<=k+f->Dn r p' m->q'+1<=m->(∀i,m -(q'+1)<=i->i<m->R r p' i=R r p' (m - 1))->Q (p',m,q') s)->(kas_desc f p k q).kasWp cmp Q s
 |0,k,q,p,Q,hp,h1,hk,hd,hq,he,h=>h p k q hp (zjQ _) (zjQ _) hd hq he
 |f+1,k,q,p,Q,hp,h1,hk,hd,hq,he,h=>by
  have hsz:k<=p.size:=by rw [hp.size];omega
  show cmp (at' p k) (at' p (k - 1)) (fun c s'=>(if c=true then(if q>0 then kas_desc f (kas_rev p (k -(q+1)) k) (k+1) 0 else kas_desc f p (k+1) 0)else KasT.ask (at' p (k - 1)) (at' p k) fun d=>if d=true then KasT.ret (p,k,q)else kas_desc f p (k+1) (q+1)).kasWp cmp Q s') s;refine ha _ _ _ (hp.lt _ hn) (hp.lt _ hn) ?_;by_cases c:r (at' p k)<r (at' p (k - 1))
  ·rw [zjV c];have go:∀p',Pm n p'->(∀i,R r p' i=R r p i)->(kas_desc f p' (k+1) 0).kasWp cmp Q s:=fun p' hp' e=>by
    refine qJ ha hn f (k+1) 0 p' Q hp' (by omega) (by omega) ?_ (by omega) ?_ fun p2 m q' a1 a2 a3 a4 a5 a6=>h p2 m q' a1 (by omega) (by omega) a4 a5 a6
    ·intro i j hij hj;rw [e,e];exact qB hd (Int.le_of_lt c) i j hij hj
    ·intro i hi1 hi2;have:i=k:=by omega
     subst this;rfl
   show(if q>0 then kas_desc f (kas_rev p (k -(q+1)) k) (k+1) 0 else kas_desc f p (k+1) 0).kasWp cmp Q s;by_cases hq0:q>0
   ·rw [if_pos hq0];exact go _ (hp.rev _ _) (lM hsz he)
   ·rw [if_neg hq0];exact go p hp fun _=>rfl
  ·rw [zjU c];show cmp (at' p (k - 1)) (at' p k) (fun d s'=>(if d=true then KasT.ret (p,k,q)else kas_desc f p (k+1) (q+1)).kasWp cmp Q s') s;refine ha _ _ _ (hp.lt _ hn) (hp.lt _ hn) ?_;by_cases d:r (at' p (k - 1))<r (at' p k)
   ·rw [zjV d];exact h p k q hp (zjQ _) (by omega) hd hq he
   ·rw [zjU d];have e:R r p k=R r p (k - 1):=Int.le_antisymm (Int.not_lt.mp d) (Int.not_lt.mp c);show(kas_desc f p (k+1) (q+1)).kasWp cmp Q s;refine qJ ha hn f (k+1) (q+1) p Q hp (by omega) (by omega) (qB hd (Int.le_of_eq e)) (by omega) ?_ fun p2 m q' a1 a2 a3 a4 a5 a6=>h p2 m q' a1 (by omega) (by omega) a4 a5 a6;intro i hi1 hi2;rw [show k+1 - 1=k by omega,e];by_cases ik:i=k
    ·rw [ik,e]
    ·exact he i (by omega) (by omega)
theorem A1e (ha:hW cmp n r s)(hn:0<n)(hp:Pm n p)(h1:1<=k)(hk:k<=nrem)(hz:nrem<=n)(hd:Dn r p k)
  (h:∀m p',Pm n p'->1<=m->m<=nrem->Up r p' m->Q (m,p') s):(kas_tail3 k nrem p).kasWp cmp Q s:=by
 unfold kas_tail3;rw [KasT.kasWp_bind];have hsz:k<=p.size:=by rw [hp.size];omega
 refine tH ha hn (hp.rev 0 k) _ _ _ h1 ?_ fun m a b u _=>h m _ (hp.rev 0 k) (by omega) (by omega) u;intro i j hij hj;rw [vI hsz,vI hsz,if_pos (by omega),if_pos (by omega)];exact hd _ _ (by omega) (by omega)
theorem wA (ha:hW cmp n r s)(hn:0<n)(hp:Pm n p)(hk:k+1<=nrem)(hz:nrem<=n)(hd:Dn r p (k+1))
  (h:∀m p',Pm n p'->1<=m->m<=nrem->Up r p' m->Q (m,p') s):(kas_descPart k nrem p).kasWp cmp Q s:=by
 unfold kas_descPart;rw [KasT.kasWp_bind];refine qJ ha hn _ (k+1) 0 p _ hp (by omega) (by omega) hd (by omega) (fun i a b=>show R r p i=R r p (k+1 - 1) by rw [show i=k+1 - 1 by omega]) fun p' m q hp' a1 a2 hd' hq he=> ?_;show(if q>0 then kas_tail3 m nrem (kas_rev p' (m -(q+1)) m)else kas_tail3 m nrem p').kasWp cmp Q s;have hsz:m<=p'.size:=by rw [hp'.size];omega
 by_cases hq0:q>0
 ·rw [if_pos hq0];refine A1e ha hn (hp'.rev _ _) (by omega) (by omega) hz ?_ h;intro i j hij hj;rw [lM hsz he,lM hsz he];exact hd' i j hij hj
 ·rw [if_neg hq0];exact A1e ha hn hp' (by omega) (by omega) hz hd' h
theorem B2g (ha:hW cmp n r s)(hn:0<n)(hp:Pm n p)
  (h:∀m p',Pm n p'->1<=m->m<=n->Up r p' m->Q (m,p') s):(kas_count n p).kasWp cmp Q s:=by
 unfold kas_count;rw [KasT.kasWp_bind];refine tH ha hn hp _ 1 _ (zjQ _) (fun i j a b=>show R r p i<=R r p j by rw [show i=j by omega];exact Int.le_refl _) fun m a b u e=> ?_;by_cases e1:m=n
 ·rw [if_pos (by simpa using e1)];exact h m p hp a (by omega) u
 ·rw [if_neg (by simpa using e1)];have hlt:R r p m<R r p (m - 1):=e.resolve_left (by omega);have dn1:∀p',Pm n p'->Dn r p' m->(∀i,R r p' i=R r p i)->Dn r p' (m+1):=fun p' _ d z=>qB d (by rw [z,z];exact Int.le_of_lt hlt);by_cases e2:m>1
  ·rw [if_pos e2];show cmp (at' p 0) (at' p (m - 1)) (fun c s'=>(if c=true then KasT.ret (m,p)else kas_descPart m n (kas_rev p 0 m)).kasWp cmp Q s') s;refine ha _ _ _ (hp.lt _ hn) (hp.lt _ hn) ?_;by_cases c:r (at' p 0)<r (at' p (m - 1))
   ·rw [zjV c];exact h m p hp a (by omega) u
   ·rw [zjU c];have hall:∀k,0<=k->k<m->R r p k=R r p (m - 1):=fun k _ hk=>by
     have a1:=u 0 k (by omega) hk;have a2:=u k (m - 1) (by omega) (by omega);have a3:R r p (m - 1)<=R r p 0:=Int.not_lt.mp c;omega
    have hsz:m<=p.size:=by rw [hp.size];omega
    refine wA ha hn (hp.rev 0 m) (by omega) (zjQ _) (dn1 _ (hp.rev 0 m) ?_ (lM hsz hall)) h;intro i j hij hj;rw [lM hsz hall,lM hsz hall,hall i (by omega) (by omega),hall j (by omega) hj];exact Int.le_refl _
  ·rw [if_neg e2];have:m=1:=by omega
   subst this;refine wA ha hn hp (by omega) (zjQ _) (dn1 p hp (fun i j hij hj=> ?_) fun _=>rfl) h;have:i=j:=by omega
   subst this;exact Int.le_refl _
theorem uC (ha:hW cmp n r s)(hn:0<n)(hp:Pm n p)(hu:Up r p k):∀(f lo hi:Nat)(Q:Nat->Shared->Prop),lo<=hi->hi<=k->hi - lo<=f->(∀i,i<lo->R r p i<=R r p k)->(∀i,hi<=i->i<k->R r p k<R r p i)->
  (∀l,l<=k->(∀i,i<l->R r p i<=R r p k)->(∀i,l<=i->i<k->R r p k<R r p i)->Q l s)->(kas_place p k f lo hi).kasWp cmp Q s
 |0,lo,hi,Q,h1,h2,h3,hl,hh,h=>h lo (by omega) hl fun i a b=>hh i (by omega) b
 |f+1,lo,hi,Q,h1,h2,h3,hl,hh,h=>by
  unfold kas_place;by_cases e:lo≥hi
  ·rw [if_pos e];exact h lo (by omega) hl fun i a b=>hh i (by omega) b
  ·rw [if_neg e];show cmp (at' p k) (at' p ((lo+hi)/2)) (fun c s'=>(if c=true then kas_place p k f lo ((lo+hi)/2)else kas_place p k f ((lo+hi)/2+1) hi).kasWp cmp Q s') s;refine ha _ _ _ (hp.lt _ hn) (hp.lt _ hn) ?_;by_cases c:r (at' p k)<r (at' p ((lo+hi)/2))
   ·rw [zjV c];refine uC ha hn hp hu f lo ((lo+hi)/2) Q (by omega) (by omega) (by omega) hl (fun i a b=> ?_) h;exact Int.lt_of_lt_of_le c (hu ((lo+hi)/2) i a b)
   ·rw [zjU c];refine uC ha hn hp hu f ((lo+hi)/2+1) hi Q (by omega) (by omega) (by omega) (fun i a=> ?_) hh h;exact Int.le_trans (hu i ((lo+hi)/2) (by omega) (by omega)) (Int.not_lt.mp c)
theorem A2k (ha:hW cmp n r s)(hn:0<n):∀(f k:Nat)(p:Array Nat)(Q:Array Nat->Shared->Prop),Pm n p->k+f=n->Up r p k->(∀p',Pm n p'->Up r p' n->Q p' s)->(kas_bin f p k).kasWp cmp Q s
 |0,k,p,Q,hp,hk,hu,h=>h p hp (by rw [←hk];exact hu)
 |f+1,k,p,Q,hp,hk,hu,h=>by
  show((kas_place p k k 0 k).bind fun l=>kas_bin f (bubble p k (k - l)) (k+1)).kasWp cmp Q s;rw [KasT.kasWp_bind];refine uC ha hn hp hu k 0 k _ (zero_le _) (zjQ _) (by omega) (fun i a=>by omega) (fun i a b=>by omega) fun l hl h1 h2=> ?_;refine A2k ha hn f (k+1) _ Q (hp.bub _ _) (by omega) ?_ h;have hs:k<p.size:=by rw [hp.size];omega
  intro i j hij hj;rw [A0e hs (by omega),A0e hs (by omega),show k -(k - l)=l by omega];by_cases c1:i=l
  ·rw [if_pos c1];by_cases c2:j=l
   ·rw [if_pos c2];exact Int.le_refl _
   ·rw [if_neg c2,if_pos (by omega)];exact Int.le_of_lt (h2 (j - 1) (by omega) (by omega))
  ·rw [if_neg c1];by_cases c2:j=l
   ·rw [if_pos c2,if_neg (by omega)];exact h1 i (by omega)
   ·rw [if_neg c2];by_cases c3:l<i/\i<=k
    ·rw [if_pos c3,if_pos (by omega)];exact hu _ _ (by omega) (by omega)
    ·rw [if_neg c3];by_cases c4:l<j/\j<=k
     ·rw [if_pos c4];exact hu _ _ (by omega) (by omega)
     ·rw [if_neg c4];exact hu _ _ hij (by omega)
theorem B3u (ha:hW cmp n r s)(h2:2<=n)(h:∀p,Pm n p->Up r p n->Q p s):(kas_sort n).kasWp cmp Q s:=by
 unfold kas_sort;rw [KasT.kasWp_bind];refine B2g ha (by omega) (Array.Perm.refl _) fun m p hp h1 hm u=> ?_;show(if m<n then kas_bin (n - max m 1) p (max m 1)else KasT.ret p).kasWp cmp Q s;by_cases e:m<n
 ·rw [if_pos e];have:max m 1=m:=by omega
  rw [this];exact A2k ha (by omega) _ _ p Q hp (by omega) u h
 ·rw [if_neg e];have:m=n:=by omega
  subst this;exact h p hp u
end
section
def But (a:Addr)(h h':Heap):Prop:=∀b o,b≠a->h.get? b=some o->h'.get? b=some o
theorem B3z (n:Nat):Pm n (toArray (List.range n)):=Array.Perm.refl _
theorem B2u (h:n<2):Up r p n:=fun i j hij hj=>by
 have:i=j:=by omega
 subst this;exact Int.le_refl _
theorem A0m (vs:List Value):(toArray (List.range vs.length)).toList.map (fun i=>vs.getD i Value.none)=vs:=by refine ext_getElem (by simp) fun i h1 h2=> ?_;simp [h2]
theorem B37 (ho:s.heap.get? a=some (seqObj "list" vs.toArray n))(h64:vs.length<64)
  (hk:2<=vs.length->∀h',But a s.heap h'->(∀Q:SortKind->Shared->Prop,Q κ {s with heap:=h'}->wpAny (model prog w) A (keyKind' vs.toArray) Q E {s with heap:=h'})/\hW (kas_ask prog w A κ vs) vs.length r {s with heap:=h'})
  (h:∀h' c p,Pm vs.length p->Up r p vs.length->h'.get? a=some (seqObj "list" (p.toList.map fun i=>vs.getD i Value.none).toArray c)->But a s.heap h'->P (.done (.ret .none)) {s with heap:=h'}):
  wpAny (model prog w) A (Builtin.«list.sort» ⟨[.ref a],[]⟩) P E s:=by
 have la:=zjT ho;obtain⟨c1,o1⟩:∃c1,(s.heap.update a (Obj.mapSeq fun _=>(#[]:Array Value))).get? a=some (seqObj "list" #[] c1):=⟨_,get?_update_seq ho fun _=> #[]⟩;have b1:But a s.heap (s.heap.update a (Obj.mapSeq fun _=>(#[]:Array Value))):=fun b o hb e=>by rw [Heap.get?_update_ne _ _ _ _ hb];exact e
 generalize hg1:s.heap.update a (Obj.mapSeq fun _=>(#[]:Array Value))=g1 at o1 b1;have o3:((g1.push (seqObj "tuple" vs.toArray 0)).push (seqObj "list" #[] 0)).get? a=some (seqObj "list" #[] c1):=zjX _ (zjX _ o1);have b3:But a s.heap ((g1.push (seqObj "tuple" vs.toArray 0)).push (seqObj "list" #[] 0)):=fun b o hb e=>zjX _ (zjX _ (b1 b o hb e));rw [list_sort_plain];refine zjZ (listItems_at ho rfl ?_);refine zjZ (listUpdate_at ho rfl ?_ (by rw [size_toArray,sizeLine_eq];omega) (zero_le _));rw [hg1];refine zjZ (seqEpoch_at o1 rfl ?_);refine zjZ (wpAny_newTuple ?_ (by show vs.length<=_;rw [sizeLine_eq];omega));refine zjZ (wpAny_newList ?_ (zero_le _));refine wpAny_holding ?_;show wpAny (model prog w) A _ P E {s with heap:=(g1.push (seqObj "tuple" vs.toArray 0)).push (seqObj "list" #[] 0)};generalize (g1.push (seqObj "tuple" vs.toArray 0)).push (seqObj "list" #[] 0)=g3 at o3 b3;dsimp only
 have fin:∀(st:SortSt)(p:Array Nat),Pm vs.length p->Up r p vs.length->(arrOf st).map (·.2)=(p.toList.map fun i=>vs.getD i Value.none).toArray->failedOf st=none->
   wpAny (model prog w) A (do
    let touched:=(←seqEpoch a) !=c1
    Builtin.List.listUpdate (.ref a) fun _=>(arrOf st).map (·.2)
    if let some e:=failedOf st then rule "list.sort.comparison-raised";throw e
    if touched then rule "list.sort.modified";raiseError "ValueError" "list modified during sort"
    ret .none) P E {s with heap:=g3}:=fun st p hp hu hout hf=>by
  rw [hout,hf];have hz:(p.toList.map fun i=>vs.getD i Value.none).toArray.size=vs.length:=by rw [size_toArray,length_map,Array.length_toList,hp.size]
  obtain⟨c4,o4⟩:∃c4,(g3.update a (Obj.mapSeq fun _=>(p.toList.map fun i=>vs.getD i Value.none).toArray)).get? a=some (seqObj "list" (p.toList.map fun i=>vs.getD i Value.none).toArray c4):=⟨_,get?_update_seq o3 fun _=>(p.toList.map fun i=>vs.getD i Value.none).toArray⟩;refine zjZ (seqEpoch_at o3 rfl ?_);refine zjZ (listUpdate_at o3 rfl ?_ (zero_le _) (le_trans (le_of_eq hz) (by rw [sizeLine_eq];omega)));simp only [bne_self_eq_false,Bool.false_eq_true,if_false];exact zjY (h _ c4 p hp hu o4 fun b o hb e=>by rw [Heap.get?_update_ne _ _ _ _ hb];exact b3 b o hb e)
 by_cases h2:vs.toArray.size<2
 ·rw [if_pos h2,if_pos h2];refine zjZ (zjY ?_);rw [StateT.run_pure];refine zjZ (zjY ?_);refine fin _ _ (B3z _) (B2u (by rw [size_toArray]at h2;exact h2)) ?_ rfl;rw [A0m];show(vs.toArray.zip vs.toArray).map (·.2)=_;apply Array.toList_inj.mp;simp [List.map_snd_zip]
 ·rw [if_neg h2,if_neg h2];rw [size_toArray]at h2;obtain⟨kk,ask⟩:=hk (by omega) g3 b3;refine zjZ (kk _ ?_);refine zjZ (wpAny_mono (kat_run (Q:=fun st' s'=>s'={s with heap:=g3}/\∃p,Pm vs.length p/\Up r p vs.length/\arrOf st'=p.map (kas_item (vs.toArray.zip vs.toArray))/\failedOf st'=none) (G:=fun p s'=>s'={s with heap:=g3}/\Pm vs.length p/\Up r p vs.length)
   rfl (by omega) h64 (fun p st' s' a1 a2 a3 a4=> ⟨a4.1,p,a4.2.1,a4.2.2,a2,a3⟩) (B3u ask (by omega) fun p hp hu=> ⟨rfl,hp,hu⟩)) ?_ fun _ _ e=>e)
  rintro⟨⟨⟩,st'⟩ s' ⟨rfl,p,hp,hu,har,hf⟩;exact fin st' p hp hu (kat_snds rfl har) hf
theorem A1c (h64:vs.length<64)
  (hc:∀Q':List Value->Shared->Prop,(∀h1 tk,(∀b o,s.heap.get? b=some o->h1.get? b=some o)->s.heap.objs.size<=h1.objs.size->Q' vs {s with heap:=h1,toks:=tk})->wpAny (model prog w) A.in1 (collect x) Q' E s)
  (hr:∀h1 tk,(∀b o,s.heap.get? b=some o->h1.get? b=some o)->2<=vs.length->(∀Q:SortKind->Shared->Prop,Q κ {s with heap:=h1,toks:=tk}->wpAny (model prog w) A.in1.in1 (keyKind' vs.toArray) Q E {s with heap:=h1,toks:=tk})/\hW (kas_ask prog w A.in1.in1 κ vs) vs.length r {s with heap:=h1,toks:=tk})
  (h:∀D h' tk c p,s.heap.objs.size<=D->Pm vs.length p->Up r p vs.length->h'.get? D=some (seqObj "list" (p.toList.map fun i=>vs.getD i Value.none).toArray c)->(∀b o,s.heap.get? b=some o->h'.get? b=some o)->Q (.ref D) {s with heap:=h',toks:=tk}):
  wpAny (model prog w) A (call (.builtin "sorted") [x]) Q E s:=by
 refine Calls.call_function_entry kind_sorted plain_sorted entry_sorted (args_sorted1 _) ?_;unfold Builtin.«sorted»;refine zjZ (m:=checkCount "sorted" 1 1 _) (zjY ?_);refine zjZ (hc _ fun h1 tk k1 z1=> ?_);refine zjZ (wpAny_newList ?_ (by rw [sizeLine_eq];omega));have oL:(h1.push (seqObj "list" vs.toArray 0)).get? h1.objs.size=some (seqObj "list" vs.toArray 0):=get?_push_size _ rfl;have kL:∀b o,s.heap.get? b=some o->(h1.push (seqObj "list" vs.toArray 0)).get? b=some o/\b≠h1.objs.size:=fun b o e=> ⟨zjX _ (k1 b o e),ne_of_lt (lt_of_lt_of_le (zjT e) z1)⟩;refine zjZ (wpAny_holding (wpAny_call_entry slot_list_sort ⟨_,oL,rfl⟩ entry_list_sort ?_ (args_list_sort _)));refine B37 (κ:=κ) (r:=r) oL h64 (fun h2 h' b'=>hr h' tk (fun b o e=>b' b o (kL b o e).2 (kL b o e).1) h2) fun h' c p hp hu o' b'=> ⟨_,rfl,?_⟩;exact zjY ⟨_,rfl,h h1.objs.size h' tk c p z1 hp hu o' fun b o e=>b' b o (kL b o e).2 (kL b o e).1⟩
end
end Srt
namespace Srt
theorem kD:∀xs:List Int,HT.lexLt xs xs=false
 | []=>rfl
 |x::xs=>by rw [HT.lexLt_cons,if_pos rfl];exact kD xs
theorem jW:∀{xs ys zs:List Int},HT.lexLt xs ys=true->HT.lexLt ys zs=true->HT.lexLt xs zs=true
 | [],[],_,h,_=>by cases h
 | [],_::_,[],_,h=>by cases h
 | [],_::_,_::_,_,_=>rfl
 |_::_,[],_,h,_=>by cases h
 |_::_,_::_,[],_,h=>by cases h
 |x::xs,y::ys,z::zs,h1,h2=>by
  rw [HT.lexLt_cons]at h1 h2⊢;by_cases e1:x=y
  ·subst e1;rw [if_pos rfl]at h1;by_cases e2:x=z
   ·subst e2;rw [if_pos rfl]at h2⊢;exact jW h1 h2
   ·rw [if_neg e2]at h2⊢;exact h2
  ·rw [if_neg e1,decide_eq_true_eq]at h1;by_cases e2:y=z
   ·subst e2;rw [if_neg e1,decide_eq_true_eq];exact h1
   ·rw [if_neg e2,decide_eq_true_eq]at h2;rw [if_neg (by omega),decide_eq_true_eq];omega
theorem lU:∀{xs ys:List Int},HT.lexLt xs ys=false->HT.lexLt ys xs=false->xs=ys
 | [],[],_,_=>rfl
 | [],_::_,h,_=>by cases h
 |_::_,[],_,h=>by cases h
 |x::xs,y::ys,h1,h2=>by
  rw [HT.lexLt_cons]at h1 h2;by_cases e:x=y
  ·subst e;rw [if_pos rfl]at h1 h2;rw [lU h1 h2]
  ·rw [if_neg e,decide_eq_false_iff_not]at h1;rw [if_neg (fun z=>e z.symm),decide_eq_false_iff_not]at h2;omega
def rank (rows:List (List Int))(x:List Int):Int:=(rows.countP fun z=>HT.lexLt z x:Nat)
theorem rZ:∀{l:List α},(∀a∈l,p a=true->q a=true)->l.countP p<=l.countP q
 | [],_=>by simp
 |a::l,h=>by
  have ih:=rZ (p:=p) (q:=q) (l:=l) fun b hb=>h b (zjS _ hb);rw [countP_cons,countP_cons];have:=h a zjR;cases hp:p a<;>cases hq:q a<;>simp_all<;>omega
theorem A1d:∀{l:List α},(∀a∈l,p a=true->q a=true)->x∈l->p x=false->q x=true->l.countP p<l.countP q
 | [],_,hx,_,_=>by cases hx
 |a::l,h,hx,hp,hq=>by
  have hl:∀b∈l,p b=true->q b=true:=fun b hb=>h b (zjS _ hb);rw [countP_cons,countP_cons];rcases mem_cons.mp hx with e|e
  ·subst e;have:=rZ hl;rw [hp,hq];simp;omega
  ·have ih:=A1d hl e hp hq;have:=h a zjR;cases hp':p a<;>cases hq':q a<;>simp_all<;>omega
theorem A3j (hx:x∈rows)(hy:y∈rows):decide (rank rows x<rank rows y)=HT.lexLt x y:=by
 unfold rank;cases h:HT.lexLt x y with
 |true=>
  rw [decide_eq_true_eq];have:=A1d (l:=rows) (p:=fun z=>HT.lexLt z x) (q:=fun z=>HT.lexLt z y) (fun a _ ha=>jW ha h) hx (kD x) h;omega
 |false=>
  rw [decide_eq_false_iff_not];have:rows.countP (fun z=>HT.lexLt z y)<=rows.countP (fun z=>HT.lexLt z x):=by
   refine rZ fun a _ ha=> ?_;cases h2:HT.lexLt y x with
   |true=>exact jW ha h2
   |false=>rw [lU h h2];exact ha
  omega
end Srt
namespace L2
open PySem PySem.Spec PyProof.Rows Srt
section
variable {prog:Program}{w:World}{A:Around}
theorem A23 {C:Bool->Shared->Prop}{s:Shared}{b:Bool}:∀{xs ys:List Int}{us ws:List Value}(i:Nat),Vals (xs.map V.int) us->Vals (ys.map V.int) ws->C (HT.lexLt xs ys) s->
  W.KatLex prog w A b (decide (xs.length<ys.length)) C (us.zip ws) i s
 | [],[],_,_,i,.nil,.nil,h=>by
  show C (decide (0<0)) s;exact h
 | [],y::ys,_,_,i,.nil,.cons _ _,h=>by
  show C (decide (0<ys.length+1)) s;rw [zjV (by omega)];exact h
 |x::xs,[],_,_,i,.cons _ _,.nil,h=>by
  show C (decide (xs.length+1<0)) s;rw [zjU (by omega)];exact h
 |x::xs,y::ys,_,_,i,.cons r1 t1,.cons r2 t2,h=>by
  obtain⟨t,rfl⟩:=r1;obtain⟨u,rfl⟩:=r2;rw [HT.lexLt_cons]at h;refine W.kat_cons (wpAny_eqBool_int ?_);by_cases e:x=y
  ·subst e;rw [if_pos rfl]at h;rw [show(x==x)=true by simp];refine W.kat_yes ?_;have:=A23 (b:=b) (i+1) t1 t2 h;rw [show decide ((x::xs).length<(x::ys).length)=decide (xs.length<ys.length) by simp];exact this
  ·rw [if_neg e]at h;rw [show(x==y)=false by simpa using e];refine W.kat_no ?_;cases b&&i==0 with
   |true=>exact oneLt_int h
   |false=>exact W.kat_one _ _ (PyProof.Rows.lt_int (show W.BoolBack C (Value.bool (decide (x<y))) s from h))
end
theorem iP:∀{as:List Addr}{us:List Value},Vals (as.map V.ref) us->us=as.map Value.ref
 | [],_,.nil=>rfl
 |a::as,_,.cons r t=>by rw [iP t];cases (show _=Value.ref a from r);rfl
section
def A31 {β:Type}(key:β->List Int)(zs zs':List (Addr×β)):Prop:=zs'.Perm zs/\zs'.Pairwise fun a b=>HT.lexLt (key b.2) (key a.2)=false
def oY (zs zs':List (Addr×List Int)):Prop:=zs'.Perm zs/\zs'.Pairwise fun a b=>HT.lexLt b.2 a.2=false
theorem A5h (z0:β)(key:β->List Int)(hp:Pm zs.length p)(hu:Up (fun i=>rank (zs.map key) (key (zs.getD i z0))) p zs.length):
  (p.toList.map fun i=>zs.getD i z0).Perm zs/\(p.toList.map fun i=>zs.getD i z0).Pairwise fun a b=>HT.lexLt (key b) (key a)=false:=by
 have hperm:=Array.perm_iff_toList_perm.mp hp;have inz:∀k (hk:k<p.toList.length),p.toList[k]<zs.length:=fun k hk=>by
  have:=hperm.mem_iff.mp (getElem_mem hk);simpa using this
 refine⟨(hperm.map fun i=>zs.getD i z0).trans (List.Perm.of_eq (ext_getElem (by simp) fun i a b=>by simp [b])),?_⟩;rw [pairwise_map,pairwise_iff_getElem];intro i j hi hj hij;have hsz:p.toList.length=zs.length:=by rw [Array.length_toList,hp.size]
 have h1:=hu i j (by omega) (by omega);have mem:∀k (hk:k<p.toList.length),key (zs.getD (p.toList[k]'hk) z0)∈zs.map key:=fun k hk=>by
  have e:zs.getD p.toList[k] z0=zs[p.toList[k]]'(inz k hk):=by rw [getD_eq_getElem?_getD,getElem?_eq_getElem (inz k hk)];rfl
  rw [e];exact mem_map_of_mem (getElem_mem _)
 have e:∀k (hk:k<p.toList.length),at' p k=p.toList[k]:=fun k hk=>by
  have:k<p.size:=by simpa using hk
  unfold at';simp [Array.getD,this]
 unfold R at h1;rw [e i hi,e j hj]at h1;rw [←A3j (mem j hj) (mem i hi),decide_eq_false_iff_not];exact Int.not_lt.mpr h1
theorem tZ (b0:β)(key:β->List Int)(I:Inv X pins σ H s)(hq:SqL X.K H p (zs.map fun z=>V.ref z.1))(h64:zs.length<64)
  (hr:∀h1 tk,(∀b o,s.heap.get? b=some o->h1.get? b=some o)->2<=zs.length->(∀Q2:SortKind->Shared->Prop,Q2 κ {s with heap:=h1,toks:=tk}->wpAny (model X.prog X.w) X.A.in1.in1 (keyKind' (zs.map fun z=>Value.ref z.1).toArray) Q2 X.xe {s with heap:=h1,toks:=tk})/\
   ∀z∈zs,∀z'∈zs,∀C:Bool->Shared->Prop,C (HT.lexLt (key z.2) (key z'.2)) {s with heap:=h1,toks:=tk}->wpAny (model X.prog X.w) X.A.in1.in1 (keyLt' κ (.ref z.1) (.ref z'.1)) C (fun _ _=>False) {s with heap:=h1,toks:=tk})
  (q:∀l zs',H l=none->A31 key zs zs'->Q (.ref l) (upd H l (.lst (zs'.map fun z=>V.ref z.1)))):wpAny (model X.prog X.w) X.A (call (.builtin "sorted") [.ref p]) (EP X pins σ Q) X.xe s:=by
 obtain⟨its,rv,pl,_⟩:=I.list hq;have hits:its=zs.map fun z=>Value.ref z.1:=by
  have:=iP (as:=zs.map (·.1)) (us:=its) (by rw [map_map];exact rv);rw [this,map_map];rfl
 subst hits;have gd:∀i,i<zs.length->(zs.map fun z=>Value.ref z.1).getD i Value.none= .ref (zs.getD i (0,b0)).1/\zs.getD i (0,b0)∈zs:=fun i hi=>by
  constructor
  ·simp [hi]
  ·rw [show zs.getD i (0,b0)=zs[i] by simp [hi]];exact getElem_mem _
 refine A1c (κ:=κ) (r:=fun i=>rank (zs.map fun z=>key z.2) (key (zs.getD i (0,b0)).2)) (vs:=zs.map fun z=>Value.ref z.1) (by rw [length_map];exact h64) (fun Q' k=> ?_) (fun h1 tk k1 h2=> ?_) fun D h' tk c pp hD hp hu o' k'=> ?_
 ·refine collect_list pl.isList ?_ (by rw [length_map,sizeLine_eq];omega);refine k _ s.toks (fun b o e=> ?_) (by rw [size_update,size_push'];exact le_succ _);rw [Heap.get?_update_ne _ _ _ _ (ne_of_lt (zjT e))];exact zjX _ e
 ·rw [length_map]at h2;obtain⟨hk,hlt⟩:=hr h1 tk k1 h2;refine⟨hk,fun i j C hi hj hC=> ?_⟩;rw [length_map]at hi hj;obtain⟨ei,mi⟩:=gd i hi;obtain⟨ej,mj⟩:=gd j hj;show wpAny _ _ (keyLt' κ ((zs.map fun z=>Value.ref z.1).getD i Value.none) ((zs.map fun z=>Value.ref z.1).getD j Value.none)) C (fun _ _=>False) _;rw [ei,ej];rw [A3j (mem_map.mpr ⟨_,mi,rfl⟩) (mem_map.mpr ⟨_,mj,rfl⟩)]at hC;exact hlt _ mi _ mj C hC
 ·rw [length_map]at hp hu;have so:=A5h (0,b0) (fun z:Addr×β=>key z.2) hp hu;have eo:(pp.toList.map fun i=>(zs.map fun z=>Value.ref z.1).getD i Value.none)=(pp.toList.map fun i=>zs.getD i (0,b0)).map fun z=>Value.ref z.1:=by
   rw [map_map];refine map_congr_left fun i hi=> ?_;have:i<zs.length:=by
    have:=(Array.perm_iff_toList_perm.mp hp).mem_iff.mp hi;simpa using this
   exact(gd i this).1
  rw [eo]at o';have hlen:=so.1.length_eq;have vf:∀zs:List (Addr×β),Vals (zs.map fun z=>V.ref z.1) (zs.map fun z=>Value.ref z.1):=fun zs=>by
   induction zs with
   |nil=>exact .nil
   |cons z zs ih=>exact .cons rfl ih
  exact⟨.ref D,_,I.laid (t':=tk) (o:=.lst ((pp.toList.map fun i=>zs.getD i (0,b0)).map fun z=>V.ref z.1)) k' hD ⟨by rw [length_map,hlen,sizeLine_eq];omega,_,c,vf _,o'⟩,rfl,q _ _ (I.hok.fresh hD) so⟩
theorem kA {s:Shared}{pins:List (Addr×Obj)}{σ:St}{H:Hp}(I:Inv X pins σ H s){h':Heap}(k:∀b o,s.heap.get? b=some o->h'.get? b=some o){z:Addr}{ns:List Int}(hz:H z=some (.tup (ns.map V.int))):∃it:List Value,Vals (ns.map V.int) it/\∃o n,h'.get? z=some o/\o.cls= .type "tuple"/\o.data= .seq it.toArray n:=by obtain⟨_,it,rt,o,ho,hc,n,hd⟩:=(show ObjOk X.prog X.w H s.heap z (.tup _)from I.hok _ _ hz);exact⟨it,rt,o,n,k _ _ ho,hc,hd⟩
theorem tM:dW X (.builtin "sorted") (fun xs H Q=> ∃(p:Addr)(zs:List (Addr×List Int)),xs=[.ref p]/\SqL X.K H p (zs.map fun z=>V.ref z.1)/\(∀z∈zs,H z.1=some (.tup (z.2.map V.int))/\z.2≠[])/\zs.length<64/\
  ∀l zs',H l=none->oY zs zs'->Q (.ref l) (upd H l (.lst (zs'.map fun z=>V.ref z.1)))):=by
 intro pins s σ H xs us Q I r h;obtain⟨p,zs,rfl,hq,hz,h64,q⟩:=h;obtain⟨u,rfl,rx⟩:=eI r;cases rx;refine tZ [] id (κ:=tuples' true) I hq h64 (fun h1 tk k1 h2=> ⟨fun Q2 q2=> ?_,fun z hm z' hm' C hC=> ?_⟩) q
 ·have key:∀ys:List (Addr×List Int),(∀z∈ys,z∈zs)->∃fs:List Value,W.KatTups h1 (ys.map fun z=>Value.ref z.1) fs/\fs.length=ys.length/\∀v∈fs,∃n t,v= .int n t:=fun ys=>by
   induction ys with
   |nil=>intro _;exact⟨[],trivial,rfl,fun v hv=>by cases hv⟩
   |cons z ys ih=>
    intro hm;obtain⟨fs,g1,g2,g3⟩:=ih fun y hy=>hm y (zjS _ hy);obtain⟨it,rt,o,n,ho,hc,hd⟩:=kA I k1 (hz z (hm z zjR)).1;obtain⟨x,xs',ex⟩:=exists_cons_of_ne_nil (hz z (hm z zjR)).2;rw [ex]at rt;cases rt with
    |cons r0 t0=>
     obtain⟨t,rfl⟩:=r0;exact⟨.int x t::fs,W.KatTups.cons ho hc hd (by simp) g1,by simp [g2],fun v hv=>by
      rcases mem_cons.mp hv with e|e
      ·exact⟨x,t,e⟩
      ·exact g3 v e⟩
  obtain⟨fs,g1,g2,g3⟩:=key zs fun z hz=>hz;refine W.kat_kind (T:=.type "int") (s:={s with heap:=h1,toks:=tk}) g1 (by omega) (fun v hv=> ?_) rfl q2;obtain⟨n,t,rfl⟩:=g3 v hv;exact W.Looks.of_pure rfl
 ·obtain⟨it,rt,o,n,ho,hc,hd⟩:=kA I k1 (hz z hm).1;obtain⟨it2,rt2,o2,n2,ho2,hc2,hd2⟩:=kA I k1 (hz z' hm').1;refine W.kat_lt (s:={s with heap:=h1,toks:=tk}) ho hd ho2 hd2 ?_;have l1:=rt.length;have l2:=rt2.length;rw [length_map]at l1 l2;rw [size_toArray,size_toArray,←l1,←l2];exact A23 0 rt rt2 hC
end
end L2
namespace Wlk
abbrev Pl:=Int×Int
abbrev vR:=Pl×Pl
def cout (nw ne sw se:Bool):Fin 4->Bool
 |0=>se&& !ne
 |1=>sw&& !se
 |2=>nw&& !sw
 |3=>ne&& !nw
def nx (nw ne sw se:Bool)(d:Fin 4):Fin 4:=if cout nw ne sw se (d+1)=true then d+1 else if cout nw ne sw se d=true then d else d+3
section
variable (land:List Pl)(b:Pl)
end
section
end
end Wlk
namespace Cyc
section
variable {α:Type} [DecidableEq α]
def it (f:α->α):Nat->α->α
 |0,s=>s
 |n+1,s=>f (it f n s)
theorem lV:∀{xs ys:List α},xs.Nodup->(∀x∈xs,x∈ys)->xs.length<=ys.length
 | [],_,_,_=>zero_le _
 |x::xs,ys,hn,h=>by
  have hx:=h x zjR;have hn':=nodup_cons.mp hn;have ih:=lV (ys:=ys.erase x) hn'.2 fun y hy=>by
   refine(List.mem_erase_of_ne fun z=> ?_).mpr (h y (zjS _ hy));subst z;exact hn'.1 hy
  rw [List.length_erase_of_mem hx]at ih;have:=List.length_pos_of_mem hx;rw [length_cons];omega
variable {l:List α}{f:α->α}
end
end Cyc
namespace Srt
open PySem PySem.W PyProof.Rows L2
def fl:List (Int×Int)->List Int
 | []=> []
 |c::cs=>c.1::c.2::fl cs
end Srt
namespace L2
open PySem PySem.Spec PyProof.Rows Srt
def SqA (H:Hp)(a:Addr)(cs:List (Int×Int)):Prop:=∃ps:List Addr,H a=some (.tup (ps.map V.ref))/\PlAt H ps cs
theorem SqA.same (h:SqA H a cs)(s:Same H H'):SqA H' a cs:=let ⟨ps,h1,h2⟩:=h;⟨ps,s _ _ h1,h2.same s⟩
def A09 (zs zs':List (Addr×List (Int×Int))):Prop:=zs'.Perm zs/\zs'.Pairwise fun a b=>HT.lexLt (fl b.2) (fl a.2)=false
section
theorem xH (I:Inv X pins σ H s)(hu:A.units<cLine):∀{ps qs:List Addr}{cs ds:List (Int×Int)}(i:Nat),PlAt H ps cs->PlAt H qs ds->C (HT.lexLt (fl cs) (fl ds)) s->
  W.KatLex X.prog X.w A false (decide (ps.length<qs.length)) C ((ps.map Value.ref).zip (qs.map Value.ref)) i s
 | [],[],[],[],i,.nil,.nil,h=>by
  show C (decide (0<0)) s;exact h
 | [],q::qs,[],d::ds,i,.nil,.cons _ _,h=>by
  show C (decide (0<qs.length+1)) s;rw [zjV (by omega)];exact h
 |p::ps,[],c::cs,[],i,.cons _ _,.nil,h=>by
  show C (decide (ps.length+1<0)) s;rw [zjU (by omega)];exact h
 |p::ps,q::qs,c::cs,d::ds,i,.cons r1 t1,.cons r2 t2,h=>by
  show W.KatLex X.prog X.w A false (decide (ps.length+1<qs.length+1)) C ((Value.ref p,Value.ref q)::(ps.map Value.ref).zip (qs.map Value.ref)) i s;refine W.kat_cons (oK I hu r1 r2 X.prog X.w _ _ ?_);have e0:HT.lexLt (fl (c::cs)) (fl (d::ds))=if c=d then HT.lexLt (fl cs) (fl ds)else HT.lexLt [c.1,c.2] [d.1,d.2]:=by
   obtain⟨c1,c2⟩:=c;obtain⟨d1,d2⟩:=d;show HT.lexLt (c1::c2::fl cs) (d1::d2::fl ds)=_;rw [HT.lexLt_cons,HT.lexLt_cons,HT.lexLt_cons,HT.lexLt_cons];by_cases e1:c1=d1
   ·subst e1;by_cases e2:c2=d2
    ·subst e2;simp
    ·simp [e2]
   ·simp [e1]
  rw [e0]at h;by_cases e:c=d
  ·rw [zjV e];rw [if_pos e]at h;refine W.kat_yes ?_;rw [show decide (ps.length+1<qs.length+1)=decide (ps.length<qs.length) by simp];exact xH I hu (i+1) t1 t2 h
  ·rw [zjU e];rw [if_neg e]at h;refine W.kat_no (W.kat_one _ _ ?_);obtain⟨its,s1,p1,_⟩:=I.tuple (SqT.of (K:=X.K) r1);obtain⟨its2,s2,p2,_⟩:=I.tuple (SqT.of (K:=X.K) r2);have i1:IntsAre its.toArray.toList [c.1,c.2]:=kU s1;have i2:IntsAre its2.toArray.toList [d.1,d.2]:=kU s2;exact HT.lt_tupInts p1 p2 i1 i2 hu h
theorem A8x (hu:X.A.units+2<cLine):dW X (.builtin "sorted") (fun xs H Q=> ∃(p:Addr)(zs:List (Addr×List (Int×Int))),xs=[.ref p]/\H p=some (.lst (zs.map fun z=>V.ref z.1))/\(∀z∈zs,SqA H z.1 z.2/\z.2≠[])/\zs.length<64/\
  ∀l zs',H l=none->A09 zs zs'->Q (.ref l) (upd H l (.lst (zs'.map fun z=>V.ref z.1)))):=by
 intro pins s σ H xs us Q I r h;obtain⟨p,zs,rfl,hq,hz,h64,q⟩:=h;obtain⟨u,rfl,rx⟩:=eI r;cases rx;refine tZ [] fl (κ:=tuples' false) I (SqL.of (K:=X.K) hq) h64 (fun h1 tk k1 h2=> ?_) q;have I1:Inv X pins σ H {s with heap:=h1,toks:=tk}:=I.kept k1;refine⟨fun Q2 q2=> ?_,fun z hm z' hm' C hC=> ?_⟩
 ·have key:∀ys:List (Addr×List (Int×Int)),(∀z∈ys,z∈zs)->∃fs:List Value,W.KatTups h1 (ys.map fun z=>Value.ref z.1) fs/\fs.length=ys.length/\∀v∈fs,∃a o,v= .ref a/\h1.get? a=some o/\o.cls= .type "tuple":=fun ys=>by
   induction ys with
   |nil=>intro _;exact⟨[],trivial,rfl,fun v hv=>by cases hv⟩
   |cons z ys ih=>
    intro hm;obtain⟨fs,g1,g2,g3⟩:=ih fun y hy=>hm y (zjS _ hy);obtain⟨⟨ps,hz1,hP⟩,hne⟩:=hz z (hm z zjR);obtain⟨cs0,cs1,ec⟩:=exists_cons_of_ne_nil hne;rw [ec]at hP;cases hP with
    |cons r0 t0=>
     rename_i p0 ps0;obtain⟨_,it,rt,o,ho,hc,n,hd⟩:=(show ObjOk X.prog X.w H h1 z.1 (.tup _)from I1.hok _ _ hz1);obtain⟨_,it2,rt2,o2,ho2,hc2,_⟩:=(show ObjOk X.prog X.w H h1 p0 (.tup _)from I1.hok _ _ r0);have ei:=iP rt;subst ei;exact⟨.ref p0::fs,W.KatTups.cons ho hc hd (by simp) g1,by simp [g2],fun v hv=>by
      rcases mem_cons.mp hv with e|e
      ·exact⟨p0,o2,e,ho2,hc2⟩
      ·exact g3 v e⟩
  obtain⟨fs,g1,g2,g3⟩:=key zs fun z hz=>hz;refine W.kat_kind (T:=.type "tuple") (s:={s with heap:=h1,toks:=tk}) g1 (by omega) (fun v hv=> ?_) rfl q2;obtain⟨a,o,rfl,ho,hc⟩:=g3 v hv;have lk:W.Looks (model X.prog X.w) h1 (typeOf (.ref a)) o.cls:=(W.Looks.ld ho).andThen .now;rw [hc]at lk;exact lk
 ·obtain⟨⟨ps,hz1,hP⟩,_⟩:=hz z hm;obtain⟨⟨qs,hz2,hP2⟩,_⟩:=hz z' hm';obtain⟨_,it,rt,o,ho,hc,n,hd⟩:=(show ObjOk X.prog X.w H h1 _ (.tup _)from I1.hok _ _ hz1);obtain⟨_,it2,rt2,o2,ho2,hc2,n2,hd2⟩:=(show ObjOk X.prog X.w H h1 _ (.tup _)from I1.hok _ _ hz2);have e1:=iP rt;have e2:=iP rt2;subst e1 e2;refine W.kat_lt (s:={s with heap:=h1,toks:=tk}) ho hd ho2 hd2 ?_;rw [size_toArray,size_toArray,length_map,length_map];exact xH I1 (show X.A.units+1+1<cLine by omega) 0 hP hP2 hC
end
end L2
namespace PySem
section
theorem A67 (ho:s.heap.get? d=some o)(hx:o.ExactDict)(hd:(d==sysModules)=false)(h:Q (.ref s.heap.objs.size) {s with heap:=s.heap.push {cls:=.type "dict_items",data:=.fields #[.ref d]}}):
  wpAny (model prog w) A (call (.builtin "dict.items") [.ref d]) Q E s:=by
 have hT:s.TypeIs (.ref d) "dict":=⟨o,ho,hx.1⟩;refine wpAny_call_entry F.slot_dict_items hT F.entry_dict_items ?_ (F.args_dict_items_1 _);unfold Builtin.«dict.items»;refine zjZ ?_;unfold Builtin.Dict.noArgs;refine zjZ (wpAny_notOrdered_dict hT ?_);show wpAny _ _ (pure d) _ _ s;refine zjY ?_;show wpAny _ _ (Builtin.Dict.showsAll d>>=_) _ _ s;unfold Builtin.Dict.showsAll;rw [if_neg (by rw [hd];exact Bool.false_ne_true)];refine zjZ (zjY ?_);exact zjZ (wpAny_newObj_type (zjY ⟨_,rfl,h⟩))
theorem B17 (hv:s.heap.IsItemsView v d)(ho:s.heap.get? d=some o)(hd:o.data= .dict es ep)
  (hQ:Q (.ref s.heap.objs.size) {s with heap:=s.heap.push {cls:=.type "dict_itemiterator",data:=.fields #[.none,.bool false,.ref d,.int 0 0,.int es.size 0,.int ep 0,.none,.none]}}):
  wpAny (model prog w) A (pyIter (.ref v)) Q E s:=by
 obtain⟨ov,hov,hcv,hdv⟩:=id hv;refine wpAny_pyIter_slot hv.typeIs F.slot_dict_items_iter (wpAny_call_entry F.slot_dict_items_iter hv.typeIs F.entry_dict_items_iter ?_ (F.args_dict_items_iter_1 _));unfold Builtin.«dict_items.__iter__»;refine zjZ (zjY ?_);refine zjZ ?_;unfold Builtin.Dict_items.dictOf;refine zjZ (wpAny_field hov hdv (x:=.ref d) rfl (zjY ?_));refine zjZ ?_;unfold Builtin.Dict_items.newIterator;refine zjZ (wpAny_dictEntries ho hd (zjZ (wpAny_dictEpoch ho hd ?_)));simp only [show Builtin.Dict_items.ownsTuple "dict_itemiterator" =true by decide,if_true];refine wpAny_newObj_type (zjY ⟨_,rfl,"dict_itemiterator",_,⟨_,get?_push_size _ rfl,rfl⟩,F.slot_dict_itemiterator_next.lookup,?_⟩) (by simp only [sizeOk,Builtin.Dict_items.ownedTupleFields,size_toArray,length_append,length_cons,length_nil,sizeLine_eq];omega);simpa [rawInt,Builtin.Dict_items.ownedTupleFields]using hQ
theorem A51 (hit:IsItemIter s.heap it d i es.size ep ok ov)(ho:s.heap.get? d=some o)(hd:o.data= .dict es ep)(hi:i<es.size)
  (hQ:∀h',IsItemIterOut h' it d (i+1) es.size ep es[i].key es[i].val s.heap.objs.size->h'.get? s.heap.objs.size=some {cls:=.type "tuple",data:=.seq #[es[i].key,es[i].val]}->h'.objs.size=s.heap.objs.size+1->
   (∀b o,b≠it->s.heap.get? b=some o->h'.get? b=some o)->Q (some (.ref s.heap.objs.size)) {s with heap:=h'}):wpAny (model prog w) A (pyNext (.ref it)) Q E s:=by
 obtain⟨hp,g,dr,tk,os⟩:=s;have hT:Shared.TypeIs ⟨hp,g,dr,tk,os⟩ (.ref it) "dict_itemiterator":=⟨_,hit,rfl⟩;unfold pyNext;refine zjZ (wpAny_attempt (wpAny_callSpecial?_slot (name:=Str.ofString "__next__") hT F.slot_dict_itemiterator_next (wpAny_call_entry F.slot_dict_itemiterator_next hT F.entry_dict_itemiterator_next ?_ (F.args_dict_itemiterator_next_1 _))));refine zjZ (zjY ?_);refine zjZ ?_;refine zjZ ?_
 first| (refine zjZ (wpAny_typeNameOfWhole_itemiter hT (zjY ?_));skip)| (refine zjZ (wpAny_typeNameOf_itemiter hT (zjY ?_));skip)
 refine zjZ (wpAny_fieldsOf hit rfl ?_);simp only [show Builtin.Dict_items.ownsTuple "dict_itemiterator" =true by decide,if_true];show wpAny _ _ (if (Value.ref d==Value.none)=true then _ else _) _ _ _;rw [if_neg (show¬((Value.ref d==Value.none)=true)from Bool.false_ne_true)];refine zjZ (zjY ?_);refine zjZ (wpAny_dictEntries ho hd ?_);rw [if_neg (by simp)];refine zjZ (zjY ?_);refine zjZ (wpAny_dictEpoch ho hd ?_);rw [if_neg (by simp)];refine zjY ?_;simp only [show¬((i:Int)<0) by omega,if_false,Int.toNat_natCast,Array.getElem?_eq_getElem hi];refine zjZ ?_
 first| (refine zjZ (wpAny_typeNameOfWhole_itemiter hT (zjY ?_));skip)| (refine zjZ (wpAny_typeNameOf_itemiter hT (zjY ?_));skip)
 refine zjZ (wpAny_isOneOf_itemiter hT ?_);show wpAny _ _ (setField (.ref it) 3 (rawInt ((i:Int)+1))>>=_) _ _ ⟨hp,g,dr,tk,os⟩;refine zjZ (wpAny_setField_rec hit (by simp) fun h₁ he₁ hs₁=> ?_);replace hs₁:Heap.SameBut it hp h₁:=hs₁;replace he₁:IsItemIter h₁ it d (i+1) es.size ep ok ov:=by
  have e:((i+1:Nat):Int)=(i:Int)+1:=by omega
  unfold IsItemIter;rw [e];simpa [rawInt]using he₁
 have hT₁:Shared.TypeIs ⟨h₁,g,dr,tk,os⟩ (.ref it) "dict_itemiterator":=⟨_,he₁,rfl⟩;refine zjZ (wpAny_holding ?_);refine zjZ (wpAny_isOneOf_itemiter hT₁ (zjZ (wpAny_isOneOf_itemiter hT₁ ?_)));show wpAny _ _ (Builtin.Dict_items.pairFromOwner (.ref it) 6 es[i].key es[i].val) _ _ ⟨h₁,g,dr,tk,os⟩;unfold Builtin.Dict_items.pairFromOwner;refine zjZ (wpAny_newTuple ?_);have he₂:IsItemIter (h₁.push {cls:=.type "tuple",data:=.seq #[es[i].key,es[i].val]}) it d (i+1) es.size ep ok ov:=zjX _ he₁;generalize hh₂:h₁.push {cls:=.type "tuple",data:=.seq #[es[i].key,es[i].val]}=h₂ at he₂;have hz₁:h₁.objs.size=hp.objs.size:=hs₁.1;have hil:=zjT hit;have ht₂:h₂.get? hp.objs.size=some {cls:=.type "tuple",data:=.seq #[es[i].key,es[i].val]}:=by rw [←hh₂,←hz₁];exact get?_push_size _ rfl
 have hz₂:h₂.objs.size=hp.objs.size+1:=by rw [←hh₂,size_push,hz₁]
 have hk₂:∀b o,b≠it->hp.get? b=some o->h₂.get? b=some o:=fun b o hb e=>by rw [←hh₂];exact zjX _ (hs₁.extBut b o hb e)
 show wpAny _ _ (Builtin.Dict_items.ownedTupleIsFree (.ref it)>>=_) _ _ ⟨h₂,g,dr,tk,os⟩;rw [hz₁];clear hh₂ he₁ hs₁ hT₁ hz₁ h₁;refine zjZ ?_;unfold Builtin.Dict_items.ownedTupleIsFree;refine zjZ (wpAny_field he₂ rfl (x:=.none) rfl (zjY ?_));simp only [if_true];refine zjZ (wpAny_field he₂ rfl (x:=ok) rfl (zjZ (wpAny_field he₂ rfl (x:=ov) rfl ?_)));refine zjZ (wpAny_setField_rec he₂ (by simp) fun h₃ he₃ hs₃=> ?_);replace hs₃:Heap.SameBut it h₂ h₃:=hs₃;replace he₃:IsItemIter h₃ it d (i+1) es.size ep es[i].key ov:=he₃;refine zjZ (wpAny_setField_rec he₃ (by simp) fun h₄ he₄ hs₄=> ?_);replace hs₄:Heap.SameBut it h₃ h₄:=hs₄;replace he₄:IsItemIter h₄ it d (i+1) es.size ep es[i].key es[i].val:=he₄;refine zjZ (wpAny_setField_rec he₄ (by simp) fun h₅ he₅ hs₅=> ?_);replace hs₅:Heap.SameBut it h₄ h₅:=hs₅;replace he₅:IsItemIterOut h₅ it d (i+1) es.size ep es[i].key es[i].val hp.objs.size:=he₅;refine zjZ (wpAny_setField_rec he₅ (by simp) fun h₆ he₆ hs₆=> ?_);replace hs₆:Heap.SameBut it h₅ h₆:=hs₆;replace he₆:IsItemIterOut h₆ it d (i+1) es.size ep es[i].key es[i].val hp.objs.size:=he₆;refine zjZ (wpAny_letGo (zjY (zjY ⟨_,rfl,zjY (hQ h₆ he₆ ?_ ?_ ?_)⟩)))
 ·have ne:=ne_of_gt hil;exact hs₆.extBut _ _ ne (hs₅.extBut _ _ ne (hs₄.extBut _ _ ne (hs₃.extBut _ _ ne ht₂)))
 ·show h₆.objs.size=_;rw [hs₆.1,hs₅.1,hs₄.1,hs₃.1,hz₂]
 ·exact fun b o hb e=>hs₆.extBut b o hb (hs₅.extBut b o hb (hs₄.extBut b o hb (hs₃.extBut b o hb (hk₂ b o hb e))))
theorem A57 (hh:A.handled=none)(hit:IsItemIter s.heap it d i es.size ep ok ov)(ho:s.heap.get? d=some o)(hd:o.data= .dict es ep)(hi:es.size<=i)
  (hQ:∀h',Heap.ExtBut it s.heap h'->Q none {s with heap:=h'}):wpAny (model prog w) A (pyNext (.ref it)) Q E s:=by
 have hT:s.TypeIs (.ref it) "dict_itemiterator":=⟨_,hit,rfl⟩;unfold pyNext;refine zjZ (wpAny_attempt (wpAny_callSpecial?_slot (name:=Str.ofString "__next__") hT F.slot_dict_itemiterator_next (wpAny_call_entry F.slot_dict_itemiterator_next hT F.entry_dict_itemiterator_next ?_ (F.args_dict_itemiterator_next_1 _))));refine zjZ (zjY ?_);refine zjZ ?_;refine zjZ ?_
 first| (refine zjZ (wpAny_typeNameOfWhole_itemiter hT (zjY ?_));skip)| (refine zjZ (wpAny_typeNameOf_itemiter hT (zjY ?_));skip)
 refine zjZ (wpAny_fieldsOf hit rfl ?_);simp only [show Builtin.Dict_items.ownsTuple "dict_itemiterator" =true by decide,if_true];show wpAny _ _ (if (Value.ref d==Value.none)=true then _ else _) _ _ s;rw [if_neg (show¬((Value.ref d==Value.none)=true)from Bool.false_ne_true)];refine zjZ (zjY ?_);refine zjZ (wpAny_dictEntries ho hd ?_);rw [if_neg (by simp)];refine zjZ (zjY ?_);refine zjZ (wpAny_dictEpoch ho hd ?_);rw [if_neg (by simp)];refine zjY ?_;simp only [show¬((i:Int)<0) by omega,if_false,Int.toNat_natCast,Array.getElem?_eq_none hi];refine zjZ ?_
 first| (refine zjZ (wpAny_typeNameOfWhole_itemiter hT (zjY ?_));skip)| (refine zjZ (wpAny_typeNameOf_itemiter hT (zjY ?_));skip)
 show wpAny _ _ (setField (.ref it) 2 .none>>=_) _ _ s;refine zjZ (wpAny_setField hit rfl (by simp) ?_);show wpAny _ _ (newExc (.type "StopIteration") []>>=_) _ _ _;refine zjZ ?_;simp only [newExc,newTuple];refine zjZ (wpAny_newObj_type ?_ (by size_fits));refine zjZ (m:=firstArgMember _ _) (wpAny_of_eq (a:=Value.none) (by first|rfl| (simp only [firstArgMember];rfl)) ?_);refine wpAny_newObj_type ?_ (by size_fits);simp only [raiseNew];refine zjZ (wpAny_handled ?_);rw [show A.in1.handled=none from hh];refine zjZ (zjY (wpAny_throw ?_));refine zjZ (wpAny_isInstance (T:="StopIteration") (b:=true) ⟨_,get?_push_size _ rfl,rfl⟩ isSubtype_stop ?_);exact zjY (hQ _ (((Heap.SameBut.update ..).extBut.push _).push _))
theorem B04 (hit:IsItemIter s.heap it d i n ep ok ov)(h:Q (.ref it) s):wpAny (model prog w) A (pyIter (.ref it)) Q E s:=by have hT:s.TypeIs (.ref it) "dict_itemiterator":=⟨_,hit,rfl⟩;have ent:entryFor table "dict_itemiterator.__iter__" =some Builtin.«dict_keyiterator.__iter__»:=entryFor_alias (id':="dict_keyiterator.__iter__") (by kernel_rfl) rfl (by decide +kernel) (by kernel_rfl);refine wpAny_pyIter_slot hT F.slot_dict_itemiterator_iter (wpAny_call_entry F.slot_dict_itemiterator_iter hT ent ?_ (F.args_dict_itemiterator_iter_1 _));show wpAny _ _ (ret (.ref it)) _ _ s;exact zjY ⟨_,rfl,"dict_itemiterator",_,hT,F.slot_dict_itemiterator_next.lookup,h⟩
end
end PySem
namespace L2
open PySem PySem.Spec PyProof.Rows
theorem Inv.freeze (I:Inv X pins σ H s)(hm:Mut (H d))(hd:H d=some u)(ho:s.heap.get? d=some o):Inv X pins σ (upd H d (.frz o u)) s:=by
 have hu:Un X.fs [] H (upd H d (.frz o u)) s.heap s.heap:=by
  refine⟨fun _ _ q _ _ _=>q,fun b ob q _ _ _=> ⟨ob.slots,q⟩,fun b _ _ n _=> ?_,fun b ob q _=> ⟨ob,q⟩,fun b xs q=> ?_,fun b ob v q=> ?_,fun b ps q=> ⟨#[],?_⟩⟩
  ·rw [aV (fun z=>by rw [z,hd]at n;cases n)];exact n
  ·rw [aV (fun z=>by rw [z]at q;rw [q]at hm;exact hm)];exact q
  ·rw [aV (fun z=>by rw [z]at q;rw [q]at hm;exact hm)];exact q
  ·rw [aV (fun z=>by rw [z]at q;rw [q]at hm;exact hm),q];simp
 have hok:HOk X.prog X.w (upd H d (.frz o u)) s.heap:=fun b v q=>by
  have st:∀c w',ObjOk X.prog X.w H s.heap c w'->ObjOk X.prog X.w (upd H d (.frz o u)) s.heap c w':=fun c w' x=>
   x.stay (fun _ _ _ q=>q) (fun b q=>by rw [aV (fun z=>by rw [z]at q;rw [q]at hm;exact hm)];exact q) fun b xs q=>by rw [aV (fun z=>by rw [z]at q;rw [q]at hm;exact hm)];exact q
  by_cases hb:b=d
  ·subst hb;rw [aD]at q;cases q;exact⟨ho,st _ _ (I.hok _ _ hd)⟩
  ·rw [aV hb]at q;exact st _ _ (I.hok _ _ q)
 have:=I.un (h':=s.heap) (t':=s.toks) hu hok;exact this
def Itm (d:Addr)(o:Obj)(kvs:List (List Key×V)):It:=
  ⟨fun i H=>H d=some (.frz o (.dT kvs))/\i<kvs.length,
   fun i H v H'=> ∃p b k x,v= .ref p/\H p=none/\H'=upd H p (.tup [.ref b,x])/\kvs[i]?=some (k,x)/\H b=some (.tup (k.map kV)),
   fun i H=>H d=some (.frz o (.dT kvs))/\i=kvs.length⟩
theorem A56 {P:Program}{w:World}{K:W.Frag}{es:List Expr}{x1}{pos:Pos}(it d:Addr)(o:Obj)(kvs:List (List Key×V))(ens:Array DictEntry)(ep:Nat)(hd:o.data= .dict ens ep)(hz:ens.size=kvs.length):
  gE P w K (.Tuple es x1 pos) (Itm d o kvs) [it] it (fun i h=> ∃ok ov,IsItemIter h it d i ens.size ep ok ov)where
 mem:=by simp
 obj:=fun i h ⟨ok,ov,st⟩ c hc=>by
  rw [mem_singleton.mp hc];exact⟨_,st,fun v z=>by cases z⟩
 keep:=fun i h h' ⟨ok,ov,st⟩ kp=> ⟨ok,ov,kp it (by simp) _ st⟩
 item:=by
  intro X hP hw hK hc i pins s σ H E I hf st hg;subst hP hw hK;obtain⟨ok,ov,st⟩:=st;obtain⟨g1,g2⟩:=hg;obtain⟨ho,ob⟩:=(show ObjOk X.prog X.w H s.heap d (.frz o (.dT kvs))from I.hok _ _ g1);obtain⟨_,_,xs,rp,o',es',ep',ho',hx',hd',he',_⟩:=ob;rw [ho]at ho';cases ho';rw [hd]at hd';cases hd';have hi:i<ens.size:=by omega
  have hxs:xs.length=kvs.length:=(Paired.length rp).symm;have hki:kvs[i]?=some kvs[i]:=getElem?_eq_getElem g2;have hxi:i<xs.length:=by omega
  have hent:ens[i]=entryOfKey (tupleKind (dN X.prog X.w)) xs[i]:=by
   have:=entry_at (knd:=tupleKind (dN X.prog X.w)) he' i;rw [Array.getElem?_eq_getElem hi,getElem?_eq_getElem hxi]at this;exact Option.some.inj this
  have hpr:kvs[i].1=xs[i].1/\H xs[i].2.1=some (.tup (kvs[i].1.map kV))/\RelV kvs[i].2 xs[i].2.2:=by
   have go:∀(l:List (List Key×V))(m:List (List Key×Addr×Value))(j:Nat)(a:j<l.length)(b:j<m.length),Paired (fun(p:List Key×V) (q:List Key×Addr×Value)=>p.1=q.1/\H q.2.1=some (.tup (p.1.map kV))/\RelV p.2 q.2.2) l m->l[j].1=m[j].1/\H m[j].2.1=some (.tup (l[j].1.map kV))/\RelV l[j].2 m[j].2.2:=by
    intro l m j a b r
    induction r generalizing j with
    |nil=>cases a
    |cons r t ih=>
     cases j with
     |zero=>exact r
     |succ j=>exact ih j (by simpa using a) (by simpa using b)
   exact go kvs xs i g2 hxi rp
  refine A51 st ho hd hi fun h' g1' g2' g3' g4'=> ?_;refine⟨_,rfl,wpAny_letOwnedTupleGo_items (s:={s with heap:=h'}) g1' fun h2 hz2 hs2=> ?_⟩;have lz:s.heap.objs.size≠it:=ne_of_gt (zjT st);have hn:H s.heap.objs.size=none:=I.hok.fresh (zjQ _);have kp:∀c o,c∉[it]->s.heap.get? c=some o->h2.get? c=some o:=fun c o hc' q=>by
   have c1:c≠it:=fun e=>hc' (by simp [e]);exact(hs2.2 c c1).trans (g4' c o c1 q)
  have hT2:=(hs2.2 _ lz).trans g2';rw [hent]at hT2;have I2:Inv X pins σ (upd H s.heap.objs.size (.tup [.ref xs[i].2.1,kvs[i].2])) {s with heap:=h2,toks:=s.toks}:=I.turnLaid (fp:=[it]) kp hf (zjQ _) ⟨by show 2<=sizeLine;rw [sizeLine_eq];decide,[.ref xs[i].2.1,xs[i].2.2],.cons rfl (.cons hpr.2.2 .nil),⟨_,hT2,rfl,_,rfl⟩⟩;refine⟨.ref s.heap.objs.size,_,I2,rfl,⟨s.heap.objs.size,xs[i].2.1,kvs[i].1,kvs[i].2,rfl,hn,rfl,hki,hpr.2.1⟩,⟨_,_,hz2⟩,fun c hc'=> ?_⟩;rw [mem_singleton.mp hc',aV lz.symm];exact(hf it (by simp)).1
 done:=by
  intro X hP hw hK hc i pins s σ H E I hf st hg;subst hP hw hK;obtain⟨ok,ov,st⟩:=st;obtain⟨g1,g2⟩:=hg;obtain⟨ho,ob⟩:=(show ObjOk X.prog X.w H s.heap d (.frz o (.dT kvs))from I.hok _ _ g1);refine A57 (I.ok.hd hc) st ho hd (by omega) fun h' hk=> ⟨rfl,?_⟩;exact I.turnedL (fp:=[it]) (t':=s.toks) (fun c o hc' q=>hk c o (fun e=>hc' (by simp [e])) q) hf
 self:=fun _ _ _ _ _ ⟨ok,ov,st⟩ h=>B04 st h
def B0a (td:TE):TI:=fun σ H R=>td σ H fun x H1=> ∃d kvs,x= .ref d/\H1 d=some (.dT kvs)/\∀o,R (Itm d o kvs) (upd H1 d (.frz o (.dT kvs)))
section
theorem B1n {a:Expr}{td:TE}{apos cpos:Pos}{es:List Expr}{x1}{tpos:Pos}(ha:PE X a td)(hbase:attributeBase a "items" X.env (eval a X.env)=eval a X.env:=by rfl)(hline:(apos.endLine==cpos.line)=true:=by rfl):
  PI X (.Tuple es x1 tpos) (.Call (.Attribute a "items" apos) [] [] cpos) (B0a td):=by
 intro pins s σ H R I h;refine wpAny_Call_method0_late hbase hline (thn (ha pins s σ H _ I h) fun v s1 ⟨x,H1,I1,r1,d,kvs,e,q1,q⟩=> ?_);subst e;cases r1;obtain⟨_,hs,xs,rp,o,ens,ep,ho,hx,hd,he,_⟩:=(show ObjOk X.prog X.w H1 s1.heap d (.dT kvs)from I1.hok _ _ q1);have hsz:ens.size=kvs.length:=by rw [size_of_entries he];exact(Paired.length rp).symm
 refine⟨"dict","dict.items",PySem.F.plainAttrs_dict,PySem.F.slot_dict_items,PySem.F.type_dict_items,⟨o,ho,hx.1⟩,fun a e=>by cases e;exact⟨o,ho,hx.2.1⟩,Calls.callWith_builtin rfl (PySem.evalArgs_none ?_)⟩;refine A67 ho hx hs ?_;refine B17 (s:={s1 with heap:=s1.heap.push {cls:=.type "dict_items",data:=.fields #[.ref d]}}) ⟨_,get?_push_size _ rfl,rfl,rfl⟩ (zjX _ ho) hd ?_;have kp:∀b ob,s1.heap.get? b=some ob->((s1.heap.push {cls:=.type "dict_items",data:=.fields #[.ref d]}).push {cls:=.type "dict_itemiterator",data:=.fields #[.none,.bool false,.ref d,.int 0 0,.int ens.size 0,.int ep 0,.none,.none]}).get? b=some ob:=fun b ob e=>zjX _ (zjX _ e);have I2:=(I1.freeze (by rw [q1];trivial) q1 ho).kept (t':=s1.toks) kp;refine⟨_,[_],_,_,_,rfl,I2,A56 _ d o kvs ens ep hd hsz,⟨_,_,get?_push_size _ rfl⟩,fun c hc=> ?_,q o⟩;rw [mem_singleton.mp hc];have hge:s1.heap.objs.size<=(s1.heap.push {cls:=.type "dict_items",data:=.fields #[.ref d]}).objs.size:=by rw [size_push];exact le_succ _
 exact I1.fpOk hge (by rw [aV (ne_of_gt (lt_of_lt_of_le (zjT ho) hge))];exact I1.hok.fresh hge)
end
end L2
namespace L2
open PySem PySem.W PySem.Calls PyProof.Rows Builtin Builtin.ObjectAttr Builtin.Getset_descriptor
section
variable {prog:Program}{w:World}{A:Around}{E:Value->Shared->Prop}{K:W.Frag}{x D:Addr}
end
end L2
namespace L2
open PySem PySem.Spec PyProof.Rows
theorem A2r:dW X (.builtin "isinstance") (fun xs H Q=> ∃x t ty b,∃Ts:List String,xs=[x,.ref t]/\H t=some (.tup (Ts.map V.ty))/\TyOf X.K H x ty/\(∃T,ty= .type T)/\W.kitAny X.K ty (Ts.map Value.type)=some b/\Q (.bl b) H):=by
 intro pins s σ H xs us Q I r h;obtain⟨x,t,ty,b,Ts,rfl,ht,hty,⟨T,rfl⟩,k,q⟩:=h;obtain⟨u,w',rfl,rx,ry⟩:=tN r;cases ry;obtain⟨its,rv,⟨⟨c1,d1,t1,l1⟩,ho,hc,n,hd⟩,_⟩:=I.tuple (SqT.of ht);simp only at hc hd;subst hc hd;have e:its=Ts.map Value.type:=by
  have go:∀(Ts:List String)(us:List Value),Vals (Ts.map V.ty) us->us=Ts.map Value.type:=by
   intro Ts
   induction Ts with
   |nil=>intro us h;cases h;rfl
   |cons T Ts ih=>intro us h;cases h with|cons a b=>rw [show _=Value.type T from a,ih _ b];rfl
  exact go Ts its rv
 subst e;have fin:∀tk,EP X pins σ Q (.bool b) {s with toks:=tk}:=fun tk=> ⟨.bl b,H,I.tok _,rfl,q⟩;cases hty with
 |non=>cases (show u=Value.none from rx);exact W.kia_tup W.kitx_none I.kIn True.intro ho k (fun z=>nomatch z) fin
 |bl y=>cases (show u=Value.bool y from rx);exact W.kia_tup W.kitx_bool I.kIn True.intro ho k (fun z=>nomatch z) fin
 |int i=>obtain⟨t,z⟩:=(show∃t,u=Value.int i t from rx);cases z;exact W.kia_tup W.kitx_int I.kIn True.intro ho k (fun z=>nomatch z) fin
 |str y=>obtain⟨t,z⟩:=(show∃t,u=Value.str y t from rx);cases z;exact W.kia_tup W.kitx_str I.kIn True.intro ho k (fun z=>nomatch z) fin
 |flt y=>obtain⟨t,z⟩:=(show∃t,u=Value.float y t from rx);cases z;exact W.kia_tup W.kitx_float I.kIn True.intro ho k (fun z=>nomatch z) fin
 | @lst a xs ea=>
  cases (show u=Value.ref a from rx);obtain⟨_,_,n,_,h1⟩:=(show ObjOk X.prog X.w H s.heap a (.lst xs)from I.hok a _ ea);exact W.kia_tup W.kitx_list I.kIn ⟨_,h1,rfl⟩ ho k (fun z=>nomatch z) fin
 | @frz a ob xs ea=>
  cases (show u=Value.ref a from rx);obtain⟨_,_,_,n,_,h1⟩:=(show ObjOk X.prog X.w H s.heap a (.frz ob (.lst xs))from I.hok a _ ea);exact W.kia_tup W.kitx_list I.kIn ⟨_,h1,rfl⟩ ho k (fun z=>nomatch z) fin
 | @tup a xs ea=>
  cases (show u=Value.ref a from rx);obtain⟨_,_,_,p⟩:=(show ObjOk X.prog X.w H s.heap a (.tup xs)from I.hok a _ ea);obtain⟨o,h1,h2,_⟩:=p;exact W.kia_tup W.kitx_tuple I.kIn ⟨o,h1,h2⟩ ho k (fun z=>nomatch z) fin
 | @dK a kvs ea=>
  cases (show u=Value.ref a from rx);obtain⟨_,_,vs,_,p⟩:=(show ObjOk X.prog X.w H s.heap a (.dK kvs)from I.hok a _ ea);obtain⟨o,es,ep,h1,h2,_⟩:=p;exact W.kia_tup W.kitx_dict I.kIn ⟨o,h1,h2.1⟩ ho k (fun z=>nomatch z) fin
 | @dT a kvs ea=>
  cases (show u=Value.ref a from rx);obtain⟨_,_,xs,_,o,es,ep,h1,h2,_⟩:=(show ObjOk X.prog X.w H s.heap a (.dT kvs)from I.hok a _ ea);exact W.kia_tup W.kitx_dict I.kIn ⟨o,h1,h2.1⟩ ho k (fun z=>nomatch z) fin
theorem PI.or (h1:PI X tg iter w1)(h2:PI X tg iter w2):PI X tg iter (fun σ H R=>w1 σ H R\/w2 σ H R):=by
 intro pins s σ H R I h;rcases h with h|h
 ·exact h1 pins s σ H R I h
 ·exact h2 pins s σ H R I h
abbrev C3:=Int×Int×Int
def ClP (H:Hp)(bs:List Addr)(cl:List C3):Prop:=Paired (fun b (c:C3)=>H b=some (.tup [.int c.1,.int c.2.1,.int c.2.2])) bs cl
theorem ClP.ext (h:ClP H bs cl)(e:Ext H H'):ClP H' bs cl:=Paired.mapP h fun _ _ z=>e.tup _ _ z
theorem ClP.get:∀{bs:List Addr}{cl:List C3}{i:Nat}{b:Addr},ClP H bs cl->bs[i]?=some b->∃c,cl[i]?=some c/\H b=some (.tup [.int c.1,.int c.2.1,.int c.2.2])
 |_,_,0,_,.cons r _,h=>by cases h;exact⟨_,rfl,r⟩
 |_,_,i+1,_,.cons _ t,h=>ClP.get (i:=i) t (by simpa using h)
def ClT (H:Hp)(a:Addr)(cl:List C3):Prop:=∃bs,H a=some (.tup (bs.map V.ref))/\ClP H bs cl
theorem ClT.ext (h:ClT H a cl)(e:Ext H H'):ClT H' a cl:=let ⟨bs,h1,h2⟩:=h;⟨bs,e.tup _ _ h1,h2.ext e⟩
structure fT (cs:List Int):Prop where
 l1:1<=cs.length
 l6:cs.length<=6
 num:∀x∈cs,1<=x/\x<=100
def lt2 (a b:Int×Int):Bool:=HT.lexLt [a.1,a.2] [b.1,b.2]
def bZ (c:C3):Int×Int:=(c.1,c.2.1)
structure fL (cl:List C3):Prop where
 l1:1<=cl.length
 l12:cl.length<=12
 num:∀c∈cl,(0<=c.1/\c.1<=3)/\(0<=c.2.1/\c.2.1<=5)/\1<=c.2.2/\c.2.2<=20
 up:(cl.map bZ).Pairwise fun a b=>lt2 a b=true
def jN (cs:List Int)(cl:List C3):Prop:=∀c∈cl,c.2.1<cs.length
def fQ (H:Hp)(a:Addr)(cs:List Int):Prop:=H a=some (.tup (cs.map V.int))
def Wk (J:It)(xs:List V)(S:Hp->Prop):Prop:=∀{g:TG}{tb:TS}{D:dE}{σ:St}{H:Hp}(Pv:Nat->St->Hp->Prop),Pv 0 σ H->(∀i σ H,i<=xs.length->Pv i σ H->S H)->
 (∀i x σ H,xs[i]?=some x->Pv i σ H->g x σ H fun σ2 H2=>tb {D with nx:=Pv (i+1),ct:=Pv (i+1),bk:=D.nx} σ2 H2)->(∀σ H,Pv xs.length σ H->D.nx σ H)->cX J g tb D σ H
theorem iV {K:W.Frag}{a:Addr}{xs:List V}:Wk (Itt K a) xs fun H=>SqT K H a xs:=fun Pv h0 hl hs hd=>gM Pv h0 hl hs hd
theorem fR {K:W.Frag}{a:Addr}{xs:List V}:Wk (Itl K a) xs fun H=>SqL K H a xs:=fun Pv h0 hl hs hd=>fX Pv h0 hl hs hd
theorem mJ {K:PySem.W.Frag}{J:It}{S:Hp->Prop}{l:Addr}{bs:List Addr}{cl:List C3}{te:TE}{H0:Hp}{rest:St}{Q:St->Hp->Prop}(W:Wk J (bs.map V.ref) S)(hS:∀H',Same H0 H'->S H')(hC:ClP H0 bs cl)(hl:H0 l=none)(hz:bs.length<=1000)(f:C3->V)
  (turn:∀c H' Q',c∈cl->Same H0 H'->(∀H2,Same H' H2->Q' (f c) H2)->te (some (.int c.1)::some (.int c.2.1)::some (.int c.2.2)::rest) H' Q')(hQ:∀σ H',Same H0 H'->H' l=some (.lst (cl.map f))->Q σ H'):
  cX J (kK K 3 (fM (dD 0) (fM (dD 1) (fM (dD 2) kF)))) (cI iD (fA l te)) (eC Q) (none::none::none::rest) (upd H0 l (.lst [])):=by
 have hlen:bs.length=cl.length:=Paired.length hC;refine W (fun i σ H'=>(∃x y z,σ=x::y::z::rest)/\Same H0 H'/\H' l=some (.lst ((cl.take i).map f))) ⟨⟨_,_,_,rfl⟩,aG hl,by rw [aD];rfl⟩ (fun i σ H' _ h=>hS _ h.2.1) ?_ ?_
 ·rintro i x σ H' hx ⟨⟨x0,y0,z0,rfl⟩,hs,hl'⟩;rw [getElem?_map]at hx;cases hb:bs[i]? with
  |none=>rw [hb]at hx;cases hx
  |some b=>
   rw [hb]at hx;cases hx;obtain⟨c,hc,he⟩:=hC.get hb;refine⟨b,_,rfl,SqT.of (hs _ _ he),rfl,_,_,rfl,_,_,rfl,_,_,rfl,rfl,?_⟩;refine gZ ?_;refine turn c H' _ (mem_of_getElem? hc) hs fun H2 h2=> ?_;refine⟨_,h2 _ _ hl',cM (by rw [length_map,length_take];omega),⟨_,_,_,rfl⟩,fun b u e=> ?_,?_⟩
   ·rw [aV (bL e hl)];exact h2 _ _ (hs _ _ e)
   ·rw [aD,take_succ,hc,map_append];rfl
 ·rintro σ H' ⟨_,hs,hl'⟩;rw [length_map,hlen,take_of_length_le (zjQ _)]at hl';exact hQ σ H' hs hl'
theorem A8g {K:PySem.W.Frag}{J:It}{S:Hp->Prop}{l:Addr}{bs:List Addr}{cl:List C3}{H0:Hp}{Q:St->Hp->Prop}(W:Wk J (bs.map V.ref) S)(hS:∀H',Same H0 H'->S H')(hC:ClP H0 bs cl)(hl:H0 l=none)(hz:bs.length<=1000)
  (hQ:∀σ H' ps,Same H0 H'->H' l=some (.lst (ps.map V.ref))->PlAt H' ps (cl.map bZ)->Q σ H'):
  cX J (kK K 3 (fM (dD 0) (fM (dD 1) (fM (dD 2) kF)))) (cI iD (fA l (mD (bY (cY 0) (bY (cY 1) iR))))) (eC Q) [none,none,none] (upd H0 l (.lst [])):=by
 have hlen:bs.length=cl.length:=Paired.length hC;refine W (fun i σ H'=>σ.length=3/\Same H0 H'/\∃ps:List Addr,H' l=some (.lst (ps.map V.ref))/\PlAt H' ps ((cl.take i).map bZ)) ⟨rfl,aG hl,[],by rw [aD];rfl,.nil⟩ (fun i σ H' _ h=>hS _ h.2.1) ?_ ?_
 ·rintro i x σ H' hx ⟨hσ,hs,ps,hl',hP⟩
  match σ,hσ with
  | [x0,y0,z0],_=>
  rw [getElem?_map]at hx;cases hb:bs[i]? with
  |none=>rw [hb]at hx;cases hx
  |some b=>
   rw [hb]at hx;cases hx;obtain⟨c,hc,he⟩:=hC.get hb;have hpl:ps.length<=i:=by have:=Paired.length hP;rw [length_map,length_take]at this;omega
   have hil:i<bs.length:=(zjW.mp hb).1;refine⟨b,_,rfl,SqT.of (hs _ _ he),rfl,_,_,rfl,_,_,rfl,_,_,rfl,rfl,?_⟩;refine gZ ?_;refine⟨_,rfl,_,rfl,by show 2<=sizeLine;decide,fun q hq=> ?_⟩;have s2:=aG (o:=.tup [.int c.1,.int c.2.1]) hq;have hlq:q≠l:=fun z=>by rw [z,hl']at hq;cases hq
   refine⟨_,s2 _ _ hl',cM (by rw [length_map];omega),rfl,fun b u e=> ?_,ps++[q],?_,?_⟩
   ·rw [aV (bL e hl)];exact s2 _ _ (hs _ _ e)
   ·rw [aD,map_append];rfl
   ·rw [take_succ,hc,map_append];refine PlAt.snoc (Paired.mapP hP fun p c' e=> ?_) (by rw [aV hlq,aD];rfl);have e':=s2 _ _ e;rw [aV (fun z=>by rw [z,s2 _ _ hl']at e';cases e')];exact e'
 ·rintro σ H' ⟨_,hs,ps,hl',hP⟩;rw [length_map,hlen,take_of_length_le (zjQ _)]at hP;exact hQ σ H' ps hs hl' hP
def E3 (R:V->V->Bool->Prop):List V->List V->List Bool->Prop
 | [],[],[]=>True
 |x::xs,y::ys,k::ks=>R x y k/\E3 R xs ys ks
 |_,_,_=>False
def EqF (a b:V)(k:Bool):Prop:=(∃i j,a= .int i/\b= .int j/\k=decide (i=j))\/ ∃x y,a= .str x/\b= .str y/\k=decide (x=y)
def EqD (H:Hp):Nat->V->V->Bool->Prop
 |0,a,b,k=>EqF a b k
 |n+1,a,b,k=>EqF a b k\/ ∃p q xs ys ks,a= .ref p/\b= .ref q/\((H p=some (.tup xs)/\H q=some (.tup ys))\/(H p=some (.lst xs)/\H q=some (.lst ys)))/\E3 (EqD H n) xs ys ks/\k=ks.all id
theorem E3.len:∀{xs ys:List V}{ks:List Bool},E3 R xs ys ks->xs.length=ys.length/\xs.length=ks.length
 | [],[],[],_=> ⟨rfl,rfl⟩
 |x::xs,y::ys,k::ks,h=>by
  have:=E3.len h.2;simp only [length_cons];omega
 | [],[],_::_,h=>h.elim
 | [],_::_,_,h=>h.elim
 |_::_,[],_,h=>h.elim
 |_::_,_::_,[],h=>h.elim
theorem E3.get:∀{xs ys:List V}{ks:List Bool}{i:Nat}{x y:V},E3 R xs ys ks->xs[i]?=some x->ys[i]?=some y->∃k,ks[i]?=some k/\R x y k
 |x::xs,y::ys,k::ks,0,_,_,h,h1,h2=>by cases h1;cases h2;exact⟨k,rfl,h.1⟩
 |x::xs,y::ys,k::ks,i+1,_,_,h,h1,h2=>E3.get (i:=i) h.2 (by simpa using h1) (by simpa using h2)
 | [],_,_,_,_,_,_,h1,_=>by simp at h1
 |_::_,[],_,_,_,_,h,_,_=>h.elim
 |_::_,_::_,[],_,_,_,h,_,_=>h.elim
theorem EqF.refl_true (h:EqF a a k):k=true:=by
 rcases h with⟨i,j,h1,h2,h3⟩| ⟨x,y,h1,h2,h3⟩
 ·rw [h1]at h2;rw [h3,V.int.inj h2];simp
 ·rw [h1]at h2;rw [h3,V.str.inj h2];simp
theorem EqD.refl_true:∀{n:Nat}{a:V}{k:Bool},EqD H n a a k->k=true
 |0,a,k,h=>EqF.refl_true h
 |n+1,a,k,h=>by
  rcases h with h| ⟨p,q,xs,ys,ks,h1,h2,h3,h4,h5⟩
  ·exact EqF.refl_true h
  ·rw [h1]at h2;cases h2;have e:xs=ys:=by
    rcases h3 with⟨u,v⟩| ⟨u,v⟩
    ·rw [u]at v;cases v;rfl
    ·rw [u]at v;cases v;rfl
   subst e;rw [h5,all_eq_true];have go:∀{xs:List V}{ks:List Bool},E3 (EqD H n) xs xs ks->∀k∈ks,id k=true:=fun{xs ks}=>by
    induction xs generalizing ks with
    |nil=>intro h k hk;cases ks with|nil=>cases hk|cons _ _=>exact h.elim
    |cons x xs ih=>
     intro h k hk;cases ks with
     |nil=>cases hk
     |cons k0 ks=>
      rcases mem_cons.mp hk with z|z
      ·rw [z];exact EqD.refl_true h.1
      ·exact ih h.2 k z
   exact go h4
theorem EqD.int (n:Nat)(i j:Int):EqD H n (.int i) (.int j) (decide (i=j)):=by
 cases n with
 |zero=>exact .inl ⟨i,j,rfl,rfl,rfl⟩
 |succ n=>exact .inl (.inl ⟨i,j,rfl,rfl,rfl⟩)
section
theorem A05 (ks:List Bool):(List.range ks.length).all (fun j=>ks.getD j true)=ks.all id:=by
 rw [Bool.eq_iff_iff,all_eq_true,all_eq_true];constructor
 ·intro h k hk;obtain⟨j,hj,e⟩:=getElem_of_mem hk;have:=h j (by simpa using hj);rw [show ks.getD j true=ks[j] by simp [hj],e]at this;exact this
 ·intro h j hj;have hj':j<ks.length:=by simpa using hj
  rw [show ks.getD j true=ks[j] by simp [hj']];exact h _ (getElem_mem _)
theorem pB (ih:∀{a b:V}{k:Bool}{u v:Value},EqD H n a b k->RelV a u->RelV b v->SeqAt.EqAt A s u v k)(h4:E3 (EqD H n) xs ys ks)(r1:Vals xs us)(r2:Vals ys ws):
  ∀j (h1:j<us.toArray.size)(h2:j<ws.toArray.size),SeqAt.EqAt A s us.toArray[j] ws.toArray[j] (ks.getD j true):=fun j h1 h2=>by
 have hl:=h4.len;have l1:=r1.length;have l2:=r2.length;rw [size_toArray]at h1 h2;have j1:j<xs.length:=by omega
 have j2:j<ys.length:=by omega
 obtain⟨u,hu,ru⟩:=r1.get (getElem?_eq_getElem j1);obtain⟨v,hv,rv⟩:=r2.get (getElem?_eq_getElem j2);obtain⟨k,hk,e⟩:=h4.get (getElem?_eq_getElem j1) (getElem?_eq_getElem j2);have eu:us.toArray[j]=u:=by
  have:=(zjW.mp hu).2;simpa using this
 have ev:ws.toArray[j]=v:=by
  have:=(zjW.mp hv).2;simpa using this
 rw [eu,ev,show ks.getD j true=k by rw [getD_eq_getElem?_getD,hk];rfl];exact ih e ru rv
theorem qZ (I:Inv X pins σ H s)(hu:A.units<cLine)(ih:∀{a b:V}{k:Bool}{u v:Value},EqD H n a b k->RelV a u->RelV b v->SeqAt.EqAt A.in1 s u v k)
  (h3:(H p=some (.tup xs)/\H q=some (.tup ys))\/(H p=some (.lst xs)/\H q=some (.lst ys)))(h4:E3 (EqD H n) xs ys ks):SeqAt.RcAt A s (.ref p) (.ref q) (ks.all id)/\SeqAt.RcNeAt A s (.ref p) (.ref q) (!ks.all id):=by
 have hl:=h4.len;rcases h3 with⟨hp,hq⟩| ⟨hp,hq⟩
 ·obtain⟨us,r1,p1,_⟩:=I.tuple (SqT.of hp);obtain⟨ws,r2,p2,_⟩:=I.tuple (SqT.of hq);have l1:=r1.length;have l2:=r2.length;have e:((List.range (min us.toArray.size ws.toArray.size)).all (fun j=>ks.getD j true)&&us.toArray.size==ws.toArray.size)=ks.all id:=by
   rw [size_toArray,size_toArray,show min us.length ws.length=ks.length by omega,A05,show us.length=ws.length by omega];simp
  have k1:=SeqAt.RcAt.tuples p1 p2 hu (pB ih h4 r1 r2);have k2:=SeqAt.RcNeAt.tuples p1 p2 hu (pB ih h4 r1 r2);rw [e]at k1 k2;exact⟨k1,k2⟩
 ·obtain⟨us,r1,p1,_⟩:=I.list (SqL.of hp);obtain⟨ws,r2,p2,_⟩:=I.list (SqL.of hq);have l1:=r1.length;have l2:=r2.length;have e:(List.range us.toArray.size).all (fun j=>ks.getD j true)=ks.all id:=by rw [size_toArray,show us.length=ks.length by omega,A05]
  have hz:us.toArray.size=ws.toArray.size:=by rw [size_toArray,size_toArray];omega
  have k1:=SeqAt.RcAt.lists p1.isList p2.isList hz hu (pB ih h4 r1 r2);have k2:=SeqAt.RcNeAt.lists p1.isList p2.isList hz hu (pB ih h4 r1 r2);rw [e]at k1 k2;exact⟨k1,k2⟩
theorem sZ (I:Inv X pins σ H s):∀{n:Nat}{A:Around}{a b:V}{k:Bool}{u v:Value},A.units+n<cLine->EqD H n a b k->RelV a u->RelV b v->SeqAt.EqAt A s u v k:=by
 have flat:∀{A:Around}{a b:V}{k:Bool}{u v:Value},EqF a b k->RelV a u->RelV b v->SeqAt.EqAt A s u v k:=fun{A a b k u v} h ra rb=>by
  rcases h with⟨i,j,rfl,rfl,rfl⟩| ⟨x,y,rfl,rfl,rfl⟩
  ·obtain⟨t,rfl⟩:=ra;obtain⟨t',rfl⟩:=rb;have:=SeqAt.EqAt.int_int (A:=A) (s:=s) i t j t'
   rwa [show(i==j)=decide (i=j) by rw [Bool.eq_iff_iff];simp]at this
  ·obtain⟨t,rfl⟩:=ra;obtain⟨t',rfl⟩:=rb;have:=SeqAt.EqAt.str_str (A:=A) (s:=s) x t y t'
   rwa [show(x==y)=decide (x=y) by rw [Bool.eq_iff_iff];simp]at this
 intro n
 induction n with
 |zero=>intro A a b k u v _ h ra rb;exact flat h ra rb
 |succ n ih=>
  intro A a b k u v hu h ra rb;rcases h with h| ⟨p,q,xs,ys,ks,rfl,rfl,h3,h4,rfl⟩
  ·exact flat h ra rb
  ·cases ra;cases rb;by_cases hpq:p=q
   ·subst hpq;have:(ks.all id)=true:=EqD.refl_true (n:=n+1) (H:=H) (a:=.ref p) (.inr ⟨p,p,xs,ys,ks,rfl,rfl,h3,h4,rfl⟩);rw [this];exact SeqAt.EqAt.same _
   ·exact SeqAt.EqAt.of_refs hpq (qZ I (by omega) (fun e r1 r2=>ih (show A.in1.units+n<cLine by show A.units+1+n<cLine;omega) e r1 r2) h3 h4).1
end
section
def A0w (n:Nat)(g:Bool->Bool):R2:=fun x y H Q=> ∃p q xs ys ks,x= .ref p/\y= .ref q/\((H p=some (.tup xs)/\H q=some (.tup ys))\/(H p=some (.lst xs)/\H q=some (.lst ys)))/\E3 (EqD H n) xs ys ks/\Q (.bl (g (ks.all id))) H
theorem B0h (n:Nat)(hu:X.A.units+n+1<cLine):OpR X (compareOp .Eq) (A0w n id):=by intro pins s σ H x y v u Q I rx ry h;obtain⟨p,q,xs,ys,ks,rfl,rfl,h3,h4,hq⟩:=h;cases rx;cases ry;exact(qZ I (by omega) (fun e r1 r2=>sZ I (show X.A.in1.units+n<cLine by show X.A.units+1+n<cLine;omega) e r1 r2) h3 h4).1 X.prog X.w X.xe _ ⟨.bl _,H,I,rfl,hq⟩
theorem B3t (n:Nat)(hu:X.A.units+n+1<cLine):OpR X (compareOp .NotEq) (A0w n not):=by intro pins s σ H x y v u Q I rx ry h;obtain⟨p,q,xs,ys,ks,rfl,rfl,h3,h4,hq⟩:=h;cases rx;cases ry;exact(qZ I (by omega) (fun e r1 r2=>sZ I (show X.A.in1.units+n<cLine by show X.A.units+1+n<cLine;omega) e r1 r2) h3 h4).2 X.prog X.w X.xe _ ⟨.bl _,H,I,rfl,hq⟩
def wQ (n:Nat)(g:Bool->Bool):R2:=fun x y H Q=> ∃q xs ks,y= .ref q/\(H q=some (.tup xs)\/H q=some (.lst xs))/\E3 (EqD H n) xs (xs.map fun _=>x) ks/\Q (.bl (g (ks.any id))) H
theorem A1v:∀{a b:V}{u:Value},RelV a u->RelV b u->a=b:=fun{a b u} ha hb=>by
 cases a<;>cases b<;>simp only [RelV]at ha hb<;>first
  |rfl
  | (subst ha;cases hb;rfl)
  | (subst ha;cases hb;done)
  | (obtain⟨t,rfl⟩:=ha;obtain⟨t',e⟩:=hb;cases e;rfl)
  | (obtain⟨t,rfl⟩:=ha;obtain⟨t',e⟩:=hb;cases e;done)
  | (obtain⟨t,rfl⟩:=ha;cases hb;done)
  | (obtain⟨t,rfl⟩:=hb;cases ha;done)
theorem EqF.func (h:EqF a b k)(h':EqF a b k'):k=k':=by
 rcases h with⟨i,j,rfl,rfl,rfl⟩| ⟨x,y,rfl,rfl,rfl⟩
 ·rcases h' with⟨i',j',h1,h2,rfl⟩| ⟨x,y,h1,h2,rfl⟩
  ·cases h1;cases h2;rfl
  ·cases h1
 ·rcases h' with⟨i',j',h1,h2,rfl⟩| ⟨x',y',h1,h2,rfl⟩
  ·cases h1
  ·cases h1;cases h2;rfl
theorem EqF.noref (h:EqF (.ref p) b k):False:=by rcases h with⟨i,j,h1,_⟩| ⟨x,y,h1,_⟩<;>cases h1
theorem EqD.func:∀{n:Nat}{a b:V}{k k':Bool},EqD H n a b k->EqD H n a b k'->k=k'
 |0,a,b,k,k',h,h'=>EqF.func h h'
 |n+1,a,b,k,k',h,h'=>by
  rcases h with h| ⟨p,q,xs,ys,ks,rfl,rfl,h3,h4,rfl⟩
  ·rcases h' with h'| ⟨p,q,xs,ys,ks,rfl,rfl,h3,h4,rfl⟩
   ·exact EqF.func h h'
   ·exact h.noref.elim
  ·rcases h' with h'| ⟨p',q',xs',ys',ks',e1,e2,h3',h4',rfl⟩
   ·exact h'.noref.elim
   ·cases e1;cases e2;have ex:xs=xs'/\ys=ys':=by
     rcases h3 with⟨u,v⟩| ⟨u,v⟩<;>rcases h3' with⟨u',v'⟩| ⟨u',v'⟩<;>rw [u]at u'<;>rw [v]at v'<;>cases u'<;>cases v'<;>exact⟨rfl,rfl⟩
    obtain⟨rfl,rfl⟩:=ex;have go:∀{xs ys:List V}{ks ks':List Bool},E3 (EqD H n) xs ys ks->E3 (EqD H n) xs ys ks'->ks=ks':=fun{xs}=>by
     induction xs with
     |nil=>
      intro ys ks ks' g g';cases ys with
      |nil=>
       cases ks with
       |nil=>cases ks' with|nil=>rfl|cons _ _=>exact g'.elim
       |cons _ _=>exact g.elim
      |cons _ _=>exact g.elim
     |cons x xs ih=>
      intro ys ks ks' g g';cases ys with
      |nil=>exact g.elim
      |cons y ys=>
       cases ks with
       |nil=>exact g.elim
       |cons k ks=>
        cases ks' with
        |nil=>exact g'.elim
        |cons k' ks'=>rw [EqD.func g.1 g'.1,ih g.2 g'.2]
    rw [go h4 h4']
open Classical in
theorem A2q (he:∀a u k,RelV a u->EqD H n a x k->e u=k):∀{xs:List V}{us:List Value}{ks:List Bool},Vals xs us->E3 (EqD H n) xs (xs.map fun _=>x) ks->us.any e=ks.any id
 | [],_,[],.nil,_=>rfl
 | [],_,_::_,.nil,h=>h.elim
 |y::xs,_,k::ks,.cons r t,h=>by
  rw [any_cons,any_cons,he _ _ _ r h.1,A2q he t h.2];rfl
 |_::_,_,[],.cons _ _,h=>h.elim
open Classical in
theorem nV (I:Inv X pins σ H s)(hu:A.units+n<cLine)(rx:RelV x v)(r:Vals xs us)(h:E3 (EqD H n) xs (xs.map fun _=>x) ks):
  ∃e:Value->Bool,(∀y∈us,SeqAt.EqAt A s y v (e y))/\us.any e=ks.any id:=by
 refine⟨fun y=>decide (∃a,RelV a y/\EqD H n a x true),fun y hy=> ?_,A2q (fun a u k ra hk=> ?_) r h⟩
 ·obtain⟨j,hj,e⟩:=getElem_of_mem hy;have hl:=r.length;have hjx:j<xs.length:=by omega
  obtain⟨u,hu',ru⟩:=r.get (getElem?_eq_getElem hjx);have eu:u=y:=by
   rw [getElem?_eq_getElem hj,e]at hu';exact(Option.some.inj hu').symm
  subst eu;obtain⟨k,hk,ek⟩:=h.get (getElem?_eq_getElem hjx) (y:=x) (by rw [getElem?_map,getElem?_eq_getElem hjx];rfl);have:decide (∃a,RelV a u/\EqD H n a x true)=k:=by
   cases k with
   |true=>exact zjV ⟨_,ru,ek⟩
   |false=>
    refine zjU ?_;rintro⟨a,ra,ea⟩;have:=A1v ra ru;subst this;cases EqD.func ek ea
  show SeqAt.EqAt A s u v (decide (∃a,RelV a u/\EqD H n a x true));rw [this];exact sZ I hu ek ru rx
 ·cases k with
  |true=>exact zjV ⟨a,ra,hk⟩
  |false=>
   refine zjU ?_;rintro⟨b,rb,eb⟩;have:=A1v rb ra;subst this;cases EqD.func hk eb
theorem mY (n:Nat)(hu:X.A.units+n+1<cLine):OpR X (compareOp .In) (wQ n id):=by
 intro pins s σ H x y v u Q I rx ry h;obtain⟨q,xs,ks,rfl,hq,h4,hQ⟩:=h;cases ry;have hu':X.A.in1.units+n<cLine:=by show X.A.units+1+n<cLine;omega
 rcases hq with hq|hq
 ·obtain⟨us,r,p,_⟩:=I.tuple (SqT.of hq);obtain⟨e,e1,e2⟩:=nV I hu' rx r h4;refine SeqAt.in_tupleAt e p (fun y hy=>e1 y (by simpa using hy)) ⟨.bl _,H,I,rfl,?_⟩;rw [show us.toArray.any e=us.any e by simp,e2];exact hQ
 ·obtain⟨us,r,p,_⟩:=I.list (SqL.of hq);obtain⟨e,e1,e2⟩:=nV I hu' rx r h4;refine SeqAt.in_listAt e p.isList (fun y hy=>e1 y (by simpa using hy)) ⟨.bl _,H,I,rfl,?_⟩;rw [show us.toArray.any e=us.any e by simp,e2];exact hQ
theorem qQ (n:Nat)(hu:X.A.units+n+1<cLine):OpR X (compareOp .NotIn) (wQ n not):=by
 intro pins s σ H x y v u Q I rx ry h;obtain⟨q,xs,ks,rfl,hq,h4,hQ⟩:=h;cases ry;have hu':X.A.in1.units+n<cLine:=by show X.A.units+1+n<cLine;omega
 rcases hq with hq|hq
 ·obtain⟨us,r,p,_⟩:=I.tuple (SqT.of hq);obtain⟨e,e1,e2⟩:=nV I hu' rx r h4;refine SeqAt.notIn_tupleAt e p (fun y hy=>e1 y (by simpa using hy)) ⟨.bl _,H,I,rfl,?_⟩;rw [show us.toArray.any e=us.any e by simp,e2];exact hQ
 ·obtain⟨us,r,p,_⟩:=I.list (SqL.of hq);obtain⟨e,e1,e2⟩:=nV I hu' rx r h4;refine SeqAt.notIn_listAt e p.isList (fun y hy=>e1 y (by simpa using hy)) ⟨.bl _,H,I,rfl,?_⟩;rw [show us.toArray.any e=us.any e by simp,e2];exact hQ
end
end L2
namespace PySem.SeqAt
open AutoSeq1 (wpAny_loadPart')
open MeetsSeq MeetsSeq2 MeetsSeq3 SeqRoads2
end PySem.SeqAt
namespace L2
open PySem PySem.Spec PyProof.Rows
section
end
end L2
namespace Grd
open PySem PyProof.Rows
def ltP (c d:Int×Int):Prop:=HT.lexLt [c.1,c.2] [d.1,d.2]=true
theorem A4s (h:j<k):ltP (r,j) (r,k):=by unfold ltP;rw [HT.lexLt_cons,if_pos rfl,HT.lexLt_cons,if_neg (by show¬j=k;omega)];exact zjV h
theorem A6d (h:r<s):ltP (r,j) (s,k):=by unfold ltP;rw [HT.lexLt_cons,if_neg (by show¬r=s;omega)];exact zjV h
theorem zI (xs:List α):xs.zipIdx.Pairwise fun a b=>a.2<b.2:=by rw [pairwise_iff_getElem];intro i j hi hj hij;simp only [List.getElem_zipIdx];omega
theorem A4m (f:Int->Bool)(r:Int)(xs:List Int):(eM f r xs).Pairwise ltP:=by
 unfold eM;rw [List.pairwise_filterMap];refine(zI xs).imp fun{a b} h c hc d hd=> ?_;cases ha:f a.1 with
 |false=>simp [ha]at hc
 |true=>
  cases hb:f b.1 with
  |false=>simp [hb]at hd
  |true=>
   simp only [ha,if_true,Option.some.injEq]at hc;simp only [hb,if_true,Option.some.injEq]at hd;subst hc hd;exact A4s (by omega)
theorem oD (f:Int->Bool)(g:bF):(bA f g).Pairwise ltP:=by
 unfold bA;rw [List.pairwise_flatten];refine⟨fun l hl=> ?_,?_⟩
 ·obtain⟨p,_,rfl⟩:=mem_map.mp hl;exact A4m _ _ _
 ·rw [pairwise_map];refine(zI g).imp fun{a b} h c hc d hd=> ?_;obtain⟨e1,_⟩:=mem_rowF.mp hc;obtain⟨e2,_⟩:=mem_rowF.mp hd;obtain⟨c1,c2⟩:=c;obtain⟨d1,d2⟩:=d;dsimp only at e1 e2;subst e1 e2;exact A6d (by omega)
def LandOf (g:bF)(cs:List (Int×Int)):Prop:=cs.Sublist (bA pos g)
end Grd
namespace L2
open PySem Grd
theorem PlAt.at:∀{ps:List Addr}{cs:List (Int×Int)}{i:Nat}{p:Addr},PlAt H ps cs->ps[i]?=some p->∃c,cs[i]?=some c/\H p=some (.tup [.int c.1,.int c.2])
 |_,_,0,_,.cons r _,h=>by cases h;exact⟨_,rfl,r⟩
 |_,_,i+1,_,.cons _ t,h=>PlAt.at (i:=i) t (by simpa using h)
theorem gS {ps:List Addr}{i:Nat}{x:V}(h:(ps.map V.ref)[i]?=some x):∃p,ps[i]?=some p/\x= .ref p:=by
 rw [getElem?_map]at h;cases e:ps[i]? with
 |none=>rw [e]at h;cases h
 |some p=>rw [e]at h;exact⟨p,rfl,(Option.some.inj h).symm⟩
theorem B1u (ps:List Addr):cC (ps.map V.ref) (some 1) none=(ps.drop 1).map V.ref:=by
 have e1:HT.sIx (ps.map V.ref).length 0 (some 1)=min 1 (ps.map V.ref).length:=HT.sIx_nat _ _ 1;have e2:HT.sIx (ps.map V.ref).length (ps.map V.ref).length none=(ps.map V.ref).length:=rfl;unfold cC;rw [e1,e2,length_map];cases ps with
 |nil=>rfl
 |cons p ps=>
  rw [show min 1 (p::ps).length=1 by rw [length_cons];omega,←map_drop,take_of_length_le (by rw [length_map,length_drop];omega)]
end L2
namespace L2
open PySem PySem.Spec PyProof.Rows Grd Wlk
section
theorem dS {x pos}(he:PE X (.Name x pos) te)(hr:PAq X es t):PAq X (.Name x pos::es) (bY te t):=by unfold PAq at*;exact aB he hr
end
abbrev PlA (H:Hp)(p:Addr)(c:Int×Int):Prop:=H p=some (.tup [.int c.1,.int c.2])
theorem PlA.put (hl:H l=some (.lst xs))(h:PlA H p c):PlA (upd H l (.lst ys)) p c:=by have h':H p=some (.tup [.int c.1,.int c.2]):=h;show upd H l (.lst ys) p=_;rw [aV (fun z=>by rw [z,hl]at h';cases h')];exact h
theorem A53 (h:t σ H fun xs H1=>xs.length<=sizeLine/\∀p,H1 p=none->D.rt (.ref p) (upd H1 p (.lst xs))):nF (mL t) D σ H:=h
theorem dI (hr:Room k A):A.units+1+1<cLine:=Nat.lt_of_le_of_lt (Nat.add_le_add_left (by decide:2<=64) _) hr.units
theorem A50 (h1:PlA H p c)(h2:PlA H q d)(n:Nat):EqD H (n+1) (.ref p) (.ref q) (decide (c=d)):=by refine .inr ⟨p,q,_,_,[decide (c.1=d.1),decide (c.2=d.2)],rfl,rfl,.inl ⟨h1,h2⟩,⟨EqD.int _ _ _,EqD.int _ _ _,trivial⟩,?_⟩;rw [Bool.eq_iff_iff];simp [Prod.ext_iff]
theorem iN (h:PlA H q d):∀{ps:List Addr}{cs:List (Int×Int)},PlAt H ps cs->E3 (EqD H 1) (ps.map V.ref) ((ps.map V.ref).map fun _=>V.ref q) (cs.map fun c=>decide (c=d))
 | [],[],.nil=>trivial
 |_::_,_::_,.cons r t=> ⟨A50 r h 0,iN h t⟩
theorem vV [DecidableEq α](l:List α)(x:α):(l.map fun c=>decide (c=x)).any id=decide (x∈l):=by rw [Bool.eq_iff_iff,any_map];simp
end L2
namespace Wlk
open PySem PyProof.Rows Srt
abbrev f2 (s:vR):List Int:=fl [s.1,s.2]
end Wlk
namespace Wlk
open PySem PyProof.Rows Srt Cyc Grd
def rc (s:vR):Pl:=if s.2.2=s.1.2+1 then s.1 else if s.2.1=s.1.1+1 then(s.1.1,s.1.2 - 1)else if s.2.2=s.1.2 - 1 then(s.1.1 - 1,s.1.2 - 1)else(s.1.1 - 1,s.1.2)
theorem A9k (x:List Int):HT.lexLt x x=false:=kD x
theorem A1s {cs:List Pl}(h:cs.Pairwise ltP):cs.Nodup:=by rw [List.nodup_iff_pairwise_ne];refine h.imp fun{a b} hab e=> ?_;subst e;unfold ltP at hab;rw [A9k]at hab;cases hab
section
end
section
end
def eC (land:List Pl)(x y:Int)(c:Pl):Nat:=(if c.1=x/\c.2+1<=y/\(c.1,c.2+1)∉land then 1 else 0)+(if c.1=x/\c.2<=y/\(c.1,c.2 - 1)∉land then 1 else 0)
def turn (s:vR):Int:=s.1.1*s.2.2 - s.2.1*s.1.2
def beside (c:Pl):List Pl:=[(c.1 - 1,c.2),(c.1,c.2 - 1),(c.1,c.2+1),(c.1+1,c.2)]
theorem kZ (h:d∈beside c):c∈beside d:=by
 obtain⟨a,b⟩:=c;unfold beside at h⊢;simp only [mem_cons,not_mem_nil,or_false]at h⊢;rcases h with rfl|rfl|rfl|rfl
 ·right;right;right;simp
 ·right;right;left;simp
 ·right;left;simp
 ·left;simp
def iH (land P:List Pl):Prop:=∀x∈P,∀y∈beside x,y∈land->y∈P
structure pV (land:List Pl)(s:Pl)(P:List Pl):Prop where
 sub:∀x∈P,x∈land
 st:s∈P
 cl:iH land P
 min:∀C,iH land C->(∃x∈P,x∈C)->s∈C
 up:P.Pairwise ltP
def nb (land R:List Pl)(x:Pl):List Pl:=(beside x).filter fun y=>decide (y∈land)&& !decide (y∈R)
structure Rch (land:List Pl)(s:Pl)(R:List Pl)(k:Nat):Prop where
 sub:∀x∈R,x∈land
 nd:R.Nodup
 st:s∈R
 done:∀i x,i<k->R[i]?=some x->∀y∈beside x,y∈land->y∈R
 min:∀C,iH land C->∀x∈R,x∈C->s∈C
 le:k<=R.length
theorem A7v (x:Pl):(beside x).Nodup:=by obtain⟨a,b⟩:=x;unfold beside;simp only [nodup_cons,mem_cons,not_mem_nil,or_false,Prod.mk.injEq,not_or,not_false_eq_true,nodup_nil,and_true];omega
theorem mem_nb {land R:List Pl}{x y:Pl}:y∈nb land R x↔y∈beside x/\y∈land/\y∉R:=by unfold nb;rw [mem_filter];simp
theorem Rch.start (h:s∈land):Rch land s [s] 0:=
 ⟨fun x hx=>by rw [mem_singleton.mp hx];exact h,by simp,zjR,fun i _ hi=>absurd hi (Nat.not_lt_zero i),fun C _ x hx hC=>by rw [mem_singleton.mp hx]at hC;exact hC,zero_le _⟩
theorem Rch.step {land R:List Pl}{s x:Pl}{k:Nat}(h:Rch land s R k)(hx:R[k]?=some x):Rch land s (R++nb land R x) (k+1):=by
 have hk:k<R.length:=(zjW.mp hx).1;refine⟨fun y hy=> ?_,?_,mem_append_left _ h.st,fun i y hi hy z hz hzl=> ?_,fun C hC y hy hyC=> ?_,by rw [length_append];omega⟩
 ·rcases mem_append.mp hy with e|e
  ·exact h.sub y e
  ·exact(mem_nb.mp e).2.1
 ·rw [nodup_append];refine⟨h.nd,(A7v x).sublist List.filter_sublist,fun a ha b hb e=> ?_⟩;subst e;exact(mem_nb.mp hb).2.2 ha
 ·rw [List.getElem?_append_left (by omega)]at hy;by_cases e:z∈R
  ·exact mem_append_left _ e
  ·rcases Nat.lt_or_ge i k with u|u
   ·exact absurd (h.done i y u hy z hz hzl) e
   ·have:i=k:=by omega
    rw [this,hx]at hy;cases hy;exact mem_append_right _ (mem_nb.mpr ⟨hz,hzl,e⟩)
 ·rcases mem_append.mp hy with e|e
  ·exact h.min C hC y e hyC
  ·have hxR:=mem_of_getElem? hx;exact h.min C hC x hxR (hC y hyC x (kZ (mem_nb.mp e).1) (h.sub x hxR))
theorem Rch.len {land R:List Pl}{s:Pl}{k:Nat}(h:Rch land s R k):R.length<=land.length:=lV h.nd h.sub
theorem Rch.fin {land R P:List Pl}{s:Pl}{k:Nat}(h:Rch land s R k)(hk:R.length<=k)(hp:P.Perm R)(hs:P.Pairwise fun a b=>HT.lexLt [b.1,b.2] [a.1,a.2]=false):pV land s P:=by
 refine⟨fun x hx=>h.sub x (hp.mem_iff.mp hx),hp.mem_iff.mpr h.st,fun x hx y hy hl=> ?_,fun C hC ⟨x,hx,hxC⟩=>h.min C hC x (hp.mem_iff.mp hx) hxC,?_⟩
 ·obtain⟨i,hi,e⟩:=List.mem_iff_getElem.mp (hp.mem_iff.mp hx);exact hp.mem_iff.mpr (h.done i x (by omega) (zjW.mpr ⟨hi,e⟩) y hy hl)
 ·have hnd:P.Nodup:=hp.nodup_iff.mpr h.nd;refine(hs.and (List.nodup_iff_pairwise_ne.mp hnd)).imp fun{a b} z=> ?_;unfold ltP;cases e:HT.lexLt [a.1,a.2] [b.1,b.2]with
  |true=>rfl
  |false=>
   have:=lU e z.1;refine absurd ?_ z.2;obtain⟨a1,a2⟩:=a;obtain⟨b1,b2⟩:=b;simp only [List.cons.injEq,and_true]at this;rw [this.1,this.2]
end Wlk
namespace M10
open PySem L2 PyProof.Rows Grd Wlk Cyc Srt
def vE:Sp:=fun vs H Q _=> ∃p c,vs=[.ref p]/\PlA H p c/\∀l qs H',H l=none->Same H H'->H' l=some (.lst ((qs:List Addr).map V.ref))->PlAt H' qs (beside c)->Q (.ref l) H'
section
variable {P:Program}{w:World}{K:W.Frag}{mg:Str->Option Value}{base:Heap}
abbrev nBs:List Str:=["place","row","column"]
theorem B2h (F:D1 K mg "places_beside" A1x ["place"]):A1 P w K mg base 1 "places_beside" vE:=by
 refine F.k nBs ?_;ac_nf
 ·obtain⟨p,c,rfl,hp,q⟩:=h;refine⟨_,B2c (dP (pv 0) (bU rfl (aW (nm1 1 nd) (aW (nm1 2 nd) bT))))<|
   B39 (lstq (cR (tupq (eT (bB gU (pv 1) aM) (dS (pv 2) bH))) (cR (tupq (dS (pv 1) (eT (bB gU (pv 2) aM) bH))) (cR (tupq (dS (pv 1) (eT (bB dU (pv 2) aM) bH))) (cR (tupq (eT (bB dU (pv 1) aM) (dS (pv 2) bH))) bH))))),?_⟩
  refine⟨_,rfl,p,_,rfl,SqT.of hp,rfl,_,_,rfl,_,_,rfl,rfl,?_⟩;dsimp only
  refine A53 ?_;refine⟨_,rfl,_,_,rfl,rfl,_,rfl,by show 2<=sizeLine;decide,fun p1 h1=> ?_⟩;have s1:=aG (o:=.tup [.int (c.1 - 1),.int c.2]) h1;refine⟨_,rfl,_,rfl,_,_,rfl,rfl,by show 2<=sizeLine;decide,fun p2 h2=> ?_⟩;have s2:=aG (o:=.tup [.int c.1,.int (c.2 - 1)]) h2;refine⟨_,rfl,_,rfl,_,_,rfl,rfl,by show 2<=sizeLine;decide,fun p3 h3=> ?_⟩;have s3:=aG (o:=.tup [.int c.1,.int (c.2+1)]) h3;refine⟨_,rfl,_,_,rfl,rfl,_,rfl,by show 2<=sizeLine;decide,fun p4 h4=> ?_⟩;have s4:=aG (o:=.tup [.int (c.1+1),.int c.2]) h4;refine⟨by show 4<=sizeLine;decide,fun l hl=> ?_⟩;have s5:=aG (o:=.lst [.ref p1,.ref p2,.ref p3,.ref p4]) hl;have s14:=((s1.trans s2).trans s3).trans s4;exact q l [p1,p2,p3,p4] _ (s14.free hl) (s14.trans s5) aD (.cons (s5 _ _ (s4 _ _ (s3 _ _ (s2 _ _ aD)))) (.cons (s5 _ _ (s4 _ _ (s3 _ _ aD))) (.cons (s5 _ _ (s4 _ _ aD)) (.cons (s5 _ _ aD) .nil))))
end
theorem A5m (h:PlAt H ps cs)(h':PlAt H qs ds):PlAt H (ps++qs) (cs++ds):=by
 induction h with
 |nil=>exact h'
 |cons r t ih=>exact .cons r ih
theorem LandOf.len (G:dO g w)(h:LandOf g cs):cs.length<=10:=by have:=List.Sublist.length_le h;rw [fE]at this;have:=G.c10;omega
def unP (l:List Int):Pl:=(l.getD 0 0,l.getD 1 0)
theorem A1b {X:Cx}{H:Hp}{l:Addr}{qs:List Addr}{R:List Pl}{Q:VK}(hl:H l=some (.lst (qs.map V.ref)))(hP:PlAt H qs R)(h40:R.length<=40)(q:∀l9 qs' R' H',H l9=none->Same H H'->H' l9=some (.lst ((qs':List Addr).map V.ref))->PlAt H' qs' R'->R'.Perm R->R'.Pairwise (fun a b=>HT.lexLt [b.1,b.2] [a.1,a.2]=false)->Q (.ref l9) H'):
  ∃(p:Addr)(zs:List (Addr×List Int)),[V.ref l]=[.ref p]/\SqL X.K H p (zs.map fun z=>V.ref z.1)/\(∀z∈zs,H z.1=some (.tup (z.2.map V.int))/\z.2≠[])/\zs.length<64/\∀l zs',H l=none->oY zs zs'->Q (.ref l) (upd H l (.lst (zs'.map fun z=>V.ref z.1))):=by
 have hzz:∀{qs:List Addr}{R:List Pl},PlAt H qs R->∃zs:List (Addr×List Int),(zs.map fun z=>z.1)=qs/\(zs.map fun z=>z.2)=R.map (fun s=> [s.1,s.2])/\∀z∈zs,H z.1=some (.tup (z.2.map V.int))/\z.2≠[]:=fun{qs R} h=>by
  induction h with
  |nil=>exact⟨[],rfl,rfl,fun z hz=>by cases hz⟩
  |cons r t ih=>
   rename_i q s _ _;obtain⟨zs,i1,i2,i3⟩:=ih;refine⟨(q,[s.1,s.2])::zs,by rw [map_cons,i1],by rw [map_cons,i2];rfl,fun z hz=> ?_⟩;rcases mem_cons.mp hz with e|e
   ·rw [e];exact⟨r,by simp⟩
   ·exact i3 z e
 obtain⟨zs,i1,i2,i3⟩:=hzz hP;have un:∀z∈zs,∃s:Pl,z.2=[s.1,s.2]/\unP z.2=s:=fun z hz=>by
  have e2:z.2∈zs.map fun z=>z.2:=mem_map.mpr ⟨z,hz,rfl⟩;rw [i2]at e2;obtain⟨s,_,es⟩:=mem_map.mp e2;exact⟨s,es.symm,by rw [←es];rfl⟩
 have hzl:zs.length<=40:=by
  have h1:=congrArg List.length i2;rw [length_map,length_map]at h1;omega
 refine⟨l,zs,rfl,SqL.of (by rw [hl,←i1,map_map];rfl),i3,by omega,fun l9 zs' hl9 so=> ?_⟩;have s9:=aG (o:=.lst (zs'.map fun z=>V.ref z.1)) hl9;refine q l9 (zs'.map fun z=>z.1) (zs'.map fun z=>unP z.2) _ hl9 s9 (by rw [aD,map_map];rfl) ?_ ?_ ?_
 ·have key:∀ys:List (Addr×List Int),(∀z∈ys,z∈zs)->PlAt (upd H l9 (.lst (zs'.map fun z=>V.ref z.1))) (ys.map fun z=>z.1) (ys.map fun z=>unP z.2):=fun ys=>by
   induction ys with
   |nil=>intro _;exact .nil
   |cons z ys ih=>
    intro hm;refine .cons ?_ (ih fun y hy=>hm y (zjS _ hy));have hz:=hm z zjR;obtain⟨s,e1,e2⟩:=un z hz;show PlA _ z.1 (unP z.2);rw [e2];have:=(i3 z hz).1;rw [e1]at this;exact s9 _ _ this
  exact key zs' fun z hz=>so.1.mem_iff.mp hz
 ·have h1:=(so.1.map fun z=>z.2).map unP;rw [i2,map_map,map_map]at h1;refine h1.trans (List.Perm.of_eq ?_);have:(unP∘fun s:Pl=> [s.1,s.2])=id:=rfl;rw [this,List.map_id]
 ·rw [pairwise_map];refine so.2.imp_of_mem fun{a b} ha hb hab=> ?_;obtain⟨s,e1,e2⟩:=un a (so.1.mem_iff.mp ha);obtain⟨s',e1',e2'⟩:=un b (so.1.mem_iff.mp hb);rw [e1,e1']at hab;rw [e2,e2'];exact hab
def A0q:Sp:=fun vs H Q _=> ∃t p cs c,vs=[.ref t,.ref p]/\SqA H t cs/\cs.length<=10/\PlA H p c/\c∈cs/\∀t' P H',Same H H'->SqA H' t' P->pV cs c P->Q (.ref t') H'
section
variable {P:Program}{w:World}{K:W.Frag}{mg:Str->Option Value}{base:Heap}
abbrev nPr:List Str:=["land","start","reached","at","beside"]
theorem B35:(["place","land","reached"]:List Str).Nodup:=by decide +kernel
theorem A9c (F:D1 K mg "piece_round" oN ["land","start"])(T:Txt mg)(T2:dC mg)(a1:A1 P w K mg base 1 "places_beside" vE):A1 P w K mg base 2 "piece_round" A0q:=by
  refine F.k nPr ?_;ac_nf
  · obtain⟨t,pa,cs,c,rfl,hT,h10,hp,hc,q⟩:=h
    refine⟨_,aU (bK (i:=2) nd rfl (Or.inr rfl) (dR (aB (pv 1) aA)))<|
      aU (bK (i:=3) nd rfl (Or.inl rfl) aM)<|
      aU (A0b PassesOwn.never (cB jM (pv 3) (bE dM rfl T.len PySem.boot_len (aB (pv 2) aA)) (nomark _))
        (aU (bK (i:=4) nd rfl (Or.inl rfl) (a1.c hr (dZ (bJ fV (pv 2) (pv 3) (fun _ _=>rfl)) aA)))<|
         aU (eF (mN PySem.F.plainAttrs_list PySem.F.slot_list_extend PySem.F.type_list_extend uI (pv 2) (cJ (bM (bD oN).names nPr ["place"] [("land",0),("reached",2)] rfl (cT (pv 4)) rfl rfl rfl (by decide +kernel)
            (fun Z=>nm1 0 B35) (fun Z=>eE (PW.pt (uD (cB (mY 1 (dI hr)) (pv 0) (pv 1) rfl) (rO (cB (qQ 1 (dI hr)) (pv 0) (pv 2) rfl))))) (fun Z=>pv 0)) aA)))<|
         aR (A9i (i:=3) nd rfl (Or.inl rfl) aM A6p)))<|
      aR (aY (eP kE rfl T.tuple boot_tuple (bV (bE tM rfl T2.sorted boot_sorted (aB (pv 2) aA)) aA))),?_⟩
    obtain⟨ts,ht,hP⟩:=hT;refine⟨_,rfl,by show 1<=sizeLine;decide,fun lr hlr=> ?_⟩;have s0:=aG (o:=.lst [.ref pa]) hlr;refine⟨fun m σ H'=> ∃k o qs R,m+k=10/\σ=[some (.ref t),some (.ref pa),some (.ref lr),some (.int (k:Nat)),o]/\Same H H'/\H' lr=some (.lst ((qs:List Addr).map V.ref))/\PlAt H' qs R/\Rch cs c R k,
      ⟨10,0,_,[pa],[c],rfl,rfl,s0,aD,.cons (s0 _ _ hp) .nil,Rch.start hc⟩,?_⟩
    rintro m σ H' ⟨k,o,qs,R,hm,rfl,hs,hlr',hR,rc⟩;have hqR:qs.length=R.length:=Paired.length hR;have hRl:=rc.len;refine⟨_,rfl,_,rfl,lr,_,rfl,.inl (SqL.of hlr'),_,_,rfl,rfl,_,rfl,fI (fun z=> ?_) fun z=> ?_⟩
    · rw [length_map,hqR]at z
      have hk:k<R.length:=by omega
      have hkq:k<qs.length:=by omega
      have hqk:qs[k]?=some (qs[k]):=getElem?_eq_getElem hkq;obtain⟨x,hx,he⟩:=hR.at hqk;refine⟨fun σ' H2=> ∃o qs',σ'=[some (.ref t),some (.ref pa),some (.ref lr),some (.int ((k+1:Nat):Int)),o]/\Same H H2/\H2 lr=some (.lst ((qs':List Addr).map V.ref))/\PlAt H2 qs' (R++nb cs R x),
        fun σ' H2 ⟨o,qs',h1,h2,h3,h4⟩=> ⟨m - 1,by omega,k+1,o,qs',_,by omega,h1,h2,h3,h4,rc.step hx⟩,?_⟩
      refine⟨_,rfl,_,rfl,lr,_,_,_,rfl,rfl,SqL.of hlr',cK (v:=V.ref qs[k]) (by rw [getElem?_map,hqk];rfl),?_⟩;refine⟨qs[k],x,rfl,he,fun lb bs H2 hlb s2 hlb2 hB=> ?_⟩;have hR2:=hR.same s2;have hlr2:=s2 _ _ hlr';have hP2:=(hP.same hs).same s2;have ht2:=s2 _ _ (hs _ _ ht);have hb4:bs.length=4:=Paired.length hB;refine⟨_,rfl,.inl ⟨rfl,_,SqL.of hlr2⟩,?_⟩;refine⟨_,rfl,lb,rfl,⟨_,SqL.of hlb2⟩,fun Z ln hln=> ?_⟩;refine fX (K:=K) (a:=lb) (xs:=bs.map V.ref) (fun j σ H3=>(∃o,σ=[o,some (.ref t),some (.ref lr)])/\Same H2 H3/\∃ns,H3 ln=some (.lst ((ns:List Addr).map V.ref))/\PlAt H3 ns (((beside x).take j).filter fun y=>decide (y∈cs)&& !decide (y∈R)))
        ⟨⟨_,rfl⟩,aG hln,[],by rw [aD];rfl,.nil⟩ (fun j σ H3 _ h=>SqL.of (h.2.1 _ _ hlb2)) ?_ ?_
      · rintro j y σ H3 hy ⟨⟨o',rfl⟩,hs3,ns,hn,hN⟩
        obtain⟨b,hbj,rfl⟩:=gS hy;obtain⟨d,hd,hbd⟩:=hB.at hbj;have hj:j<4:=(zjW.mp hd).1;have hbd3:=hs3 _ _ hbd;have hnl:ns.length<=4:=by
          have h1:ns.length=_:=Paired.length hN;have h2:=length_filter_le (fun y=>decide (y∈cs)&& !decide (y∈R)) ((beside x).take j);rw [length_take]at h2;omega
        have et:((beside x).take (j+1)).filter (fun y=>decide (y∈cs)&& !decide (y∈R))=((beside x).take j).filter (fun y=>decide (y∈cs)&& !decide (y∈R))++(if (decide (d∈cs)&& !decide (d∈R))=true then [d]else []):=by
          rw [take_succ,hd,filter_append]
          congr 1
          cases e:(decide (d∈cs)&& !decide (d∈R))
          · simp [e]
          · simp [e]
        rw [et];show cI _ _ _ [some (.ref b),some (.ref t),some (.ref lr)] H3;refine⟨_,rfl,_,rfl,t,_,_,rfl,.inl (hs3 _ _ ht2),iN hbd3 (hP2.same hs3),_,rfl,?_⟩;rw [vV];refine cF (fun z1'=> ?_) fun z1'=> ?_
        · have z1:d∈cs:=by simpa using z1'
          refine⟨_,rfl,_,rfl,lr,_,_,rfl,.inr (hs3 _ _ hlr2),iN hbd3 (hR2.same hs3),_,rfl,?_⟩;rw [vV];refine cF (fun z2'=> ?_) fun z2'=> ?_
          · have z2:d∉R:=by simpa using z2'
            rw [if_pos (by rw [zjV z1,zjU z2];rfl)];refine⟨_,rfl,_,hn,cM (by rw [length_map];omega),⟨_,rfl⟩,fun b' u e'=> ?_,ns++[b],?_,?_⟩
            · rw [aV (bL e' hln)];exact hs3 _ _ e'
            · rw [aD,map_append];rfl
            · exact PlAt.snoc (Paired.mapP hN fun _ _ z=>PlA.put hn z) (PlA.put hn hbd3)
          · have z2:d∈R:=by simpa using z2'
            rw [if_neg (by rw [zjV z2];simp),append_nil];exact⟨⟨_,rfl⟩,hs3,ns,hn,hN⟩
        · have z1:d∉cs:=by simpa using z1'
          rw [if_neg (by rw [zjU z1];simp),append_nil];exact⟨⟨_,rfl⟩,hs3,ns,hn,hN⟩
      · rintro σ H3 ⟨⟨o',rfl⟩,hs3,ns,hn,hN⟩
        rw [length_map,hb4]at hN;have hN':PlAt H3 ns (nb cs R x):=hN;have hnl:ns.length<=4:=by
          have h1:ns.length=(nb cs R x).length:=Paired.length hN';have h2:(nb cs R x).length<=(beside x).length:=length_filter_le _ _;have h3:(beside x).length=4:=rfl;omega
        have hlr3:=hs3 _ _ hlr2;refine⟨lr,ln,_,_,rfl,rfl,hlr3,hn,by rw [length_map,length_map,sizeLine_eq];omega,?_⟩;refine⟨_,rfl,_,_,rfl,rfl,⟨_,qs++ns,rfl,fun b' u e'=> ?_,by rw [aD,map_append],?_⟩⟩
        · rw [aV (bL e' hlr)];exact hs3 _ _ (s2 _ _ (hs _ _ e'))
        · exact A5m (Paired.mapP (hR2.same hs3) fun _ _ z=>PlA.put hlr3 z) (Paired.mapP hN' fun _ _ z=>PlA.put hlr3 z)
    · rw [length_map,hqR]at z
      refine⟨_,rfl,?_⟩;refine A1b (X:=(eX CX0 P w K mg base nPr (Str.ofString "piece_round") (bD oN) f cdv A outer s H E).nox) (Q:=fun v H1=> ∃p ys,[v]=[V.ref p]/\((SqL K H1 p ys/\∀l,H1 l=none->Q (.ref l) (upd H1 l (.tup ys)))\/(SqT K H1 p ys/\Q (.ref p) H1))) hlr' hR (by omega) fun l9 qs' R' H9 h9 s9 hl9 hR9 pm up=> ?_;refine⟨l9,_,rfl,.inl ⟨SqL.of hl9,fun t' ht'=> ?_⟩⟩;have s10:=aG (o:=.tup (qs'.map V.ref)) ht';exact q t' R' _ ((hs.trans s9).trans s10) ⟨qs',aD,hR9.same s10⟩ (rc.fin (by omega) pm up)
end
end M10
namespace M10
open PySem L2 PyProof.Rows Grd Wlk Srt
def upP (cs:List Pl):Bool:=decide (cs.Pairwise fun c d=>HT.lexLt [c.1,c.2] [d.1,d.2]=true)
def fH (H:Hp)(xs:List V):List Pl:=xs.filterMap (dY H)
def landV (H:Hp)(g:bF)(v:V):Bool:=match tupOf H v with
 |some xs=>xs.all (isCell H g)&&upP (fH H xs)
 |none=>false
theorem B2i (h:dY H v=some c):∃p,v= .ref p/\PlA H p c:=by
 unfold dY at h
 split at h
 ·rename_i r2 c2 hz;injection h with h
  subst h;obtain⟨p,rfl,hp⟩:=eZ hz;exact⟨p,rfl,hp⟩
 ·cases h
theorem A47 (h:PlA H p c):dY H (.ref p)=some c:=by unfold dY;rw [iF h]
theorem qD:∀{xs:List V},xs.all (isCell H g)=true->∃ps:List Addr,xs=ps.map V.ref/\PlAt H ps (fH H xs)/\∀c∈fH H xs,c∈bA pos g
 | [],_=> ⟨[],rfl,.nil,fun c hc=>by cases hc⟩
 |x::xs,h=>by
  rw [all_cons,Bool.and_eq_true]at h;obtain⟨ps,e,hP,hc⟩:=qD h.2;have h1:=h.1;unfold isCell at h1;cases z:dY H x with
  |none=>rw [z]at h1;cases h1
  |some c=>
   rw [z]at h1;obtain⟨p,rfl,hp⟩:=B2i z;have e2:fH H (.ref p::xs)=c::fH H xs:=by unfold fH;rw [filterMap_cons,z]
   rw [e2];refine⟨p::ps,by rw [e];rfl,.cons hp hP,fun d hd=> ?_⟩;rcases mem_cons.mp hd with rfl|hd
   ·exact of_decide_eq_true h1
   ·exact hc d hd
theorem B2x (hm:∀c∈cs,c∈bA pos g)(hu:cs.Pairwise ltP):LandOf g cs:=by
 have key:∀(L cs:List Pl),L.Pairwise ltP->cs.Pairwise ltP->(∀c∈cs,c∈L)->cs.Sublist L:=by
  intro L
  induction L with
  |nil=>intro cs _ _ h;cases cs with|nil=>exact .slnil|cons c _=>exact absurd (h c zjR) (by simp)
  |cons d L ih=>
   intro cs hL hc h;rw [pairwise_cons]at hL;cases cs with
   |nil=>exact List.nil_sublist _
   |cons c cs=>
    rw [pairwise_cons]at hc;have irr:∀a:Pl,¬ltP a a:=fun a z=>by unfold ltP at z;rw [kD]at z;cases z
    have tr:∀a b e:Pl,ltP a b->ltP b e->ltP a e:=fun a b e h1 h2=>jW h1 h2;by_cases e:c=d
    ·subst e;refine .cons₂ _ (ih cs hL.2 hc.2 fun x hx=> ?_);rcases mem_cons.mp (h x (zjS _ hx))with z|z
     ·subst z;exact absurd (hc.1 x hx) (irr x)
     ·exact z
    ·refine .cons _ (ih (c::cs) hL.2 (pairwise_cons.mpr hc) fun x hx=> ?_);have hcL:c∈L:=by
      rcases mem_cons.mp (h c zjR)with z|z
      ·exact absurd z e
      ·exact z
     rcases mem_cons.mp (h x hx)with z|z
     ·subst z;rcases mem_cons.mp hx with y|y
      ·exact absurd y.symm e
      ·exact absurd (tr _ _ _ (hL.1 c hcL) (hc.1 x y)) (irr x)
     ·exact z
 exact key _ _ (oD pos g) hu hm
theorem A9l (h:landV H g v=true):∃t cs,v= .ref t/\SqA H t cs/\LandOf g cs:=by
 unfold landV at h;cases z:tupOf H v with
 |none=>rw [z]at h;cases h
 |some xs=>
  rw [z]at h;rw [Bool.and_eq_true]at h;obtain⟨t,rfl,ht⟩:=eZ z;obtain⟨ps,e,hP,hc⟩:=qD h.1;rw [e]at ht;have hu:(fH H xs).Pairwise fun c d=>HT.lexLt [c.1,c.2] [d.1,d.2]=true:=by have h2:=h.2;unfold upP at h2;exact of_decide_eq_true h2
  exact⟨t,_,rfl,⟨ps,ht,hP⟩,B2x hc hu⟩
theorem Same.isCell (s:Same H H')(k:Kn H 1 v):M10.isCell H' g v=M10.isCell H g v:=by unfold M10.isCell dY;rw [s.tupOf k]
theorem Same.landV (s:Same H H')(k:Kn H 2 v):M10.landV H' g v=M10.landV H g v:=by
 unfold M10.landV;rw [s.tupOf (k.le (by omega))];cases e:L2.tupOf H v with
 |none=>rfl
 |some xs=>
  obtain⟨a,rfl,ha⟩:=eZ e;obtain⟨_,hx⟩:=k.items ha;have h1:xs.all (M10.isCell H' g)=xs.all (M10.isCell H g):=by
   rw [Bool.eq_iff_iff,all_eq_true,all_eq_true];exact⟨fun h x hm=>by rw [←Same.isCell s (hx x hm)];exact h x hm,fun h x hm=>by rw [Same.isCell s (hx x hm)];exact h x hm⟩
  have h2:fH H' xs=fH H xs:=by
   unfold fH;have:∀l:List V,(∀x∈l,x∈xs)->l.filterMap (dY H')=l.filterMap (dY H):=fun l=>by
    induction l with
    |nil=>intro _;rfl
    |cons x l ih=>
     intro hl;have e2:dY H' x=dY H x:=by unfold dY;rw [s.tupOf (hx x (hl x zjR))]
     rw [filterMap_cons,filterMap_cons,e2,ih fun y hy=>hl y (zjS _ hy)]
   exact this xs fun _ h=>h
  dsimp only
  rw [h1,h2]
theorem B0s (cs:List Pl):((cs.zip (cs.drop 1)).map fun p=>HT.lexLt [p.1.1,p.1.2] [p.2.1,p.2.2]).all id=upP cs:=by
 induction cs with
 |nil=>rfl
 |cons a cs ih=>
  cases cs with
  |nil=>simp [upP]
  |cons b cs=>
   have e:((a::b::cs).zip ((a::b::cs).drop 1)).map (fun p:Pl×Pl=>HT.lexLt [p.1.1,p.1.2] [p.2.1,p.2.2])=HT.lexLt [a.1,a.2] [b.1,b.2]::((b::cs).zip ((b::cs).drop 1)).map fun p:Pl×Pl=>HT.lexLt [p.1.1,p.1.2] [p.2.1,p.2.2]:=rfl;rw [e,all_cons,ih];unfold upP;rw [Bool.eq_iff_iff,Bool.and_eq_true,decide_eq_true_eq,decide_eq_true_eq];show ltP a b/\_↔_;rw [pairwise_cons (a:=a)];constructor
   ·rintro⟨h1,h2⟩;refine⟨fun x hx=> ?_,h2⟩;rcases mem_cons.mp hx with rfl|hx
    ·exact h1
    ·exact jW h1 ((pairwise_cons.mp h2).1 x hx)
   ·rintro⟨h1,h2⟩;exact⟨h1 b zjR,h2⟩
def A2y:Sp:=fun vs H Q _=> ∃a cs,vs=[.ref a]/\SqA H a cs/\cs.length<=1000/\∀H',Same H H'->Q (.bl (upP cs)) H'
def yZ:Sp:=fun vs H Q _=> ∃a g w v,vs=[.ref a,v]/\GridAt H a g/\dO g w/\Kn H 3 v/\∀H',Same H H'->Q (.bl (landV H g v)) H'
section
variable {P:Program}{w:World}{K:W.Frag}{mg:Str->Option Value}{base:Heap}
theorem lK:(["one","other"]:List Str).Nodup:=by decide +kernel
theorem A96 (F:D1 K mg "is_rising" kG ["things"])(T:Txt mg)(T2:dC mg):A1 P w K mg base 1 "is_rising" A2y:=by
 refine F.k ["things"] ?_;ac_nf
 ·obtain⟨a,cs,rfl,⟨ps,ha,hP⟩,hz,q⟩:=h;have hlen:ps.length=cs.length:=Paired.length hP;refine⟨_,aR (aY (bE (fU rfl) rfl T.all boot_all (cJ (bM (bD kG).names ["things"] ["one","other"] [] rfl (lX rQ rfl T2.zip (aB (pv 0) (dZ (eQ gF (pv 0) (eJ aM) fD) aA))) rfl rfl rfl (by decide +kernel)
   (fun Z=>bU rfl (aW (nm1 0 lK) (aW (nm1 1 lK) bT))) (fun Z=>cA) (fun Z=>cW (A16 (lt_of_succ_lt (pE hr))) (pv 0) (pv 1) (nomark _))) aA))),?_⟩
  refine⟨_,rfl,_,rfl,_,rfl,a,_,rfl,ha,fun t H1 s1 ht=> ?_⟩;rw [B1u]at ht;refine⟨a,t,ps.map V.ref,(ps.drop 1).map V.ref,rfl,SqT.of (s1 _ _ ha),SqT.of ht,fun Z r hr'=> ?_⟩;refine oC (xs:=ps.map V.ref) (ys:=(ps.drop 1).map V.ref) (by rw [length_map,length_map,length_drop];omega) (fun i σ H'=>σ.length=2/\Same H1 H'/\H' r=some (.lst ((((cs.zip (cs.drop 1)).map fun p=>HT.lexLt [p.1.1,p.1.2] [p.2.1,p.2.2]).take i).map V.bl))) ⟨rfl,aG hr',by rw [aD];rfl⟩
   (fun i σ H' h=> ⟨SqT.of (h.2.1 _ _ (s1 _ _ ha)),SqT.of (h.2.1 _ _ ht)⟩) ?_ ?_
  ·rintro i x y p3 σ H' hx hy ⟨hσ,hs,hl'⟩ hp3
   match σ,hσ with
   | [x0,x1],_=>
   obtain⟨b,hb,rfl⟩:=gS hx;obtain⟨b2,hb2,rfl⟩:=gS hy;have hb2':ps[i+1]?=some b2:=by rw [getElem?_drop]at hb2;rw [show i+1=1+i by omega];exact hb2
   obtain⟨c,hc,he⟩:=hP.at hb;obtain⟨c2,hc2,he2⟩:=hP.at hb2';have s3:=aG (o:=.tup [.ref b,.ref b2]) hp3;refine⟨p3,_,rfl,SqT.of aD,rfl,_,_,rfl,_,_,rfl,rfl,?_⟩;refine gZ ?_;refine⟨_,rfl,_,rfl,b,b2,[c.1,c.2],[c2.1,c2.2],rfl,rfl,SqT.of (s3 _ _ (hs _ _ (s1 _ _ he))),SqT.of (s3 _ _ (hs _ _ (s1 _ _ he2))),?_⟩;have hz1:(cs.zip (cs.drop 1))[i]?=some (c,c2):=by
    rw [List.getElem?_zip_eq_some];refine⟨hc,?_⟩;rw [getElem?_drop,show 1+i=i+1 by omega];exact hc2
   have hi:i<cs.length:=(zjW.mp hc).1;refine⟨_,s3 _ _ hl',cM (by rw [length_map,length_take];omega),rfl,fun b' u e'=> ?_,?_⟩
   ·rw [aV (bL e' hr')];exact s3 _ _ (hs _ _ e')
   ·rw [aD,take_succ,getElem?_map,hz1,map_append];rfl
  ·rintro σ H' ⟨_,hs,hl'⟩;have hle:((cs.zip (cs.drop 1)).map fun p=>HT.lexLt [p.1.1,p.1.2] [p.2.1,p.2.2]).length<=((ps.drop 1).map V.ref).length:=by
    rw [length_map,length_zip,length_drop,length_map,length_drop];omega
   rw [take_of_length_le hle]at hl';refine⟨r,_,rfl,SqL.of hl',?_⟩;rw [B0s];exact q H' (s1.trans hs)
theorem B3a:(["place","mead"]:List Str).Nodup:=by decide +kernel
theorem A8d (F:D1 K mg "is_land" rH ["mead","thing"])(T:Txt mg)(a1:A1 P w K mg base 5 "check_mead" nS)(a2:A1 P w K mg base 3 "is_cell" zJ)(a3:A1 P w K mg base 1 "is_rising" A2y):A1 P w K mg base 6 "is_land" yZ:=by
 refine F.k ["mead","thing"] ?_;ac_nf
 ·obtain⟨a,g,w',v,rfl,hA,G,k,q⟩:=h;refine⟨_,aU (eF (a1.c hr (aB (pv 0) aA)))<|
   aU (bR (PW.pt (fS (cE (bN (bE fZ rfl T.isinstance boot_isinstance (aB (pv 1) (aB (eO (v:=.ty "tuple") rfl T.tuple boot_tuple rfl) aA))))) (iA (cE (bN (bE (fU rfl) rfl T.all boot_all (cJ (bM (bD rH).names ["mead","thing"] ["place"] [("mead",0)] rfl (cP (pv 1)) rfl rfl rfl (by decide +kernel)
    (fun Z=>nm1 0 B3a) (fun Z=>cA) (fun Z=>a2.c hr (aB (pv 1) (aB (pv 0) aA)))) aA))))))) (aR (aY cZ)) bQ)<|
   aR (aY (a3.c hr (aB (pv 1) aA))),?_⟩
  refine⟨_,rfl,a,g,w',rfl,hA,G,fun H1 s1=> ?_⟩;have k1:=k.ext s1.ext;have q1:∀H',Same H1 H'->Q (.bl (landV H1 g v)) H':=fun H' s'=>by rw [Same.landV s1 (k.le (by decide))];exact q H' (s1.trans s')
  obtain⟨ty,hty,_,_,k3⟩:=kM (K:=K) (k1.le (show 1<=3 by decide));refine⟨_,rfl,_,"tuple",ty,_,rfl,hty,k3,_,rfl,cF (fun e=> ?_) fun e=> ?_⟩
  ·refine cV ?_;have:landV H1 g v=false:=by
    unfold landV;cases z:tupOf H1 v with
    |none=>rfl
    |some xs=>rw [z]at e;cases e
   have q':=q1 H1 (Same.refl _);rw [this]at q';exact q'
  ·cases z:tupOf H1 v with
   |none=>rw [z]at e;cases e
   |some xs=>
   obtain⟨t,rfl,ht⟩:=eZ z;obtain⟨hz,hk⟩:=k1.items ht;have hV:landV H1 g (.ref t)=(xs.all (isCell H1 g)&&upP (fH H1 xs)):=by unfold landV;rw [z]
   refine⟨_,rfl,t,rfl,⟨xs,SqT.of ht⟩,fun Z l hl=> ?_⟩;refine jC (fun x=> .bl (isCell H1 g x)) ht hl hz (fun x H' Q' hm hs hq=> ?_) fun σ H2 s2 hl2=> ?_
   ·refine⟨_,rfl,_,rfl,a,g,w',x,rfl,hA.same (s1.trans hs),G,(hk x hm).ext hs.ext,fun H3 s3=> ?_⟩;rw [Same.isCell hs ((hk x hm).le (by decide))];exact hq H3 s3
   ·refine⟨l,xs.map (isCell H1 g),rfl,SqL.of (by rw [hl2,map_map];rfl),_,rfl,?_⟩;have ea:(xs.map (isCell H1 g)).all id=xs.all (isCell H1 g):=by rw [all_map];rfl
    rw [ea];refine cF (fun e2=> ?_) fun e2=> ?_
    ·have q':=q1 H2 s2;have e2':xs.all (isCell H1 g)=false:=by simpa using e2
     rw [hV,e2']at q';exact q'
    ·have e2':xs.all (isCell H1 g)=true:=by simpa using e2
     obtain⟨ps,ex,hP,hc⟩:=qD e2';have hl1000:(fH H1 xs).length<=1000:=by
      have h1:=Paired.length hP;have h2:=congrArg List.length ex;rw [length_map]at h2;omega
     refine⟨_,rfl,t,fH H1 xs,rfl,⟨ps,s2 _ _ (by rw [←ex];exact ht),hP.same s2⟩,hl1000,fun H3 s3=> ?_⟩;have q':=q1 H3 (s2.trans s3);rw [hV,e2']at q';exact q'
end
end M10
namespace Wlk
open PySem PyProof.Rows Srt Cyc Grd L2
theorem sC (a:Pl):¬ltP a a:=fun z=>by unfold ltP at z;rw [kD]at z;cases z
theorem A6h (h1:ltP a b)(h2:ltP b c):ltP a c:=jW h1 h2
theorem A9u (h:¬ltP a b)(h2:¬ltP b a):a=b:=by unfold ltP at h h2;have:=lU (by simpa using h) (by simpa using h2);obtain⟨a1,a2⟩:=a;obtain⟨b1,b2⟩:=b;simp only [List.cons.injEq,and_true]at this;rw [this.1,this.2]
theorem wH {ks rs:List Pl}(hk:ks.Pairwise ltP)(hr:rs.Pairwise ltP)(hm:∀k,k∈ks↔k∈rs):ks=rs:=by
 induction ks generalizing rs with
 |nil=>
  cases rs with
  |nil=>rfl
  |cons r rs=>exact absurd ((hm r).mpr zjR) (by simp)
 |cons k ks ih=>
  cases rs with
  |nil=>exact absurd ((hm k).mp zjR) (by simp)
  |cons r rs=>
   rw [pairwise_cons]at hk hr;have e:k=r:=by
    rcases mem_cons.mp ((hm k).mp zjR)with e|h1
    ·exact e
    ·rcases mem_cons.mp ((hm r).mpr zjR)with e|h2
     ·exact e.symm
     ·exact absurd (A6h (hr.1 k h1) (hk.1 r h2)) (sC r)
   subst e;rw [ih hk.2 hr.2 fun x=> ?_];have nk:∀x,x∈ks->x≠k:=fun x hx z=>by subst z;exact sC x (hk.1 x hx)
   have nr:∀x,x∈rs->x≠k:=fun x hx z=>by subst z;exact sC x (hr.1 x hx)
   constructor
   ·intro hx;rcases mem_cons.mp ((hm x).mp (zjS _ hx))with z|z
    ·exact absurd z (nk x hx)
    ·exact z
   ·intro hx;rcases mem_cons.mp ((hm x).mpr (zjS _ hx))with z|z
    ·exact absurd z (nr x hx)
    ·exact z
def zH (cs:List Pl)(b:Bool):Prop:=(cs=[]/\b=false)\/ ∃c0 tl P0,cs=c0::tl/\pV cs c0 P0/\b=decide (P0=cs)
def eK (a b:Pl):Bool:=decide ((Int.natAbs (a.1 - b.1):Int)+Int.natAbs (a.2 - b.2)=1)
theorem next_iff:eK a b=true↔a∈beside b:=by obtain⟨a1,a2⟩:=a;obtain⟨b1,b2⟩:=b;unfold eK beside;simp only [decide_eq_true_eq,mem_cons,not_mem_nil,or_false,Prod.mk.injEq];omega
end Wlk
namespace L2
open PySem PySem.Spec PyProof.Rows
def uW (n:Nat)(g:Bool->Bool):R2:=fun x y H Q=> ∃p q xs ys,x= .ref p/\y= .ref q/\H p=some (.lst xs)/\H q=some (.lst ys)/\((xs.length≠ys.length/\Q (.bl (g false)) H)\/ ∃ks,E3 (EqD H n) xs ys ks/\Q (.bl (g (ks.all id))) H)
section
theorem A0u (n:Nat)(hu:X.A.units+n+1<cLine):OpR X (compareOp .Eq) (uW n id):=by
 intro pins s σ H x y v u Q I rx ry h;obtain⟨p,q,xs,ys,rfl,rfl,h1,h2,h4⟩:=h;rcases h4 with⟨hne,hq⟩| ⟨ks,h4,hq⟩
 ·cases rx;cases ry
  ·obtain⟨us,r1,p1,_⟩:=I.list (SqL.of (K:=X.K) h1);obtain⟨ws,r2,p2,_⟩:=I.list (SqL.of (K:=X.K) h2);have l1:=r1.length;have l2:=r2.length;exact SeqAt.RcAt.lists_lengths (A:=X.A) (s:=s) p1.isList p2.isList (by simp;omega) (by omega) X.prog X.w X.xe _ ⟨.bl _,H,I,rfl,hq⟩
 ·exact B0h n hu pins s σ H _ _ v u Q I rx ry ⟨p,q,xs,ys,ks,rfl,rfl,.inr ⟨h1,h2⟩,h4,hq⟩
theorem uG (n:Nat)(hu:X.A.units+n+1<cLine):OpR X (compareOp .NotEq) (uW n not):=by
 intro pins s σ H x y v u Q I rx ry h;obtain⟨p,q,xs,ys,rfl,rfl,h1,h2,h4⟩:=h;rcases h4 with⟨hne,hq⟩| ⟨ks,h4,hq⟩
 ·cases rx;cases ry
  ·obtain⟨us,r1,p1,_⟩:=I.list (SqL.of (K:=X.K) h1);obtain⟨ws,r2,p2,_⟩:=I.list (SqL.of (K:=X.K) h2);have l1:=r1.length;have l2:=r2.length;exact SeqAt.RcNeAt.lists_lengths (A:=X.A) (s:=s) p1.isList p2.isList (by simp;omega) (by omega) X.prog X.w X.xe _ ⟨.bl _,H,I,rfl,hq⟩
 ·exact B3t n hu pins s σ H _ _ v u Q I rx ry ⟨p,q,xs,ys,ks,rfl,rfl,.inr ⟨h1,h2⟩,h4,hq⟩
end
theorem rE:∀{a b:List Int},a.length=b.length->∃ks,E3 (EqD H n) (a.map V.int) (b.map V.int) ks/\ks.all id=decide (a=b)
 | [],[],_=> ⟨[],trivial,rfl⟩
 |x::a,y::b,h=>by
  obtain⟨ks,h1,h2⟩:=rE (H:=H) (n:=n) (a:=a) (b:=b) (by simpa using h);have f:EqF (.int x) (.int y) (decide (x=y)):=.inl ⟨x,y,rfl,rfl,rfl⟩;refine⟨decide (x=y)::ks,⟨by cases n with|zero=>exact f|succ n=>exact .inl f,h1⟩,?_⟩;rw [all_cons,h2,Bool.eq_iff_iff];simp
 | [],_::_,h=>by simp at h
 |_::_,[],h=>by simp at h
end L2
namespace L2
open PySem PySem.Spec PyProof.Rows Srt
theorem wD [DecidableEq α](d:α)(cs ds:List α):((List.range (min cs.length ds.length)).all (fun j=>decide (cs.getD j d=ds.getD j d))&&cs.length==ds.length)=decide (cs=ds):=by
 rw [Bool.eq_iff_iff,Bool.and_eq_true,all_eq_true,decide_eq_true_eq,beq_iff_eq];constructor
 ·rintro⟨h1,h2⟩;refine ext_getElem h2 fun j a b=> ?_;have:=of_decide_eq_true (h1 j (List.mem_range.mpr (by omega)));simpa [a,b]using this
 ·rintro rfl;exact⟨fun j _=>zjV rfl,rfl⟩
section
theorem A3i (hu:X.A.units+2<cLine):OpR X (compareOp .Eq) (fun x y H Q=> ∃p q cs ds,x= .ref p/\y= .ref q/\SqA H p cs/\SqA H q ds/\Q (.bl (decide (cs=ds))) H):=by
 intro pins s σ H x y v u Q I rx ry h;obtain⟨p,q,cs,ds,rfl,rfl,⟨ps,h1,hP⟩,⟨qs,h2,hQ⟩,hq⟩:=h;cases rx;cases ry;obtain⟨us,r1,p1,_⟩:=I.tuple (SqT.of (K:=X.K) h1);obtain⟨ws,r2,p2,_⟩:=I.tuple (SqT.of (K:=X.K) h2);have e1:=iP r1;have e2:=iP r2;subst e1 e2;have l1:ps.length=cs.length:=Paired.length hP;have l2:qs.length=ds.length:=Paired.length hQ;have k:=SeqAt.RcAt.tuples (A:=X.A) (s:=s) (e:=fun j=>decide (cs.getD j (0,0)=ds.getD j (0,0))) p1 p2 (by omega) (fun j g1 g2=>by
  rw [size_toArray,length_map]at g1 g2;obtain⟨c,hc,he⟩:=hP.at (getElem?_eq_getElem g1);obtain⟨d,hd,he2⟩:=hQ.at (getElem?_eq_getElem g2);have ec:cs.getD j (0,0)=c:=by rw [getD_eq_getElem?_getD,hc];rfl
  have ed:ds.getD j (0,0)=d:=by rw [getD_eq_getElem?_getD,hd];rfl
  rw [ec,ed];have a1:(ps.map Value.ref).toArray[j]'(by rw [size_toArray,length_map];exact g1)=Value.ref ps[j]:=by simp
  have a2:(qs.map Value.ref).toArray[j]'(by rw [size_toArray,length_map];exact g2)=Value.ref qs[j]:=by simp
  rw [a1,a2];exact oK I (show X.A.units+1<cLine by omega) he he2)
 have e:((List.range (min (ps.map Value.ref).toArray.size (qs.map Value.ref).toArray.size)).all (fun j=>decide (cs.getD j (0,0)=ds.getD j (0,0)))&&(ps.map Value.ref).toArray.size==(qs.map Value.ref).toArray.size)=decide (cs=ds):=by
  rw [size_toArray,size_toArray,length_map,length_map,l1,l2];exact wD (0,0) cs ds
 rw [e]at k;exact k X.prog X.w X.xe _ ⟨.bl _,H,I,rfl,hq⟩
theorem B2k (hu:X.A.units+1<cLine):OpR X (compareOp .NotEq) (fun x y H Q=> ∃p q xs,x= .ref p/\y= .ref q/\H p=some (.tup xs)/\H q=some (.tup [])/\Q (.bl (!xs.isEmpty)) H):=by
 intro pins s σ H x y v u Q I rx ry h;obtain⟨p,q,xs,rfl,rfl,h1,h2,hq⟩:=h;cases rx;cases ry;obtain⟨us,r1,p1,_⟩:=I.tuple (SqT.of (K:=X.K) h1);obtain⟨ws,r2,p2,_⟩:=I.tuple (SqT.of (K:=X.K) h2);have e2:ws=[]:=by cases r2;rfl
 subst e2;have l1:=r1.length;have k:=SeqAt.RcNeAt.tuples (A:=X.A) (s:=s) (e:=fun _=>true) p1 p2 (by omega) (fun j _ h2=>absurd h2 (by simp));have e:(!((List.range (min us.toArray.size ([]:List Value).toArray.size)).all (fun _=>true)&&us.toArray.size==([]:List Value).toArray.size))= !xs.isEmpty:=by
  cases xs with
  |nil=>cases us with|nil=>rfl|cons _ _=>simp at l1
  |cons _ _=>cases us with|nil=>simp at l1|cons _ _=>simp
 rw [e]at k;exact k X.prog X.w X.xe _ ⟨.bl _,H,I,rfl,hq⟩
end
end L2
namespace M10
open PySem L2 PyProof.Rows Grd Wlk Cyc Srt
theorem mT:bootBuiltins "any" =some (.builtin "any"):=by decide +kernel
theorem kS (l:List (Int×Int))(x:Int×Int):(l.map fun c=>decide (c=x)).any id=decide (x∈l):=by rw [Bool.eq_iff_iff,any_map];simp
def A2i:Sp:=fun vs H Q _=> ∃t cs,vs=[.ref t]/\SqA H t cs/\cs.length<=10/\∀b H',Same H H'->zH cs b->Q (.bl b) H'
section
variable {P:Program}{w:World}{K:W.Frag}{mg:Str->Option Value}{base:Heap}
theorem B29 (F:D1 K mg "is_one_piece" yU ["land"])(a1:A1 P w K mg base 2 "piece_round" A0q):A1 P w K mg base 3 "is_one_piece" A2i:=by
 refine F.k ["land"] ?_;ac_nf
 ·obtain⟨t,cs,rfl,hT,h10,q⟩:=h;obtain⟨ps,ht,hP⟩:=id hT;have hlen:ps.length=cs.length:=Paired.length hP;refine⟨_,aR (aY (fP (cW (B2k (lt_of_succ_lt (dI hr))) (pv 0) (cD aA) (nomark _)) (fO (cW (A3i (dI hr)) (a1.c hr (aB (pv 0) (dZ (bJ bW (pv 0) aM (fun _ _=>rfl)) aA))) (pv 0) (nomark _))))),?_⟩;refine⟨_,rfl,by show 0<=sizeLine;decide,fun z hz=> ?_⟩;have s1:=aG (o:=.tup []) hz;refine⟨t,z,_,rfl,rfl,s1 _ _ ht,aD,_,rfl,?_⟩;cases hc:cs with
  |nil=>
   have e:ps=[]:=eq_nil_of_length_eq_zero (by rw [hlen,hc];rfl);subst e;exact q false _ s1 (.inl ⟨hc,rfl⟩)
  |cons c0 tl=>
   rw [hc]at hP;cases hP with
   |cons r0 t0=>
    rename_i p0 ps0;refine cV ?_;refine⟨_,rfl,_,rfl,t,_,0,.ref p0,rfl,rfl,SqT.of (s1 _ _ ht),cK (j:=0) rfl,?_⟩;refine⟨t,p0,cs,c0,rfl,hT.same s1,h10,s1 _ _ r0,by rw [hc];exact zjR,fun t' P0 H2 s2 hP0 p0=> ?_⟩;refine⟨_,rfl,t',t,P0,cs,rfl,rfl,hP0,hT.same (s1.trans s2),?_⟩;exact q _ H2 (s1.trans s2) (.inr ⟨c0,tl,P0,hc,p0,rfl⟩)
end
def cH (g:bF)(cs:List Pl):Int:=(cs.map (atG g)).sum
def fW (g:bF)(c:Pl):Bool:=(beside c).any fun d=>decide (d∈bA road g)
def yD:Sp:=fun vs H Q _=> ∃a g w,vs=[.ref a]/\GridAt H a g/\dO g w/\∀H' l ps,H l=none->Same H H'->H' l=some (.lst ((ps:List Addr).map V.ref))->PlAt H' ps ((bA pos g).filter (fW g))->Q (.ref l) H'
def A2v:Sp:=fun vs H Q _=> ∃t l cs ps ds,vs=[.ref t,.ref l]/\SqA H t cs/\cs.length<=1000/\H l=some (.lst ((ps:List Addr).map V.ref))/\PlAt H ps ds/\∀H',Same H H'->Q (.bl (cs.any fun c=>decide (c∈ds))) H'
def qH:Sp:=fun vs H Q _=> ∃a t g w cs,vs=[.ref a,.ref t]/\GridAt H a g/\dO g w/\SqA H t cs/\LandOf g cs/\∀H',Same H H'->Q (.int (cH g cs)) H'
section
variable {P:Program}{w:World}{K:W.Frag}{mg:Str->Option Value}{base:Heap}
theorem B3g:(["cell","cells"]:List Str).Nodup:=by decide +kernel
theorem A7s (F:D1 K mg "has_some_of" tL ["land","cells"])(T2:dC mg):A1 P w K mg base 1 "has_some_of" A2v:=by
 refine F.k ["land","cells"] ?_;ac_nf
 ·obtain⟨t,lc,cs,qs,ds,rfl,⟨ps,ht,hP⟩,hz,hlc,hD,q⟩:=h;have hlen:ps.length=cs.length:=Paired.length hP;refine⟨_,aR (aY (bE (mZ rfl) rfl T2.any mT (cJ (bM (bD tL).names ["land","cells"] ["cell"] [("cells",1)] rfl (cP (pv 0)) rfl rfl rfl (by decide +kernel)
   (fun Z=>nm1 0 B3g) (fun Z=>cA) (fun Z=>cW (mY 1 (dI hr)) (pv 0) (pv 1) rfl)) aA))),?_⟩
  refine⟨_,rfl,t,rfl,⟨_,SqT.of ht⟩,fun Z l hl=> ?_⟩;refine gM (K:=K) (a:=t) (xs:=ps.map V.ref) (fun i σ H'=>(∃o,σ=[o,some (.ref lc)])/\Same H H'/\H' l=some (.lst ((cs.take i).map fun c=>V.bl (decide (c∈ds))))) ⟨⟨_,rfl⟩,aG hl,by rw [aD];rfl⟩ (fun i σ H' _ h=>SqT.of (h.2.1 _ _ ht)) ?_ ?_
  ·rintro i x σ H' hx ⟨⟨o,rfl⟩,hs,hl'⟩;obtain⟨p,hp,rfl⟩:=gS hx;obtain⟨c,hc,he⟩:=hP.at hp;have hi:i<cs.length:=(zjW.mp hc).1;show cI _ _ _ [some (.ref p),some (.ref lc)] H';refine⟨_,rfl,_,rfl,lc,_,_,rfl,.inr (hs _ _ hlc),iN (hs _ _ he) (hD.same hs),?_⟩;rw [kS];refine⟨_,hl',cM (by rw [length_map,length_take];omega),⟨_,rfl⟩,fun b' u e'=> ?_,?_⟩
   ·rw [aV (bL e' hl)];exact hs _ _ e'
   ·rw [aD,take_succ,hc,map_append];rfl
  ·rintro σ H' ⟨_,hs,hl'⟩;rw [length_map,hlen,take_of_length_le (zjQ _)]at hl';refine⟨l,cs.map fun c=>decide (c∈ds),rfl,SqL.of (by rw [hl',map_map];rfl),?_⟩;have e:(cs.map fun c=>decide (c∈ds)).any id=cs.any fun c=>decide (c∈ds):=by rw [any_map];rfl
   rw [e];exact q H' hs
theorem B33:(["cell","roads"]:List Str).Nodup:=by decide +kernel
theorem B2m:(["place","roads"]:List Str).Nodup:=by decide +kernel
theorem A9f (F:D1 K mg "cells_at_road" sF ["mead"])(T2:dC mg)(a1:A1 P w K mg base 6 "roads_of" (eY road))(a2:A1 P w K mg base 6 "cells_of" (eY pos))(a3:A1 P w K mg base 1 "places_beside" vE):A1 P w K mg base 7 "cells_at_road" yD:=by
 refine F.k ["mead","roads"] ?_;ac_nf
 ·obtain⟨a,g,w',rfl,hA,G,q⟩:=h;refine⟨_,aU (bK (i:=1) nd rfl (Or.inr rfl) (a1.c hr (aB (pv 0) aA)))<|
   aR (aY (bM (bD sF).names ["mead","roads"] ["cell"] [("roads",1)] rfl (cT (a2.c hr (aB (pv 0) aA))) rfl rfl rfl (by decide +kernel)
    (fun Z=>nm1 0 B33) (fun Z=>eE (bN (bE (mZ rfl) rfl T2.any mT (cJ (bM [(".0",.local),("cell",.local),("any",.globalImplicit),("places_beside",.globalImplicit),("roads",.cell)] ["cell","roads"] ["place"] [("roads",1)] rfl (cT (a3.c hr (aB (pv 0) aA))) rfl rfl rfl (by decide +kernel)
      (fun Z=>nm1 0 B2m) (fun Z=>cA) (fun Z=>cW (mY 1 (dI hr)) (pv 0) (pv 1) rfl)) aA)))) (fun Z=>pv 0))),?_⟩
  refine⟨_,rfl,a,g,w',rfl,hA,G,fun H1 lr rs hlr s1 hlr' hR=> ?_⟩;refine⟨_,rfl,a,g,w',rfl,hA.same s1,G,fun H2 lc cs hlc s2 hlc' hC=> ?_⟩;refine⟨lc,rfl,⟨_,SqL.of hlc'⟩,fun Z l hl=> ?_⟩;have hcl:cs.length=(bA pos g).length:=Paired.length hC;have h10:(bA pos g).length<=10:=by rw [fE];exact G.c10
  have hlr2:=s2 _ _ hlr';have hR2:=hR.same s2;refine fX (K:=K) (a:=lc) (xs:=cs.map V.ref) (fun i σ H'=>(∃o,σ=[o,some (.ref lr)])/\Same H2 H'/\∃ns,H' l=some (.lst ((ns:List Addr).map V.ref))/\PlAt H' ns (((bA pos g).take i).filter (fW g))) ⟨⟨_,rfl⟩,aG hl,[],by rw [aD];rfl,.nil⟩ (fun i σ H' _ h=>SqL.of (h.2.1 _ _ hlc')) ?_ ?_
  ·rintro i x σ H' hx ⟨⟨o,rfl⟩,hs,ns,hn,hN⟩;obtain⟨p,hp,rfl⟩:=gS hx;obtain⟨c,hc,he⟩:=hC.at hp;have hi:i<(bA pos g).length:=(zjW.mp hc).1;have hnl:ns.length<=10:=by
    have h1:ns.length=_:=Paired.length hN;have h2:=length_filter_le (fW g) ((bA pos g).take i);rw [length_take]at h2;omega
   have et:((bA pos g).take (i+1)).filter (fW g)=((bA pos g).take i).filter (fW g)++(if fW g c=true then [c]else []):=by
    rw [take_succ,hc,filter_append]
    congr 1
    cases e:fW g c
    ·simp [e]
    ·simp [e]
   rw [et];show cI _ _ _ [some (.ref p),some (.ref lr)] H';refine⟨_,rfl,p,c,rfl,hs _ _ he,fun lb bs H3 hlb s3 hlb3 hB=> ?_⟩;have hb4:bs.length=(beside c).length:=Paired.length hB;refine⟨lb,rfl,⟨_,SqL.of hlb3⟩,fun Z l2 hl2=> ?_⟩;refine fX (K:=K) (a:=lb) (xs:=bs.map V.ref) (fun j σ H4=>(∃o,σ=[o,some (.ref lr)])/\Same H3 H4/\H4 l2=some (.lst (((beside c).take j).map fun d=>V.bl (decide (d∈bA road g))))) ⟨⟨_,rfl⟩,aG hl2,by rw [aD];rfl⟩ (fun j σ H4 _ h=>SqL.of (h.2.1 _ _ hlb3)) ?_ ?_
   ·rintro j y σ H4 hy ⟨⟨o',rfl⟩,hs4,hl24⟩;obtain⟨b,hbj,rfl⟩:=gS hy;obtain⟨d,hd,hbd⟩:=hB.at hbj;have hj:j<4:=(zjW.mp hd).1;show cI _ _ _ [some (.ref b),some (.ref lr)] H4;refine⟨_,rfl,_,rfl,lr,_,_,rfl,.inr (hs4 _ _ (s3 _ _ (hs _ _ hlr2))),iN (hs4 _ _ hbd) (((hR2.same hs).same s3).same hs4),?_⟩;rw [kS];refine⟨_,hl24,cM (by rw [length_map,length_take];omega),⟨_,rfl⟩,fun b' u e'=> ?_,?_⟩
    ·rw [aV (bL e' hl2)];exact hs4 _ _ e'
    ·rw [aD,take_succ,hd,map_append];rfl
   ·rintro σ H4 ⟨_,hs4,hl24⟩;rw [length_map,hb4,take_of_length_le (zjQ _)]at hl24;refine⟨l2,(beside c).map fun d=>decide (d∈bA road g),rfl,SqL.of (by rw [hl24,map_map];rfl),_,rfl,?_⟩;have e:((beside c).map fun d=>decide (d∈bA road g)).any id=fW g c:=by unfold fW;rw [any_map];rfl
    rw [e];have s34:=s3.trans hs4;refine cF (fun z=> ?_) fun z=> ?_
    ·rw [if_pos z];have hn4:=s34 _ _ hn;refine⟨_,rfl,_,hn4,cM (by rw [length_map];omega),⟨_,rfl⟩,fun b' u e'=> ?_,ns++[p],?_,?_⟩
     ·rw [aV (bL e' hl)];exact s34 _ _ (hs _ _ e')
     ·rw [aD,map_append];rfl
     ·exact PlAt.snoc (Paired.mapP (hN.same s34) fun _ _ z=>PlA.put hn4 z) (PlA.put hn4 (s34 _ _ (hs _ _ he)))
    ·rw [if_neg (by rw [z];decide),append_nil];exact⟨⟨_,rfl⟩,hs.trans s34,ns,s34 _ _ hn,hN.same s34⟩
  ·rintro σ H' ⟨_,hs,ns,hn,hN⟩;rw [length_map,hcl,take_of_length_le (zjQ _)]at hN;exact q H' l ns (s1.free (s2.free hl)) ((s1.trans s2).trans hs) hn hN
theorem B1w {K:W.Frag}{a t l:Addr}{g:bF}{w':Nat}{cs:List Pl}{ps:List Addr}{H:Hp}{Q:VK}(hA:GridAt H a g)(G:dO g w')(ht:H t=some (.tup (ps.map V.ref)))(hP:PlAt H ps cs)(hL:LandOf g cs)(hl:H l=none)(q:∀H',Same H H'->Q (.int (cH g cs)) H'):
  cX (Itt K t) (kK K 2 (fM (dD 0) (fM (dD 1) kF))) (cI iD (fA l (tOp (jI K) (tOp (jI K) (cY 2) (cY 0)) (cY 1)))) (eC fun _ H'=> ∃(p:Addr)(ns:List Int),[V.ref l]=[.ref p]/\SqL K H' p (ns.map V.int)/\ns.length<=1000/\(∀n∈ns,-1000<=n/\n<=1000)/\Q (.int ns.sum) H') [none,none,some (.ref a)] (upd H l (.lst [])):=by
 have hpl:ps.length=cs.length:=Paired.length hP;have h10:=LandOf.len G hL;refine gM (K:=K) (a:=t) (xs:=ps.map V.ref) (fun i σ H'=>(∃o1 o2,σ=[o1,o2,some (.ref a)])/\Same H H'/\H' l=some (.lst (((cs.take i).map (atG g)).map V.int))) ⟨⟨_,_,rfl⟩,aG hl,by rw [aD];rfl⟩ (fun i σ H' _ h=>SqT.of (h.2.1 _ _ ht)) ?_ ?_
 ·rintro i x σ H' hi ⟨⟨o1,o2,rfl⟩,hs,hl'⟩;obtain⟨p,hpi,rfl⟩:=gS hi;obtain⟨cc,hci,hpc⟩:=hP.at hpi;have hil:i<cs.length:=(zjW.mp hci).1;obtain⟨i',j',xs,n,rfl,hg,hx,hf⟩:=mem_gridF.mp (hL.subset (mem_of_getElem? hci));obtain⟨bs,b,h1,h2,h3,h4⟩:=(hA.same hs).ix hg hx;refine⟨p,_,rfl,SqT.of (hs _ _ hpc),rfl,_,_,rfl,_,_,rfl,rfl,?_⟩;refine gZ ?_;refine⟨_,rfl,_,rfl,a,_,_,_,rfl,rfl,SqT.of h1,h2,_,rfl,b,_,_,_,rfl,rfl,SqT.of h3,h4,?_⟩;refine⟨_,hl',cM (by rw [length_map,length_map,length_take];omega),⟨_,_,rfl⟩,fun b' u e'=> ?_,?_⟩
  ·rw [aV (bL e' hl)];exact hs _ _ e'
  ·rw [aD,take_succ,hci,map_append,map_append];show some (HO.lst (_++[V.int n]))=some (HO.lst (_++[V.int (atG g ((i':Int),(j':Int)))]));rw [lC hg hx]
 ·rintro σ H' ⟨_,hs,hl'⟩;rw [length_map,hpl,take_of_length_le (zjQ _)]at hl';refine⟨l,_,rfl,SqL.of hl',by rw [length_map];omega,fun n hn=> ?_,q H' hs⟩;obtain⟨c,hc,rfl⟩:=mem_map.mp hn;obtain⟨i',j',xs,n,rfl,hg,hx,hf⟩:=mem_gridF.mp (hL.subset hc);rw [lC hg hx];have:=G.num xs (mem_of_getElem? hg) n (mem_of_getElem? hx);omega
theorem A8i (F:D1 K mg "worth_together" mI ["mead","places"])(T2:dC mg):A1 P w K mg base 1 "worth_together" qH:=by
 refine F.k ["mead","places"] ?_;ac_nf
 ·obtain⟨a,t,g,w',cs,rfl,hA,G,⟨ps,ht,hP⟩,hL,q⟩:=h;refine⟨_,aR (aY (bE (A2f rfl) rfl T2.sum boot_sum (cJ (bM (bD mI).names ["mead","places"] ["row","column"] [("mead",0)] rfl (cP (pv 1)) rfl rfl rfl (by decide +kernel)
    (fun Z=>bU rfl (aW (nm1 0 pJ) (aW (nm1 1 pJ) bT))) (fun Z=>cA) (fun Z=>bJ bW (bJ bW (pv 2) (pv 0) (fun _ _=>rfl)) (pv 1) (fun _ _=>rfl))) aA))),?_⟩
  refine⟨_,rfl,t,rfl,⟨_,SqT.of ht⟩,fun Z l hl=> ?_⟩;exact B1w hA G ht hP hL hl q
end
end M10
namespace Set4
open PySem PyProof.Rows
def L (b0 b1 b2 b3:Bool):List Nat:=(cond b0 [0] [])++((cond b1 [1] [])++((cond b2 [2] [])++(cond b3 [3] [])))
def aX (S:Nat->Bool):List Nat:=L (S 0) (S 1) (S 2) (S 3)
def ents (l:List Nat)(f:Nat->Value):Array (Int×Value):=(l.map fun k:Nat=>((k:Int),f k)).toArray
def tab (l:List Nat)(led:Bool):SetTable:={mask:=7,place:=l.toArray,dummies:=#[],finger:=0,led:=led,moves:=0,plain:=true}
def plus (S:Nat->Bool)(k:Nat):Nat->Bool:=fun j=>S j||decide (j=k)
def gB (f:Nat->Value)(k:Nat)(x:Value):Nat->Value:=fun j=>if j=k then x else f j
theorem B3o (b1 b2 b3 led:Bool)(f:Nat->Value)(x:Value):layNew (tab (L false b1 b2 b3) led) (ents (L false b1 b2 b3) f) ((0:Nat):Int) x=(ents (L true b1 b2 b3) (gB f 0 x),tab (L true b1 b2 b3) led,false,false):=by cases b1<;>cases b2<;>cases b3<;>kernel_rfl
theorem A8w (b0 b2 b3 led:Bool)(f:Nat->Value)(x:Value):layNew (tab (L b0 false b2 b3) led) (ents (L b0 false b2 b3) f) ((1:Nat):Int) x=(ents (L b0 true b2 b3) (gB f 1 x),tab (L b0 true b2 b3) led,false,false):=by cases b0<;>cases b2<;>cases b3<;>kernel_rfl
theorem A3l (b0 b1 b3 led:Bool)(f:Nat->Value)(x:Value):layNew (tab (L b0 b1 false b3) led) (ents (L b0 b1 false b3) f) ((2:Nat):Int) x=(ents (L b0 b1 true b3) (gB f 2 x),tab (L b0 b1 true b3) led,false,false):=by cases b0<;>cases b1<;>cases b3<;>kernel_rfl
theorem B03 (b0 b1 b2 led:Bool)(f:Nat->Value)(x:Value):layNew (tab (L b0 b1 b2 false) led) (ents (L b0 b1 b2 false) f) ((3:Nat):Int) x=(ents (L b0 b1 b2 true) (gB f 3 x),tab (L b0 b1 b2 true) led,false,false):=by cases b0<;>cases b1<;>cases b2<;>kernel_rfl
theorem A7f (S:Nat->Bool)(led:Bool)(f:Nat->Value)(x:Value)(k:Nat)(hk:k<4)(hs:S k=false):layNew (tab (aX S) led) (ents (aX S) f) (k:Int) x=(ents (aX (plus S k)) (gB f k x),tab (aX (plus S k)) led,false,false):=by
 unfold aX plus
 match k,hk with
 |0,_=>rw [hs];simpa using B3o (S 1) (S 2) (S 3) led f x
 |1,_=>rw [hs];simpa using A8w (S 0) (S 2) (S 3) led f x
 |2,_=>rw [hs];simpa using A3l (S 0) (S 1) (S 3) led f x
 |3,_=>rw [hs];simpa using B03 (S 0) (S 1) (S 2) led f x
theorem mP (b0 b1 b2 b3:Bool):(L b0 b1 b2 b3).length<=4:=by cases b0<;>cases b1<;>cases b2<;>cases b3<;>decide
theorem lA (l:List Nat)(f:Nat->Value):(ents l f).size=l.length:=by simp [ents]
theorem lR (S:Nat->Bool)(led:Bool)(f:Nat->Value):(tab (aX S) led).fits (ents (aX S) f).size=true:=by rw [lA];unfold aX;cases S 0<;>cases S 1<;>cases S 2<;>cases S 3<;>kernel_rfl
theorem A6j (S:Nat->Bool)(led:Bool):(tab (aX S) led).tooFull=false:=by unfold aX;cases S 0<;>cases S 1<;>cases S 2<;>cases S 3<;>kernel_rfl
theorem nX:k∈cond b [i] []↔b=true/\k=i:=by cases b<;>simp
theorem mem_mem4:k∈aX S↔k<4/\S k=true:=by
 unfold aX L;rw [mem_append,mem_append,mem_append,nX,nX,nX,nX];constructor
 ·rintro(⟨h,rfl⟩| ⟨h,rfl⟩| ⟨h,rfl⟩| ⟨h,rfl⟩)<;>exact⟨by decide,h⟩
 ·rintro⟨hk,hs⟩
  match k,hk with
  |0,_=>exact .inl ⟨hs,rfl⟩
  |1,_=>exact .inr (.inl ⟨hs,rfl⟩)
  |2,_=>exact .inr (.inr (.inl ⟨hs,rfl⟩))
  |3,_=>exact .inr (.inr (.inr ⟨hs,rfl⟩))
def cL (S:Nat->Bool)(f:Nat->Value)(led:Bool)(ep:Nat):Obj:={cls:=.type "set",dict:=none,data:=.set (ents (aX S) f) ep (tab (aX S) led)}
def IsS4 (h:Heap)(a:Addr)(S:Nat->Bool)(led:Bool):Prop:=∃f ep,(∀k,k<4->S k=true->∃t,f k=Value.int k t)/\h.get? a=some (cL S f led ep)
theorem A2e (k:Nat)(hk:k<4):hashInt (k:Int)=(k:Int):=by
 match k,hk with
 |0,_=>rfl
 |1,_=>rfl
 |2,_=>rfl
 |3,_=>rfl
section
theorem A63 {S:Nat->Bool}{f:Nat->Value}(hf:∀k,k<4->S k=true->∃t,f k=Value.int k t):ElemsOf (intKind prog w) (ents (aX S) f).toList:=by
 intro e he;have he':e∈(aX S).map fun k:Nat=>((k:Int),f k):=by simpa [ents]using he
 obtain⟨k,hk,rfl⟩:=mem_map.mp he';obtain⟨h1,h2⟩:=mem_mem4.mp hk;obtain⟨t,ht⟩:=hf k h1 h2;refine⟨⟨(k:Int),?_,?_⟩,?_⟩
 ·show(intKind prog w).is (k:Int) (f k)=true;rw [ht];exact intKind_is _ _ _ _
 ·exact(A2e k h1).symm
 ·show(f k).scannable=true;rw [ht];rfl
theorem A62 (hS:IsS4 s.heap a S led)(hk:k<4)(h:∀b h',Heap.SameBut a s.heap h'->IsS4 h' a (plus S k) led->Q b {s with heap:=h'}):
  wpAny (model prog w) A (setAddHashed a (.int (k:Int) t) (hashInt (k:Int))) Q E s:=by
 obtain⟨f,ep,hf,ho⟩:=hS;have hel:ElemsOf (intKind prog w) (ents (aX S) f).toList:=A63 hf;have hfit:=lR S led f;have hz:(ents (aX S) f).size<scanBound:=by
  rw [lA];have:=mP (S 0) (S 1) (S 2) (S 3);show(L (S 0) (S 1) (S 2) (S 3)).length<4096;omega
 have hd:(cL S f led ep).data= .set (ents (aX S) f) ep (tab (aX S) led):=rfl;have hkey:(intKind prog w).is (k:Int) (Value.int (k:Int) t)=true:=intKind_is _ _ _ _;unfold setAddHashed setAddHashedIn;refine wpAny_holding (zjZ (wpAny_setState_of ho hd hfit ?_));dsimp only
 rw [byScan_of (knd:=intKind prog w) rfl hz hel];simp only [↓reduceIte];unfold setAddByScan;refine zjZ (zjZ (wpAny_rule (zjZ (wpAny_setScan_of (knd:=intKind prog w) hkey ho hd hfit hel ?_))));cases hSk:S k with
 |true=>
  have:∃j,findIdx? (fun e=>(intKind prog w).is (k:Int) e.2) (ents (aX S) f).toList=some j:=by
   cases hr:findIdx? (fun e=>(intKind prog w).is (k:Int) e.2) (ents (aX S) f).toList with
   |some j=>exact⟨j,rfl⟩
   |none=>
    obtain⟨t',ht'⟩:=hf k hk hSk;have hm:((k:Int),f k)∈(ents (aX S) f).toList:=by
     have:((k:Int),f k)∈(aX S).map fun k:Nat=>((k:Int),f k):=mem_map.mpr ⟨k,mem_mem4.mpr ⟨hk,hSk⟩,rfl⟩;simpa [ents]using this
    have:=List.findIdx?_eq_none_iff.mp hr _ hm;rw [show(intKind prog w).is (k:Int) ((k:Int),f k).2=true by show(intKind prog w).is (k:Int) (f k)=true;rw [ht'];exact intKind_is _ _ _ _]at this;cases this
  obtain⟨j,hj⟩:=this;rw [hj];dsimp only
  refine zjY (zjY ?_);have eS:plus S k=S:=funext fun i=>by
   unfold plus;by_cases e:i=k
   ·subst e;simp [hSk]
   ·simp [e]
  exact h _ s.heap (Heap.SameBut.refl a s.heap) (by rw [eS];exact⟨f,ep,hf,ho⟩)
 |false=>
  have hr:findIdx? (fun e=>(intKind prog w).is (k:Int) e.2) (ents (aX S) f).toList=none:=by
   rw [List.findIdx?_eq_none_iff];intro e he;have he':e∈(aX S).map fun k:Nat=>((k:Int),f k):=by simpa [ents]using he
   obtain⟨i,hi,rfl⟩:=mem_map.mp he';obtain⟨h1,h2⟩:=mem_mem4.mp hi;obtain⟨t',ht'⟩:=hf i h1 h2;cases z:(intKind prog w).is (k:Int) (((i:Int),f i).2)with
   |false=>rfl
   |true=>
    have z':(intKind prog w).is (k:Int) (Value.int (i:Int) t')=true:=by rw [←ht'];exact z
    have:=(intKind prog w).inj _ _ _ z' (intKind_is _ _ _ _);have e:k=i:=by omega
    subst e;rw [hSk]at h2;cases h2
  rw [hr];dsimp only
  rw [A2e k hk,A7f S led f _ k hk hSk];dsimp only
  refine zjZ (zjY ?_);have hS2:∀ep',∀h',h'.get? a=some (cL (plus S k) (gB f k (.int (k:Int) t)) led ep')->IsS4 h' a (plus S k) led:=fun ep' h' g=> ⟨_,ep',fun i hi hp=>by
   unfold gB;by_cases e:i=k
   ·rw [if_pos e,e];exact⟨t,rfl⟩
   ·rw [if_neg e];unfold plus at hp;exact hf i hi (by simpa [e]using hp),g⟩
  rw [show(tab (aX (plus S k)) led).plain=true from rfl];simp only [↓reduceIte];rw [hashByValue_scannable 8 (x:=Value.int (k:Int) t) rfl];refine zjZ (zjY ?_);rw [show plainKind (Value.int (k:Int) t)=true from rfl];simp only [↓reduceIte];have hz2:(ents (aX (plus S k)) (gB f k (.int (k:Int) t))).size<=sizeLine:=by
   rw [lA,sizeLine_eq];have:=mP (plus S k 0) (plus S k 1) (plus S k 2) (plus S k 3);show(L (plus S k 0) (plus S k 1) (plus S k 2) (plus S k 3)).length<=_;omega
  refine zjZ (wpAny_storeSet_of ho hd ?_ hz2);rw [A6j];simp only [Bool.and_false,Bool.false_eq_true,↓reduceIte];refine zjY (zjY ?_);have hg:(s.heap.update a (Obj.putSet (ents (aX (plus S k)) (gB f k (.int (k:Int) t))) (tab (aX (plus S k)) led))).get? a=some (cL (plus S k) (gB f k (.int (k:Int) t)) led (ep+1)):=by
   have:=get?_update_self (Obj.putSet (ents (aX (plus S k)) (gB f k (.int (k:Int) t))) (tab (aX (plus S k)) led)) ho (by rw [putSet_of _ _ hd];rfl);rw [putSet_of _ _ hd]at this;exact this
  exact h _ _ (Heap.SameBut.update s.heap a _) (hS2 _ _ hg)
end
def acc (val:Nat->Nat):Nat->Nat->Bool
 |0=>fun _=>false
 |i+1=>plus (acc val i) (val i)
theorem qE (val:Nat->Nat)(k:Nat):∀i,acc val i k=true↔ ∃j,j<i/\val j=k
 |0=>by simp [acc]
 |i+1=>by
  show plus (acc val i) (val i) k=true↔_;unfold plus;rw [Bool.or_eq_true,qE val k i,decide_eq_true_eq];constructor
  ·rintro(⟨j,h1,h2⟩|h)
   ·exact⟨j,by omega,h2⟩
   ·exact⟨i,by omega,h.symm⟩
  ·rintro⟨j,h1,h2⟩;by_cases e:j=i
   ·right;rw [←h2,e]
   ·exact .inl ⟨j,by omega,h2⟩
theorem IsS4.at (x:IsS4 h a S led)(e:∀o,h.get? a=some o->h'.get? a=some o):IsS4 h' a S led:=let ⟨f,ep,hf,ho⟩:=x;⟨f,ep,hf,e _ ho⟩
section
variable {St:Nat->Shared->Prop}
theorem xZ (W:WalksS prog w A.in1 I fp wr G n P St)(D:Addr)(hD:D∉fp)(val:Nat->Nat)(hv:∀i v,P i v->∃t,v= .int (val i:Int) t)(h4:∀i,i<n->val i<4):∀(k i:Nat)(s:Shared),n - i=k->i<=n->St i s->IsS4 s.heap D (acc val i) led->
  (∀s',Moved (D::wr) G s s'->IsS4 s'.heap D (acc val n) led->R (.ok (.ret .none)) s')->codeAny (model prog w) A (.builtin "set.update.loop" ⟨[.ref D,.ref I],[]⟩) R s:=by
 have nw:D∉wr:=fun h=>hD (W.sub _ h);have sub:∀b∈wr,b∈D::wr:=fun b hb=>zjS _ hb;intro k
 induction k with
 |zero=>
  intro i s hk hi st hS hR;obtain rfl:i=n:=by omega
  refine codeAny_builtin F.entry_set_update_loop ?_;rw [Around.under_plainId F.plain_set_update_loop _];show wpAny _ A.in1 (pyNext (.ref I)>>=_) _ _ s;refine zjZ (W.done s _ _ st fun s' hm=> ?_);show wpAny _ A.in1 (ret Value.none) _ _ s';exact zjY (hR s' (hm.mono sub) (hS.at fun o e=>hm.heap D _ nw e))
 |succ k ih=>
  intro i s hk hi st hS hR;have hlt:i<n:=by omega
  refine codeAny_builtin F.entry_set_update_loop ?_;rw [Around.under_plainId F.plain_set_update_loop _];show wpAny _ A.in1 (pyNext (.ref I)>>=_) _ _ s;refine zjZ (W.item i s _ _ hlt st fun v s' hP st' hm=> ?_);obtain⟨t,rfl⟩:=hv i v hP;show wpAny _ A.in1 (holding [Value.int (val i:Int) t] (setAdd D (.int (val i:Int) t))>>=_) _ _ s';refine zjZ (wpAny_holding ?_);unfold setAdd;refine wpAny_holding ?_;refine zjZ ((intKind prog w).pyHash (k:=(val i:Int)) (intKind_is _ _ _ _) ?_);refine A62 (s:={s' with toks:=s'.toks+1}) (hS.at fun o e=>hm.heap D _ nw e) (h4 i hlt) fun b h' hsb hS2=> ?_;refine zjY ⟨plainId_quiet F.plain_set_update_loop _,ih (i+1) _ (by omega) hlt (W.frame _ s' _ _ st' (le_succ _) fun b hb o e=> ?_) hS2 fun s'' hm'' hS''=> ?_⟩
  ·rw [hsb.2 b (fun h:b=D=>hD (by rw [←h];exact hb))];exact e
  ·refine hR s'' (Moved.trans W.gtrans ((hm.mono sub).then_heap (le_succ _) fun b o hb e=> ?_) hm'') hS'';rw [hsb.2 b (fun h:b=D=>hb (by rw [h];exact zjR))];exact e
end
section
def byT (w:World):Bool:=w.params.followText "set-order"
theorem A12 (a:Value)(h:Q₁ (.ref s.heap.objs.size) {s with heap:=s.heap.push (cL (fun _=>false) (fun _=> .none) (!byT w) 0)}):
  codeAny (model prog w) A (.call (.builtin "set.__new__") ⟨[.type "set",a],[]⟩) (wants Q₁ E) s:=by
 refine codeAny_of_tree ?_
 show wpAny _ A.in1 (do checkBuiltinCall "set.__new__" ⟨[.type "set",a],[]⟩;again (.builtin "set.__new__" ⟨[.type "set",a],[]⟩)) _ _ s;refine zjZ (wpAny_of_eq (PySem.F.newCall_set_1 a) (zjY ⟨plainId_quiet PySem.F.plain_set_new _,codeAny_builtin PySem.F.entry_set_new ?_⟩));rw [Around.under_plainId PySem.F.plain_set_new _];unfold Builtin.«set.__new__» Builtin.Frozenset.newClass;have hsub:=PySem.sub_set_self;obtain⟨hp,g,d,tk,os⟩:=s;dsimp only;wp_walk;refine wpAny_askSetting (zjY ?_);dsimp only;simp only [newObj];refine zjZ (wpAny_alloc (zjY ?_));exact zjY h
theorem A78 (hh:A.handled=none)(hl:s.heap.IsList l items)(hv:∀(i:Nat)(v:Value),items[i]?=some v->∃t,v= .int (val i:Int) t)(h4:∀i,i<items.size->val i<4)
  (h:∀(h':Heap)(tk:Nat),IsS4 h' s.heap.objs.size (acc val items.size) (!byT w)->(∀b o,b<s.heap.objs.size->s.heap.get? b=some o->h'.get? b=some o)->Q (.ref s.heap.objs.size) {s with heap:=h',toks:=tk}):
  wpAny (model prog w) A (call (.type "set") [.ref l]) Q E s:=by
 obtain⟨c,tl,hmro⟩:=PySem.F.called_set.mro;have hmade:=PySem.F.called_set.made;have hsub:=PySem.F.called_set.sub;refine wpAny_call (codeAny_of_tree ?_);show wpAny _ _ (callAny (.type "set") _) _ _ _;refine zjY ⟨Code.quiet_builtin _ (by decide +kernel),codeAny_builtin PySem.F.entry_type_call ?_⟩;rw [Around.under_plain (weight_type_call_type "set" [.ref l] []) rfl];have h1:=PySem.F.called_set.notType;have h2:=PySem.F.called_set.canCreate;have hct:=PySem.F.typeCall_set_1 (.ref l)
 repeat (any_goals (first|assumption|wp_step))
 refine codeAny_mono (A12 (.ref l) (E:=E) (Q₁:=fun obj s₁=>obj= .ref s.heap.objs.size/\s₁={s with heap:=s.heap.push (cL (fun _=>false) (fun _=> .none) (!byT w) 0)}) ⟨rfl,rfl⟩) fun r s₁ hr=> ?_;cases r with
 |error e=>exact hr
 |ok fl=>
  cases fl with
  |ret obj=>
   obtain⟨rfl,rfl⟩:=hr;have hS:(s.heap.push (cL (fun _=>false) (fun _=> .none) (!byT w) 0)).get? s.heap.objs.size=some (cL (fun _=>false) (fun _=> .none) (!byT w) 0):=get?_push_size _ rfl;have hT:Shared.TypeIs {s with heap:=s.heap.push (cL (fun _=>false) (fun _=> .none) (!byT w) 0)} (.ref s.heap.objs.size) "set":=⟨_,hS,rfl⟩;have hli:=PySem.F.called_set.init.lookup;have hbi:=PySem.F.called_set.init.bind (.ref s.heap.objs.size)
   repeat (any_goals (first|assumption|wp_step))
   refine codeAny_mono (codeAny_call_builtin (R:=wants (fun r s₂=>r= .none/\∃h' tk,s₂={s with heap:=h',toks:=tk}/\IsS4 h' s.heap.objs.size (acc val items.size) (!byT w)/\
     (∀b o,b<s.heap.objs.size->s.heap.get? b=some o->h'.get? b=some o)) E) PySem.F.called_set.init.plain PySem.F.entry_set_init (check_set_init_1 hT ?_)) fun r₂ s₂ hr₂=> ?_
   ·obtain⟨ol,hol,hcl,nl,hdl⟩:=hl;obtain⟨ocls,odict,odata,oslots⟩:=ol;simp only at hcl hdl;subst hcl;subst hdl;have hol':(s.heap.push (cL (fun _=>false) (fun _=> .none) (!byT w) 0)).get? l=some {cls:=.type "list",dict:=odict,data:=.seq items nl,slots:=oslots}:=zjX _ hol;have hsls:=PySem.F.sub_list_set;have hslf:=PySem.F.sub_list_frozenset;have hne:(Value.type "list" ==Value.type "dict")=false:=by decide
    have hl1:(s.heap.push (cL (fun _=>false) (fun _=> .none) (!byT w) 0)).IsList l items:=⟨_,hol',rfl,nl,rfl⟩;unfold Builtin.«set.__init__» noKeywords Builtin.Frozenset.updateFrom;generalize hPI:pyIter=PI
    wp_walk
    subst hPI;refine wpAny_pyIter_list hl1 ?_;refine zjZ (wpAny_runValue ?_);have hlS:l<s.heap.objs.size:=zjT hol;have hh3:A.in1.in1.in1.handled=none:=by simp [hh]
    have hneI:l≠(s.heap.push (cL (fun _=>false) (fun _=> .none) (!byT w) 0)).objs.size:=by rw [size_push];exact ne_of_lt (lt_succ_of_lt hlS)
    have hSf:s.heap.objs.size∉[(s.heap.push (cL (fun _=>false) (fun _=> .none) (!byT w) 0)).objs.size,l]:=by
     rw [size_push];intro hm;rcases mem_cons.mp hm with e|e
     ·exact absurd e (ne_of_lt (lt_succ_self _))
     ·exact absurd (mem_singleton.mp e) (ne_of_gt hlS)
    refine xZ ((Walks.list hh3 _ l hneI items).toS) s.heap.objs.size hSf val hv h4 (items.size - 0) 0 _ (by omega) (zero_le _) ⟨⟨_,get?_push_size _ rfl,rfl,rfl⟩,(hl1.push _)⟩ (show IsS4 _ _ (fun _=>false) (!byT w)from⟨fun _=> .none,0,(fun k _ z=>absurd z (by simp)),zjX _ hS⟩) ?_;intro s' hm hS';obtain⟨h',g',d',tk',os'⟩:=s';have eg:g'=s.gens:=hm.gens;have ed:d'=s.drawn:=hm.drawn;have eo:os'=s.os:=hm.os;subst eg;subst ed;subst eo;show wpAny _ _ _ _ _ _;refine zjY ?_;show wpAny _ _ (ret Value.none) _ _ _;refine zjY ⟨rfl,h',tk',rfl,hS',fun b o hb e=> ?_⟩;refine hm.heap b o (fun hmm=> ?_) (zjX _ (zjX _ e));rcases mem_cons.mp hmm with z|z
    ·exact ne_of_lt hb z
    ·rw [size_push]at z;exact ne_of_lt (lt_succ_of_lt hb) (mem_singleton.mp z)
   ·cases r₂ with
    |error e=>exact hr₂
    |ok fl₂=>
     cases fl₂ with
     |ret r=>
      obtain⟨rfl,h',tk,rfl,hS',hk'⟩:=hr₂
      repeat (any_goals (first|assumption|wp_step))
      exact h _ _ hS' hk'
     |_=>exact hr₂.elim
  |_=>exact hr.elim
end
theorem A2s:∀(l:List α)(i:Nat)(h:i<l.length),(l[i]::l.eraseIdx i).Perm l
 | [],i,h=>by simp at h
 |x::l,0,h=>List.Perm.refl _
 |x::l,i+1,h=>by
  have ih:=A2s l i (by simpa using h);show(l[i]'(by simpa using h)::x::l.eraseIdx i).Perm (x::l);exact(List.Perm.swap _ _ _).trans (ih.cons x)
theorem A0k (next:Nat->Nat):∀(fuel k:Nat)(left:List α)(out:Array α),left.length=fuel->(pickOrder.go next fuel k left out).toList.Perm (out.toList++left)
 |0,k,left,out,h=>by
  cases left with
  |nil=>unfold pickOrder.go;simp
  |cons _ _=>simp at h
 |fuel+1,k,left,out,h=>by
  have hl:next k%left.length<left.length:=mod_lt _ (by omega);unfold pickOrder.go;rw [getElem?_eq_getElem hl];have ih:=A0k next fuel (k+1) (left.eraseIdx (next k%left.length)) (out.push left[next k%left.length]) (by rw [List.length_eraseIdx_of_lt hl];omega);refine ih.trans ?_;rw [Array.toList_push,append_assoc];exact List.Perm.append_left _ (A2s _ _ hl)
theorem A8h (next:Nat->Nat)(xs:Array α):(pickOrder next xs).toList.Perm xs.toList:=by have:=A0k next xs.size 0 xs.toList #[] (by simp);unfold pickOrder;simpa using this
def slot (S:Nat->Bool)(i:Nat):Nat:=if i=0 then 0 else(aX S).getD (i - 1) 0+1
theorem B13 (S:Nat->Bool)(i:Nat)(hi:i<=(aX S).length):SetTable.below (aX S).toArray (slot S i)=i:=by
 have key:∀b0 b1 b2 b3:Bool,∀i,i<5->i<=(L b0 b1 b2 b3).length->SetTable.below (L b0 b1 b2 b3).toArray (if i=0 then 0 else(L b0 b1 b2 b3).getD (i - 1) 0+1)=i:=by decide +kernel
 have:=mP (S 0) (S 1) (S 2) (S 3);exact key (S 0) (S 1) (S 2) (S 3) i (by unfold aX at hi;omega) hi
def ord (w:World)(a:Addr)(S:Nat->Bool)(f:Nat->Value)(ep:Nat):List Value:=((if byT w=true then pickOrder (w.params.setOrder a ep) (ents (aX S) f)else ents (aX S) f).toList).map (·.2)
theorem xN (w:World)(a:Addr)(S:Nat->Bool)(f:Nat->Value)(ep:Nat):(ord w a S f ep).Perm ((aX S).map f):=by
 have e:(ents (aX S) f).toList.map (·.2)=(aX S).map f:=by simp [ents,Function.comp_def]
 unfold ord;by_cases h:byT w=true
 ·rw [if_pos h,←e];exact(A8h _ _).map _
 ·rw [if_neg h,e]
def nslot (w:World)(S:Nat->Bool)(i:Nat):Nat:=if byT w=true then 0 else slot S i
section
theorem yX (ho:s.heap.get? a=some (cL S f (!byT w) ep))(hi:i<=(aX S).length)(h:Q (((ord w a S f ep)[i]?).map fun v=>(v,nslot w S (i+1))) s):
  wpAny (model prog w) A (setNext a (nslot w S i) i ep) Q E s:=by
 have hd:(cL S f (!byT w) ep).data= .set (ents (aX S) f) ep (tab (aX S) (!byT w)):=rfl;have hf:=lR S (!byT w) f;unfold setNext setsByText;refine zjZ (wpAny_setState_of ho hd hf ?_);dsimp only
 refine zjZ (zjZ (wpAny_askSetting (zjY ?_)));show wpAny _ _ (if byT w=true then _ else _) _ _ _;unfold ord nslot at h;unfold nslot;by_cases hb:byT w=true
 ·rw [if_pos hb]at h⊢;rw [if_pos hb]at h;rw [if_pos hb];rw [if_neg (by simp)];refine zjZ ?_;unfold setWalk setsByText;refine zjZ ((wpAny_setState_of ho hd hf ?_));dsimp only
  refine zjZ (zjZ (wpAny_askSetting (zjY ?_)));show wpAny _ _ (if byT w=true then _ else _) _ _ _;rw [if_pos hb];refine zjZ (wpAny_askSetting (zjY ?_));refine zjY ?_;rw [getElem?_map,Array.getElem?_toList,Option.map_map]at h;exact h
 ·rw [if_neg hb]at h⊢;rw [if_neg hb]at h;rw [if_neg hb];have hb':byT w=false:=by simpa using hb
  show wpAny _ _ (if (!true&&decide ((ents (aX S) f).size>1))=true then _ else _) _ _ _;rw [if_neg (by simp)];show wpAny _ _ ((if (!(!byT w)&& !(ents (aX S) f).isEmpty)=true then unsupported "set:maker-not-led" else pure ())>>=_) _ _ _;rw [hb',if_neg (by simp)];refine zjZ (zjY (zjY ?_));show Q (match (ents (aX S) f)[SetTable.below (aX S).toArray (slot S i)]?,(aX S).toArray[SetTable.below (aX S).toArray (slot S i)]? with|some (_,x),some j=>some (x,j+1)|_,_=>none) s;rw [B13 S i hi];rw [getElem?_map,Array.getElem?_toList]at h;by_cases hl:i<(aX S).length
  ·have e1:(ents (aX S) f)[i]?=some (((aX S)[i]:Int),f (aX S)[i]):=by simp [ents,hl]
   have e2:(aX S).toArray[i]?=some (aX S)[i]:=by simp [hl]
   rw [e1]at h⊢;rw [e2];have e3:slot S (i+1)=(aX S)[i]+1:=by unfold slot;rw [if_neg (by omega)];simp [hl]
   rw [e3]at h;exact h
  ·have e1:(ents (aX S) f)[i]?=none:=by simp [ents];omega
   rw [e1]at h⊢;exact h
end
abbrev pK (h:Heap)(I a:Addr)(sl i n ep:Nat):Prop:=h.get? I=some {cls:=.type "set_iterator",dict:=none,data:=.fields #[.int sl 0,.int i 0,.ref a,.int n 0,.int ep 0],slots:=#[]}
theorem slot_next:Slot "set_iterator" "__next__" "set_iterator.__next__":=.of (owner:="set_iterator") (n:="__next__") (by rw [typeLookup_type,builtinLookup_eq_fast];kernel_rfl) (by decide +kernel) (by decide +kernel) (by decide +kernel) (by first|exact .inl (by decide +kernel)|exact .inr (by decide +kernel)) (by rw [isSubtype_type];kernel_rfl)
theorem A01:Slot "set_iterator" "__iter__" "set_iterator.__iter__":=.of (owner:="set_iterator") (n:="__iter__") (by rw [typeLookup_type,builtinLookup_eq_fast];kernel_rfl) (by decide +kernel) (by decide +kernel) (by decide +kernel) (by first|exact .inl (by decide +kernel)|exact .inr (by decide +kernel)) (by rw [isSubtype_type];kernel_rfl)
theorem xA:entryFor table "set_iterator.__next__" =some Builtin.«set_iterator.__next__»:=entryFor_of_tree (by kernel_rfl)
theorem A33:entryFor table "set_iterator.__iter__" =some Builtin.«dict_keyiterator.__iter__»:=entryFor_alias (id':="dict_keyiterator.__iter__") (by kernel_rfl) rfl (by decide +kernel) (by kernel_rfl)
theorem A5u:entryFor table "set.__iter__" =some Builtin.«frozenset.__iter__»:=entryFor_alias (id':="frozenset.__iter__") (by kernel_rfl) rfl (by decide +kernel) (by kernel_rfl)
theorem A3b (a:Value):argsOk "set_iterator.__next__" ⟨[a],[]⟩:=by unfold argsOk;kernel_rfl
theorem A6l (a:Value):argsOk "set_iterator.__iter__" ⟨[a],[]⟩:=by unfold argsOk;kernel_rfl
theorem oO (w:World)(a:Addr)(S:Nat->Bool)(f:Nat->Value)(ep:Nat):(ord w a S f ep).length=(aX S).length:=by rw [(xN w a S f ep).length_eq,length_map]
section
theorem B30 (ho:s.heap.get? a=some (cL S f (!byT w) ep))
  (h:Q (.ref s.heap.objs.size) {s with heap:=s.heap.push {cls:=.type "set_iterator",data:=.fields #[.int 0 0,.int 0 0,.ref a,.int (aX S).length 0,.int ep 0]}}):wpAny (model prog w) A (pyIter (.ref a)) Q E s:=by
 have hd:(cL S f (!byT w) ep).data= .set (ents (aX S) f) ep (tab (aX S) (!byT w)):=rfl;have hf:=lR S (!byT w) f;have hT:s.TypeIs (.ref a) "set":=⟨_,ho,rfl⟩;refine wpAny_pyIter_slot hT PySem.F.slot_set_iter (wpAny_call_entry PySem.F.slot_set_iter hT A5u ?_ (PySem.F.args_set_iter_1 _));unfold Builtin.«frozenset.__iter__»;refine zjZ (zjY ?_);unfold Builtin.Frozenset.sizeOf;refine zjZ (zjZ (wpAny_setEntries_of ho hd hf (zjY ?_)));refine zjZ ?_;unfold setDrawn setsByText;refine zjZ (wpAny_setState_of ho hd hf ?_);dsimp only
 refine zjZ (zjZ (wpAny_askSetting (zjY ?_)));refine zjY ?_;show wpAny _ _ (if (!byT w&&(!true&&decide ((ents (aX S) f).size>1)))=true then _ else _) _ _ _;rw [if_neg (by simp)];refine zjZ (zjY ?_);unfold setEpoch;refine zjZ (zjZ (wpAny_setState_of ho hd hf (zjY ?_)));unfold newFields;refine zjZ (wpAny_newObj_type (zjY ⟨_,rfl,"set_iterator",_,⟨_,get?_push_size _ rfl,rfl⟩,slot_next.lookup,?_⟩) (by simp [sizeOk,sizeLine_eq]));rw [lA];exact h
theorem A99 (hh:A.handled=none)(I a:Addr)(hne:a≠I)(S:Nat->Bool)(f:Nat->Value)(ep:Nat):
  Walks prog w A I [I,a] [I] (aX S).length (fun i v=>(ord w a S f ep)[i]?=some v) (fun i h=>pK h I a (nslot w S i) i (aX S).length ep/\h.get? a=some (cL S f (!byT w) ep))where
 sub:=fun b hb=>by simp at hb;simp [hb]
 frame:=fun _ _ _ st hk=> ⟨hk I (by simp) _ st.1,hk a (by simp) _ st.2⟩
 item:=fun i s Q E hi st hQ=>by
  obtain⟨hit,ho⟩:=st;have hd:(cL S f (!byT w) ep).data= .set (ents (aX S) f) ep (tab (aX S) (!byT w)):=rfl;have hf:=lR S (!byT w) f;have hT:s.TypeIs (.ref I) "set_iterator":=⟨_,hit,rfl⟩;have hlt:i<(ord w a S f ep).length:=by rw [oO];exact hi
  unfold pyNext;refine zjZ (wpAny_attempt (wpAny_callSpecial?_slot (name:=Str.ofString "__next__") hT slot_next (wpAny_call_entry slot_next hT xA ?_ (A3b _))));unfold Builtin.«set_iterator.__next__»;refine zjZ (zjY ?_);refine zjZ (wpAny_fieldsOf hit rfl ?_);refine zjZ (wpAny_setEntries_of ho hd hf ?_);rw [if_neg (by rw [lA];simp)];refine zjZ (yX (i:=i) (ep:=ep) ho (le_of_lt hi) ?_);rw [getElem?_eq_getElem hlt];refine zjZ (wpAny_setField_rec hit (by simp) fun h1 g1 s1=> ?_);refine zjZ (wpAny_setField_rec g1 (by simp) fun h2 g2 s2=> ?_);refine zjY ⟨_,rfl,zjY ?_⟩;refine hQ _ h2 s.toks (getElem?_eq_getElem hlt) ⟨?_,?_⟩ fun b o hb e=> ?_
  ·have e:((i+1:Nat):Int)=(i:Int)+1:=by omega
   unfold pK;rw [e];simpa [rawInt]using g2
  ·exact(s2.2 a hne).trans ((s1.2 a hne).trans ho)
  ·have:b≠I:=fun z=>hb (by simp [z]);exact(s2.2 b this).trans ((s1.2 b this).trans e)
 done:=fun s Q E st hQ=>by
  obtain⟨hit,ho⟩:=st;have hd:(cL S f (!byT w) ep).data= .set (ents (aX S) f) ep (tab (aX S) (!byT w)):=rfl;have hf:=lR S (!byT w) f;have hT:s.TypeIs (.ref I) "set_iterator":=⟨_,hit,rfl⟩;unfold pyNext;refine zjZ (wpAny_attempt (wpAny_callSpecial?_slot (name:=Str.ofString "__next__") hT slot_next (wpAny_call_entry slot_next hT xA ?_ (A3b _))));unfold Builtin.«set_iterator.__next__»;refine zjZ (zjY ?_);refine zjZ (wpAny_fieldsOf hit rfl ?_);refine zjZ (wpAny_setEntries_of ho hd hf ?_);rw [if_neg (by rw [lA];simp)];refine zjZ (yX (i:=(aX S).length) (ep:=ep) ho (zjQ _) ?_);rw [List.getElem?_eq_none (by rw [oO];exact zjQ _)];refine zjZ (wpAny_setField hit rfl (by simp) ?_);show wpAny _ _ (newExc (.type "StopIteration") []>>=_) _ _ _;refine zjZ ?_;simp only [newExc,newTuple];refine zjZ (wpAny_newObj_type ?_ (by size_fits));refine zjZ (m:=firstArgMember _ _) (wpAny_of_eq (a:=Value.none) (by first|rfl| (simp only [firstArgMember];rfl)) ?_);refine wpAny_newObj_type ?_ (by size_fits);simp only [raiseNew];refine zjZ (wpAny_handled ?_);rw [show A.in1.handled=none from hh];refine zjZ (zjY (wpAny_throw ?_));refine zjZ (wpAny_isInstance (T:="StopIteration") (b:=true) ⟨_,get?_push_size _ rfl,rfl⟩ isSubtype_stop ?_);have go:∀h':Heap,Heap.ExtBut I s.heap h'->Q none {s with heap:=h',toks:=s.toks}:=fun h' hx=>hQ h' s.toks fun b o hb e=>hx b o (fun z=>hb (by simp [z])) e;exact zjY (go _ (((Heap.SameBut.update ..).extBut.push _).push _))
 self:=fun i s Q E st hQ=>by
  have hT:s.TypeIs (.ref I) "set_iterator":=⟨_,st.1,rfl⟩;refine wpAny_pyIter_slot hT A01 (wpAny_call_entry A01 hT A33 ?_ (A6l _));show wpAny _ _ (ret (.ref I)) _ _ s;exact zjY ⟨_,rfl,"set_iterator",_,hT,slot_next.lookup,hQ⟩
end
section
theorem A4z (hT:s.TypeIs (.ref a) "set")(h:Q false s):wpAny (model prog w) A (Builtin.List.listLengthHint (.ref a)) Q E s:=by
 unfold Builtin.List.listLengthHint;refine zjZ (wpAny_specialOf hT PySem.F.slot_set_len.lookup ?_)
 show wpAny _ _ (do if !(←isInstance (.ref a) (.type "set"))then unsupported _ else pure ()
                    let .ref _←typeOf (.ref a)|return false
                    _) _ _ _
 refine zjZ (wpAny_isInstance hT sub_set_self ?_);simp only [Bool.not_true,Bool.false_eq_true,if_false];refine zjZ (wpAny_typeOf hT ?_);exact zjY h
theorem A85 (hh:A.handled=none)(ho:s.heap.get? a=some (cL S f (!byT w) ep))
  (h:∀h1 tk,(∀b o,s.heap.get? b=some o->h1.get? b=some o)->s.heap.objs.size<=h1.objs.size->Q (ord w a S f ep) {s with heap:=h1,toks:=tk}):wpAny (model prog w) A (collect (.ref a)) Q E s:=by
 have la:a<s.heap.objs.size:=zjT ho;unfold collect;refine zjZ (wpAny_runValue (codeAny_builtin PySem.F.entry_proto_collect ?_));rw [Around.under_plainId PySem.F.plain_proto_collect _];show wpAny _ A.in1 (newList []>>=fun l=>again (.builtin "list.__iadd__" ⟨[l,.ref a],[]⟩)) _ _ s;refine zjZ (wpAny_newObj_type (zjY ⟨plainId_quiet PySem.F.plain_list_iadd _,codeAny_builtin PySem.F.entry_list_iadd ?_⟩));rw [Around.under_plainId PySem.F.plain_list_iadd _];generalize hg1:s.heap.push {cls:=.type "list",data:=.seq ([]:List Value).toArray}=g1;have k1:∀b o,s.heap.get? b=some o->g1.get? b=some o:=fun b o e=>by rw [←hg1];exact zjX _ e
 have l1:g1.get? s.heap.objs.size=some {cls:=.type "list",data:=.seq #[]}:=by rw [←hg1];exact get?_push_size _ rfl
 have z1:g1.objs.size=s.heap.objs.size+1:=by rw [←hg1,size_push]
 have o1:=k1 _ _ ho;have hT1:Shared.TypeIs {s with heap:=g1} (.ref a) "set":=⟨_,o1,rfl⟩;have neA:s.heap.objs.size≠a:=ne_of_gt la;show wpAny _ A.in1 (Builtin.List.listExtendWith (.ref s.heap.objs.size) (.ref a) (.ref s.heap.objs.size)) _ _ {s with heap:=g1};unfold Builtin.List.listExtendWith;refine zjZ (wpAny_typeOf hT1 ?_);have e1:Builtin.List.listSameRef (.ref s.heap.objs.size) (.ref a)=false:=by simp [Builtin.List.listSameRef,neA]
 have e2:(Value.type "set" ==Value.type "list")=false:=by decide
 have e3:(Value.type "set" ==Value.type "tuple")=false:=by decide
 simp only [e1,e2,e3,Bool.or_false,Bool.false_eq_true,if_false];refine zjZ (B30 (s:={s with heap:=g1}) o1 ?_);generalize hg2:g1.push {cls:=.type "set_iterator",data:=.fields #[.int 0 0,.int 0 0,.ref a,.int (aX S).length 0,.int ep 0]}=g2;have k2:∀b o,g1.get? b=some o->g2.get? b=some o:=fun b o e=>by rw [←hg2];exact zjX _ e
 have i2:pK g2 g1.objs.size a 0 0 (aX S).length ep:=by rw [←hg2];exact get?_push_size _ rfl
 have z2:g2.objs.size=g1.objs.size+1:=by rw [←hg2,size_push]
 have o2:=k2 _ _ o1;refine zjZ (wpAny_holding (A4z (s:={s with heap:=g2}) ⟨_,o2,rfl⟩ ?_));show wpAny _ A.in1 (rule "list.extend.makes-room" >>=fun _=>Builtin.List.listTouch (.ref s.heap.objs.size)>>=fun _=>again (.builtin "list.extend.loop" ⟨[.ref s.heap.objs.size,.ref g1.objs.size,.ref s.heap.objs.size],[]⟩)) _ _ {s with heap:=g2};refine zjZ (wpAny_rule ?_);have l2:=k2 _ _ l1;refine zjZ ?_;show wpAny _ A.in1 (updateSeq s.heap.objs.size (·.push .none)>>=fun _=>updateSeq s.heap.objs.size (·.pop)) _ _ {s with heap:=g2};refine zjZ (wpAny_updateSeq l2 rfl ?_);have l3:=get?_update_self (Obj.mapSeq (·.push Value.none)) l2 rfl;refine wpAny_updateSeq l3 rfl ?_;have l4:=get?_update_self (Obj.mapSeq (·.pop)) l3 rfl;have k4:∀b o,b≠s.heap.objs.size->g2.get? b=some o->((g2.update s.heap.objs.size (Obj.mapSeq (·.push Value.none))).update s.heap.objs.size (Obj.mapSeq (·.pop))).get? b=some o:=
  fun b o hb e=>(get?_update_other _ _ (Ne.symm hb)).trans ((get?_update_other _ _ (Ne.symm hb)).trans e)
 have z4:((g2.update s.heap.objs.size (Obj.mapSeq (·.push Value.none))).update s.heap.objs.size (Obj.mapSeq (·.pop))).objs.size=s.heap.objs.size+2:=by rw [size_update,size_update,z2,z1]
 generalize (g2.update s.heap.objs.size (Obj.mapSeq (·.push Value.none))).update s.heap.objs.size (Obj.mapSeq (·.pop))=g4 at l4 k4 z4;have neI:a≠g1.objs.size:=by rw [z1];exact ne_of_lt (lt_succ_of_lt la)
 have neS:s.heap.objs.size∉[g1.objs.size,a]:=by
  rw [z1];intro hm;rcases mem_cons.mp hm with e|e
  ·exact absurd e (ne_of_lt (lt_succ_self _))
  ·exact neA (mem_singleton.mp e)
 have hh2:A.in1.handled=none:=by simp [hh]
 have i4:pK g4 g1.objs.size a (nslot w S 0) 0 (aX S).length ep:=by
  have:=k4 _ _ (by rw [z1];exact ne_of_gt (lt_succ_self _)) i2;have e:nslot w S 0=0:=by unfold nslot slot;split<;>rfl
  rw [e];exact this
 refine zjY ⟨plainId_quiet PySem.F.plain_extend_loop _,codeAny_extend_loopS ((A99 (prog:=prog) (w:=w) hh2 g1.objs.size a neI S f ep).toS) (by have:=mP (S 0) (S 1) (S 2) (S 3);show(L (S 0) (S 1) (S 2) (S 3)).length<=_;rw [sizeLine_eq];omega) s.heap.objs.size neS _ (aX S).length 0 {s with heap:=g4} _ _ rfl (zero_le _)
  ⟨i4,k4 _ _ neA.symm o2⟩ l4 (ItemsOf.nil _) fun s' acc' c' hm hS' hacc=> ?_⟩
 show wpAny _ A (load s.heap.objs.size>>=_) _ _ s';refine zjZ (wpAny_load hS' ?_);have eacc:acc'.toList=ord w a S f ep:=by
  refine List.ext_getElem? fun j=> ?_;rw [Array.getElem?_toList];by_cases hj:j<acc'.size
  ·rw [Array.getElem?_eq_getElem hj];exact(hacc.2 j acc'[j] (Array.getElem?_eq_getElem hj)).symm
  ·rw [Array.getElem?_eq_none (by omega),List.getElem?_eq_none (by rw [oO,←hacc.1];omega)]
 obtain⟨h',g',d',tk',os'⟩:=s';have eg:g'=s.gens:=hm.gens;have ed:d'=s.drawn:=hm.drawn;have eo:os'=s.os:=hm.os;subst eg;subst ed;subst eo;refine zjY ?_;show Q acc'.toList _;rw [eacc];have kk:∀b o,s.heap.get? b=some o->h'.get? b=some o:=fun b o e=>by
  have hb:=zjT e;refine hm.heap b o (fun hmm=> ?_) (k4 b o (ne_of_lt hb) (k2 _ _ (k1 _ _ e)));rcases mem_cons.mp hmm with z|z
  ·exact ne_of_lt hb z
  ·rw [z1]at z;exact ne_of_lt (lt_succ_of_lt hb) (mem_singleton.mp z)
 exact h h' tk' kk (le_of_lt (zjT hS'))
theorem B11 (S:Nat->Bool):((aX S).map fun k:Nat=>(k:Int)).Pairwise (· <= ·):=by unfold aX;cases S 0<;>cases S 1<;>cases S 2<;>cases S 3<;>decide
end
end Set4
namespace L2
open PySem PySem.Spec PyProof.Rows Srt Set4
def gQ (w:World)(a:Addr)(S:Nat->Bool):HO:=.ext fun h=>IsS4 h a S (!byT w)
section
theorem A8v (hc:X.calm=true):dW X (.type "set") (fun xs H Q=> ∃(p:Addr)(ns:List Nat),xs=[.ref p]/\SqL X.K H p (ns.map fun n:Nat=>V.int (n:Int))/\(∀n∈ns,n<4)/\∀l,H l=none->Q (.ref l) (upd H l (gQ X.w l fun k=>decide (k∈ns)))):=by
 intro pins s σ H xs us Q I r h;obtain⟨p,ns,rfl,hq,h4,q⟩:=h;obtain⟨u,rfl,rx⟩:=eI r;cases rx;obtain⟨its,rv,pl,hz⟩:=I.list hq;have hl:=rv.length;rw [length_map]at hl;have hval:∀(i:Nat)(v:Value),its.toArray[i]?=some v->∃t,v= .int ((ns.getD i 0:Nat):Int) t:=fun i v e=>by
  have e':its[i]?=some v:=by simpa using e
  have hi:i<ns.length:=by rw [hl];exact(zjW.mp e').1
  obtain⟨u,hu,ru⟩:=rv.get (i:=i) (x:=V.int ((ns[i]:Nat):Int)) (by rw [getElem?_map,getElem?_eq_getElem hi];rfl);rw [e']at hu;cases hu;rw [show ns.getD i 0=ns[i] by simp [hi]];exact ru
 refine A78 (I.ok.hd hc) pl.isList (val:=fun i=>ns.getD i 0) hval (fun i hi=> ?_) fun h' tk hS hk=> ?_
 ·have hi':i<ns.length:=by rw [hl];simpa using hi
  show ns.getD i 0<4;rw [show ns.getD i 0=ns[i] by simp [hi']];exact h4 _ (getElem_mem _)
 ·have eS:acc (fun i=>ns.getD i 0) its.toArray.size=fun k=>decide (k∈ns):=funext fun k=>by
   rw [Bool.eq_iff_iff,qE,decide_eq_true_eq,size_toArray,←hl];constructor
   ·rintro⟨j,hj,e⟩;have e':ns.getD j 0=k:=e;rw [show ns.getD j 0=ns[j] by simp [hj]]at e';rw [←e'];exact getElem_mem _
   ·intro hm;obtain⟨j,hj,e⟩:=getElem_of_mem hm;exact⟨j,hj,by show ns.getD j 0=k;rw [show ns.getD j 0=ns[j] by simp [hj]];exact e⟩
  rw [eS]at hS;obtain⟨f,ep,hf,ho⟩:=id hS;exact⟨.ref s.heap.objs.size,_,I.laid (t':=tk) (fun b o q=>hk b o (zjT q) q) (zjQ _) (o:=gQ X.w _ _) ⟨hS,⟨_,ho⟩,fun h1 h2 x e=>x.at e⟩,rfl,q _ (I.hok.fresh (zjQ _))⟩
theorem A03:∀{ns:List Int}{us:List Value},us.map numOf=ns->(∀u∈us,∃n t,u= .int n t)->Vals (ns.map V.int) us
 |_,[],rfl,_=> .nil
 |_,u::us,rfl,h=>by
  obtain⟨n,t,rfl⟩:=h u zjR;exact .cons ⟨t,rfl⟩ (A03 rfl fun v hv=>h v (zjS _ hv))
theorem yW (hc:X.calm=true):dW X (.builtin "sorted") (fun xs H Q=> ∃(p:Addr)(S:Nat->Bool),xs=[.ref p]/\H p=some (gQ X.w p S)/\∀l,H l=none->Q (.ref l) (upd H l (.lst ((aX S).map fun k:Nat=>V.int (k:Int))))):=by
 intro pins s σ H xs us Q I r h;obtain⟨p,S,rfl,hp,q⟩:=h;obtain⟨u,rfl,rx⟩:=eI r;cases rx;obtain⟨⟨f,ep,hf,ho⟩,_,_⟩:=(show ObjOk X.prog X.w H s.heap p (gQ X.w p S)from I.hok _ _ hp);have hperm:=xN X.w p S f ep;have hlen:=oO X.w p S f ep;have h4:(aX S).length<=4:=mP (S 0) (S 1) (S 2) (S 3);have hint:∀v∈ord X.w p S f ep,∃n t,v= .int n t:=fun v hv=>by
  obtain⟨k,hk,rfl⟩:=mem_map.mp (hperm.mem_iff.mp hv);obtain⟨a,b⟩:=mem_mem4.mp hk;obtain⟨t,e⟩:=hf k a b;exact⟨_,t,e⟩
 generalize hvs:ord X.w p S f ep=vs at hperm hlen hint;have hnum:(vs.map numOf).Perm ((aX S).map fun k:Nat=>(k:Int)):=by
  refine(hperm.map numOf).trans (List.Perm.of_eq ?_);rw [map_map];refine map_congr_left fun k hk=> ?_;obtain⟨a,b⟩:=mem_mem4.mp hk;obtain⟨t,e⟩:=hf k a b;show numOf (f k)=_;rw [e];rfl
 have hI:IntsAre vs (vs.map numOf):=intsAre_map vs hint;refine A1c (κ:=oneType') (r:=fun i=>numOf (vs.getD i Value.none)) (vs:=vs) (by omega) (fun Q' k=>A85 (by simp [I.ok.hd hc]) ho fun h1 tk k1 z1=>by rw [hvs];exact k h1 tk k1 z1) (fun h1 tk k1 h2=> ⟨fun Q2 q2=> ?_,fun i j C hi hj hC=> ?_⟩) fun D h' tk c pp hD hpm hu o' k'=> ?_
 ·obtain⟨v1,v2,rest,e⟩:∃v1 v2 rest,vs=v1::v2::rest:=by
   match vs,h2 with
   |v1::v2::rest,_=>exact⟨v1,v2,rest,rfl⟩
  subst e;rw [keyKind_ints hI];exact zjY q2
 ·show wpAny _ _ (keyLt' oneType' (vs.getD i Value.none) (vs.getD j Value.none)) C (fun _ _=>False) _;obtain⟨n,t,e⟩:=hint _ (getElem_mem hi);obtain⟨n2,t2,e2⟩:=hint _ (getElem_mem hj);have ei:vs.getD i Value.none= .int n t:=by rw [←e];simp [hi]
  have ej:vs.getD j Value.none= .int n2 t2:=by rw [←e2];simp [hj]
  have hC':C (decide (n<n2)) {s with heap:=h1,toks:=tk}:=by
   have z:decide ((fun i=>numOf (vs.getD i Value.none)) i<(fun i=>numOf (vs.getD i Value.none)) j)=decide (n<n2):=by
    refine decide_eq_decide.mpr ?_;show numOf (vs.getD i Value.none)<numOf (vs.getD j Value.none)↔_;rw [ei,ej];exact Iff.rfl
   rw [z]at hC;exact hC
  rw [ei,ej];exact W.kat_lt_int hC'
 ·have pperm:=Array.perm_iff_toList_perm.mp hpm;have outp:(pp.toList.map fun i=>vs.getD i Value.none).Perm vs:=by
   refine(pperm.map fun i=>vs.getD i Value.none).trans (List.Perm.of_eq ?_);exact A0m vs
  have hup:((pp.toList.map fun i=>vs.getD i Value.none).map numOf).Pairwise (· <= ·):=by
   rw [map_map,pairwise_map,pairwise_iff_getElem];intro i j hi hj hij;have hsz:pp.toList.length=vs.length:=by rw [Array.length_toList,hpm.size]
   have h1:=hu i j (by omega) (by omega);have e:∀k (hk:k<pp.toList.length),at' pp k=pp.toList[k]:=fun k hk=>by
    have:k<pp.size:=by simpa using hk
    unfold at';simp [Array.getD,this]
   unfold R at h1;rw [e i hi,e j hj]at h1;exact h1
  have eout:(pp.toList.map fun i=>vs.getD i Value.none).map numOf=(aX S).map fun k:Nat=>(k:Int):=W.ksm_same ((outp.map numOf).trans hnum) hup (B11 S);have hv:Vals (((aX S).map fun k:Nat=>(k:Int)).map V.int) (pp.toList.map fun i=>vs.getD i Value.none):=A03 eout fun u hu'=>hint u (outp.mem_iff.mp hu');rw [map_map]at hv;exact⟨.ref D,_,I.laid (t':=tk) (o:=.lst ((aX S).map fun k:Nat=>V.int (k:Int))) k' hD ⟨by rw [length_map,sizeLine_eq];omega,_,c,hv,o'⟩,rfl,q _ (I.hok.fresh hD)⟩
end
end L2
namespace L2
open PySem PySem.Spec PyProof.Rows
section
theorem xL (hc:X.calm=true):dW X (.builtin "sum") (fun xs H Q=> ∃(p:Addr)(ns:List Int),xs=[.ref p]/\SqL X.K H p (ns.map V.int)/\ns.length<=1000/\(∀n∈ns,-10000<=n/\n<=10000)/\Q (.int ns.sum) H):=by
 intro pins s σ H xs us Q I r h;obtain⟨p,ns,rfl,hq,hl,hn,q⟩:=h;obtain⟨u,rfl,rx⟩:=eI r;cases rx;obtain⟨its,rv,pl,hz⟩:=I.list hq;have hlen:=rv.length;rw [length_map]at hlen;have hlt:p<s.heap.objs.size:=by obtain⟨_,e,_⟩:=pl.isList;exact zjT e
 have long:∀z:Int,-10000000<=z->z<=10000000->InLong z:=fun z h1 h2=>by unfold InLong;omega
 refine call_sum_walk (wpAny_pyIter_list pl.isList ?_);refine⟨s.heap.objs.size,[s.heap.objs.size,p],[s.heap.objs.size],its.toArray.size,_,_,fun i=>(ns[i]?).getD 0,rfl,Walks.list (A:=X.A.in1) (by simp [I.ok.hd hc]) _ p (ne_of_lt hlt) its.toArray,⟨⟨_,get?_push_size _ rfl,rfl,rfl⟩,pl.isList.push _⟩,fun b hb=> ?_,fun i v hP=> ?_,fun j hj=> ?_,fun h' tk t' hk=> ?_⟩
 ·show b<(s.heap.push _).objs.size;rw [size_push];rcases mem_cons.mp hb with z|z
  ·rw [z];exact lt_succ_self _
  ·rw [mem_singleton.mp z];exact lt_succ_of_lt hlt
 ·have hP':its[i]?=some v:=by simpa using hP
  have hi:i<ns.length:=by rw [hlen];exact(zjW.mp hP').1
  obtain⟨u,hu,ru⟩:=rv.get (i:=i) (x:=.int ns[i]) (by rw [getElem?_map];simp [hi]);rw [hP']at hu;cases hu;obtain⟨t,rfl⟩:=ru;exact⟨t,by simp [hi]⟩
 ·have hj':j<ns.length:=by rw [size_toArray]at hj;omega
  refine⟨?_,?_⟩
  ·have:=hn ns[j] (getElem_mem hj');have e:(ns[j]?).getD 0=ns[j]:=by simp [hj']
   show InLong ((ns[j]?).getD 0);rw [e];exact long _ (by omega) (by omega)
  ·rw [lS];have:=qL (B:=10000) (by decide) (ns:=ns.take (j+1)) fun n h=>hn n (mem_of_mem_take h);have h2:(ns.take (j+1)).length<=1000:=by rw [length_take];omega
   exact long _ (by omega) (by omega)
 ·have e:preSum (fun i=>(ns[i]?).getD 0) its.toArray.size=ns.sum:=by
   rw [lS,size_toArray,←hlen,take_of_length_le (zjQ _)]
  rw [e];exact⟨.int _,H,I.kept (h':=h') (t':=tk) (LSm.kept_iter hk),⟨_,rfl⟩,q⟩
end
end L2
namespace M10
open PySem L2 PyProof.Rows
structure TxC (mg:Str->Option Value):Prop where
 isinstance:mg "isinstance" =none
 int:mg "int" =none
 bool:mg "bool" =none
 tuple:mg "tuple" =none
 len:mg "len" =none
 all:mg "all" =none
 any:mg "any" =none
 zip:mg "zip" =none
 range:mg "range" =none
 sum:mg "sum" =none
 list:mg "list" =none
 set:mg "set" =none
 sorted:mg "sorted" =none
 sorts:∃t,mg "MOST_SORTS" =some (.int 6 t)
 counted:∃t,mg "MOST_COUNTED" =some (.int 100 t)
 holders:∃t,mg "MOST_HOLDERS" =some (.int 4 t)
 rights:∃t,mg "MOST_RIGHTS" =some (.int 20 t)
 claims:∃t,mg "MOST_CLAIMS" =some (.int 12 t)
def A20:Sp:=fun vs H Q _=> ∃l ps prs,vs=[.ref l]/\H l=some (.lst (ps.map V.ref))/\PlAt H ps prs/\1<=prs.length/\prs.length<=100/\(prs.Pairwise fun a b=>lt2 a b=true)/\∀H',Same H H'->Q (.bl true) H'
def rW:Sp:=fun vs H Q _=> ∃a cs,vs=[.ref a]/\fQ H a cs/\fT cs/\∀H',Same H H'->Q (.bl true) H'
def A2d:Sp:=fun vs H Q _=> ∃(b:Addr)(c:C3),vs=[.ref b]/\H b=some (.tup [.int c.1,.int c.2.1,.int c.2.2])/\((0<=c.1/\c.1<=3)/\(0<=c.2.1/\c.2.1<=5)/\1<=c.2.2/\c.2.2<=20)/\Q (.bl true) H
def tJ:Sp:=fun vs H Q _=> ∃a cl,vs=[.ref a]/\ClT H a cl/\fL cl/\∀H',Same H H'->Q (.bl true) H'
def yC:Sp:=fun vs H Q _=> ∃a cs,vs=[.ref a]/\fQ H a cs/\fT cs/\∀H',Same H H'->Q .non H'
def rV:Sp:=fun vs H Q _=> ∃a cl,vs=[.ref a]/\ClT H a cl/\fL cl/\∀H',Same H H'->Q .non H'
section
variable {P:Program}{w:World}{K:W.Frag}{mg:Str->Option Value}{base:Heap}
theorem A4t (ps:List Addr)(h:1<=ps.length):cC (ps.map V.ref) (some 1) none=(ps.drop 1).map V.ref:=by have e1:HT.sIx (ps.map V.ref).length 0 (some 1)=min 1 (ps.map V.ref).length:=HT.sIx_nat _ _ 1;have e2:HT.sIx (ps.map V.ref).length (ps.map V.ref).length none=(ps.map V.ref).length:=rfl;unfold cC;rw [e1,e2,length_map,show min 1 ps.length=1 by omega,take_of_length_le (by rw [length_drop,length_map];omega),map_drop]
theorem PlAt.get2:∀{ps:List Addr}{cs:List (Int×Int)}{i:Nat}{p:Addr},PlAt H ps cs->ps[i]?=some p->∃c,cs[i]?=some c/\H p=some (.tup [.int c.1,.int c.2])
 |_,_,0,_,.cons r _,h=>by cases h;exact⟨_,rfl,r⟩
 |_,_,i+1,_,.cons _ t,h=>PlAt.get2 (i:=i) t (by simpa using h)
theorem B27 (F:D1 K mg "is_rising" kG ["things"])(T:TxC mg):A1 P w K mg base 1 "is_rising" A20:=by
 refine F.k ["things"] ?_;ac_nf
 ·obtain⟨l,ps,prs,rfl,hl,hP,h1,h100,hup,q⟩:=h;have hlen:ps.length=prs.length:=Paired.length hP;refine⟨_,aR (aY (bE (fU rfl) rfl T.all boot_all (cJ (bM (bD kG).names ["things"] ["one","other"] [] rfl (lX vX rfl T.zip (aB (pv 0) (dZ (eQ mU (pv 0) (eJ aM) fD) aA))) rfl rfl rfl (by decide +kernel)
   (fun Z=>bU rfl (aW (nm1 0 lK) (aW (nm1 1 lK) bT))) (fun Z=>cA) (fun Z=>cW (A16 (lt_of_succ_lt (pE hr))) (pv 0) (pv 1) (nomark _))) aA))),?_⟩
  refine⟨_,rfl,_,rfl,_,rfl,l,_,rfl,SqL.of hl,fun t ht=> ?_⟩;rw [A4t ps (by omega)];have s1:=aG (o:=.lst ((ps.drop 1).map V.ref)) ht;refine⟨l,t,ps.map V.ref,(ps.drop 1).map V.ref,rfl,SqL.of (s1 _ _ hl),SqL.of aD,fun Z r hr'=> ?_⟩;have sH:Same H (upd H t (.lst ((ps.drop 1).map V.ref))):=s1;refine oC (xs:=ps.map V.ref) (ys:=(ps.drop 1).map V.ref) (by rw [length_map,length_map,length_drop];omega) (fun i σ H'=>σ.length=2/\Same (upd H t (.lst ((ps.drop 1).map V.ref))) H'/\H' r=some (.lst (((ps.drop 1).take i).map fun _=>V.bl true))) ⟨rfl,aG hr',by rw [aD];rfl⟩
   (fun i σ H' h=> ⟨SqL.of (h.2.1 _ _ (s1 _ _ hl)),SqL.of (h.2.1 _ _ aD)⟩) ?_ ?_
  ·rintro i x y p3 σ H' hx hy ⟨hσ,hs,hl'⟩ hp3
   match σ,hσ with
   | [x0,x1],_=>
   rw [getElem?_map]at hx hy;cases hb:ps[i]? with
   |none=>rw [hb]at hx;cases hx
   |some b=>
   cases hb2:(ps.drop 1)[i]? with
   |none=>rw [hb2]at hy;cases hy
   |some b2=>
   rw [hb]at hx;cases hx;rw [hb2]at hy;cases hy;have hb2':ps[i+1]?=some b2:=by rw [getElem?_drop]at hb2;rw [show i+1=1+i by omega];exact hb2
   obtain⟨c,hc,he⟩:=PlAt.get2 hP hb;obtain⟨c2,hc2,he2⟩:=PlAt.get2 hP hb2';have s3:=aG (o:=.tup [.ref b,.ref b2]) hp3;refine⟨p3,_,rfl,SqT.of aD,rfl,_,_,rfl,_,_,rfl,rfl,?_⟩;refine gZ ?_;refine⟨_,rfl,_,rfl,b,b2,[c.1,c.2],[c2.1,c2.2],rfl,rfl,SqT.of (s3 _ _ (hs _ _ (s1 _ _ he))),SqT.of (s3 _ _ (hs _ _ (s1 _ _ he2))),?_⟩;have hlt:HT.lexLt [c.1,c.2] [c2.1,c2.2]=true:=by
    obtain⟨g1,e1⟩:=zjW.mp hc;obtain⟨g2,e2⟩:=zjW.mp hc2;have:=pairwise_iff_getElem.mp hup i (i+1) g1 g2 (by omega);rw [e1,e2]at this;exact this
   rw [hlt];have hi:i<(ps.drop 1).length:=(zjW.mp hb2).1;rw [length_drop]at hi;refine⟨_,s3 _ _ hl',cM (by rw [length_map,length_take];omega),rfl,fun b' u e'=> ?_,?_⟩
   ·rw [aV (bL e' hr')];exact s3 _ _ (hs _ _ e')
   ·rw [aD,take_succ,hb2,map_append];rfl
  ·rintro σ H' ⟨_,hs,hl'⟩;rw [length_map,take_of_length_le (zjQ _)]at hl';refine⟨r,(ps.drop 1).map fun _=>true,rfl,SqL.of (by rw [hl',map_map];rfl),?_⟩;rw [show((ps.drop 1).map fun _=>true).all id=true by rw [all_map];exact all_eq_true.mpr fun _ _=>rfl];exact q H' (s1.trans hs)
theorem B21 (F:D1 K mg "is_custom" sE ["thing"])(T:TxC mg)(a1:A1 P w K mg base 1 "is_tuple_within" iW)(a2:A1 P w K mg base 2 "is_number_within" mF):A1 P w K mg base 3 "is_custom" rW:=by
 obtain⟨t1,mS⟩:=T.sorts;obtain⟨t2,mC⟩:=T.counted;refine F.k ["thing"] ?_;ac_nf
 ·obtain⟨a,cs,rfl,ha,G,q⟩:=h;have ha':H a=some (.tup (cs.map V.int)):=ha;have hz:(cs.map V.int).length<=1000:=by rw [length_map];have:=G.l6;omega
  have kn:Kn H 2 (.ref a):=KnA.tup ha' hz (fun x hx=>by obtain⟨i,_,rfl⟩:=mem_map.mp hx;exact KnA.int i) 2;refine⟨_,aU (bR (cE (bN (a1.c hr (bC (pv 0) (bC aM (bC (fN (v:=.int 6) rfl mS ⟨_,rfl⟩) aA)))))) iB bQ)
   (aR (aY (bE (fU rfl) rfl T.all boot_all (bC (bM (bD sE).names ["thing"] ["counted"] [] rfl (cP (pv 0)) rfl rfl rfl (by decide +kernel)
    (fun Z=>aJ (i:=0) (show(["counted"]:List Str).Nodup by decide +kernel) rfl (Or.inl rfl)) (fun Z=>cA)
    (fun Z=>a2.c hr (bC (pv 0) (bC aM (bC (fN (v:=.int 100) rfl mC ⟨_,rfl⟩) aA))))) aA)))),?_⟩
  refine⟨_,rfl,_,1,6,rfl,kn.le (by decide),_,rfl,?_⟩;have ht:dX H 1 6 (.ref a)=true:=by
   unfold dX;rw [iF ha'];have h1:=G.l1;have h6:=G.l6;simp only [length_map,Bool.and_eq_true,decide_eq_true_eq];omega
  rw [ht];refine bX ?_;refine⟨_,rfl,a,rfl,⟨_,SqT.of ha'⟩,fun Z l hl=> ?_⟩;refine jC (fun x=> .bl (cS 1 100 x)) ha' hl hz (fun x H' Q' hm hs hq=> ?_) fun σ H' hs hl'=> ?_
  ·obtain⟨i,_,rfl⟩:=mem_map.mp hm;exact⟨_,rfl,_,1,100,rfl,KnA.int i 1,hq _ (Same.refl _)⟩
  ·refine⟨l,(cs.map V.int).map (cS 1 100),rfl,SqL.of (by rw [hl'];simp only [map_map];rfl),?_⟩;have:((cs.map V.int).map (cS 1 100)).all id=true:=by
    rw [all_map,all_map,all_eq_true];intro i hi;have:=G.num i hi;show(decide (1<=i)&&decide (i<=100))=true;simp only [Bool.and_eq_true,decide_eq_true_eq];exact this
   rw [this];exact q H' hs
theorem pW {lo hi i:Int}(h1:lo<=i)(h2:i<=hi):cS lo hi (.int i)=true:=by simp [cS,h1,h2]
theorem A9d (F:D1 K mg "is_claim" A1l ["thing"])(T:TxC mg)(a1:A1 P w K mg base 1 "is_tuple_within" iW)(a2:A1 P w K mg base 2 "is_number_within" mF):A1 P w K mg base 3 "is_claim" A2d:=by
 obtain⟨t1,mS⟩:=T.sorts;obtain⟨t2,mH⟩:=T.holders;obtain⟨t3,mR⟩:=T.rights;refine F.k ["thing","holder","sort","many"] ?_;ac_nf
 ·obtain⟨b,c,rfl,hb,⟨n1,n2,n3⟩,q⟩:=h;have kn:Kn H 1 (.ref b):=.inr (.inr ⟨_,hb,by show 3<=1000;decide,fun x _=>True.intro⟩);refine⟨_,aU (bR (cE (bN (a1.c hr (bC (pv 0) (bC aM (bC aM aA)))))) iB bQ)<|
   aU (dP (pv 0) (bU rfl (aW (nm1 1 nd) (aW (nm1 2 nd) (aW (nm1 3 nd) bT)))))<|
   aU (bR (PW.pt (fS (cE (bN (a2.c hr (bC (pv 1) (bC aM (bC (bB gU (fN (v:=.int 4) rfl mH ⟨_,rfl⟩) aM) aA))))))
    (iA (cE (bN (a2.c hr (bC (pv 2) (bC aM (bC (bB gU (fN (v:=.int 6) rfl mS ⟨_,rfl⟩) aM) aA))))))))) iB bQ)<|
   aR (aY (a2.c hr (bC (pv 3) (bC aM (bC (fN (v:=.int 20) rfl mR ⟨_,rfl⟩) aA))))),?_⟩
  refine⟨_,rfl,_,3,3,rfl,kn,_,rfl,?_⟩;have ht:dX H 3 3 (.ref b)=true:=by unfold dX;rw [iF hb];rfl
  rw [ht];refine bX ?_;refine⟨_,rfl,b,_,rfl,SqT.of hb,rfl,_,_,rfl,_,_,rfl,_,_,rfl,rfl,?_⟩;refine⟨_,rfl,_,_,rfl,rfl,_,0,3,rfl,KnA.int _ 1,_,rfl,?_⟩;rw [pW n1.1 n1.2];refine bX ?_;refine⟨_,rfl,_,_,rfl,rfl,_,0,5,rfl,KnA.int _ 1,_,rfl,?_⟩;rw [pW n2.1 n2.2];refine bX ?_;refine⟨_,rfl,_,1,20,rfl,KnA.int _ 1,?_⟩;rw [pW n3.1 n3.2];exact q
end
end M10
namespace M10
open PySem L2 PyProof.Rows Set4 Grd Wlk Cyc Srt
def eN (cl:List C3)(i:Int):Bool:=cl.any fun c=>decide (c.1=i)
def holdS (cl:List C3):Nat->Bool:=fun k=>eN cl (k:Int)
def tO:Sp:=fun vs H Q _=> ∃c a cs cl,vs=[.ref c,.ref a]/\fQ H c cs/\ClT H a cl/\cl.length<=12/\jN cs cl/\∀H',Same H H'->Q (.bl true) H'
def xQ:Sp:=fun vs H Q _=> ∃c a cs cl,vs=[.ref c,.ref a]/\fQ H c cs/\fT cs/\ClT H a cl/\fL cl/\jN cs cl/\∀H',Same H H'->Q .non H'
def dL (cl:List C3):V->Bool| .int i=>eN cl i|_=>false
def oP:Sp:=fun vs H Q _=> ∃a cl u,vs=[.ref a,u]/\ClT H a cl/\cl.length<=12/\Kn H 1 u/\∀H',Same H H'->Q (.bl (dL cl u)) H'
def uN:Sp:=fun vs H Q _=> ∃a cl i,vs=[.ref a,.int i]/\ClT H a cl/\cl.length<=12/\eN cl i=true/\∀H',Same H H'->Q .non H'
def jO:Sp:=fun vs H Q _=> ∃a cl,vs=[.ref a]/\ClT H a cl/\fL cl/\∀l H',H l=none->Same H H'->H' l=some (.lst ((aX (holdS cl)).map fun k:Nat=>V.int (k:Int)))->Q (.ref l) H'
theorem ClT.kn (h:ClT H a cl)(hz:cl.length<=12)(n:Nat):Kn H n (.ref a):=by obtain⟨bs,h1,h2⟩:=h;have hl:bs.length=cl.length:=Paired.length h2;refine KnA.tup h1 (by rw [length_map];omega) (fun x hx=> ?_) n;obtain⟨b,hb,rfl⟩:=mem_map.mp hx;obtain⟨i,hi⟩:=List.getElem?_of_mem hb;obtain⟨c,hc,he⟩:=h2.get hi;refine KnA.tup he (by show 3<=1000;decide) fun y hy=> ?_;simp only [mem_cons,not_mem_nil,or_false]at hy;rcases hy with rfl|rfl|rfl<;>exact KnA.int _
section
variable {P:Program}{w:World}{K:W.Frag}{mg:Str->Option Value}{base:Heap}
theorem nd3:(["holder","sort","many"]:List Str).Nodup:=by decide +kernel
theorem A89 (F:D1 K mg "are_claims" oB ["thing"])(T:TxC mg)(a1:A1 P w K mg base 1 "is_tuple_within" iW)(a2:A1 P w K mg base 3 "is_claim" A2d)(a3:A1 P w K mg base 1 "is_rising" A20):A1 P w K mg base 4 "are_claims" tJ:=by
 obtain⟨t1,mC⟩:=T.claims;refine F.k ["thing"] ?_;ac_nf
 ·obtain⟨a,cl,rfl,hA,G,q⟩:=h;have kn:=ClT.kn hA G.l12 1;obtain⟨bs,ha,hC⟩:=hA;have hl:bs.length=cl.length:=Paired.length hC;have hz:(bs.map V.ref).length<=1000:=by rw [length_map];have:=G.l12;omega
  refine⟨_,aU (bR (PW.pt (fS (cE (bN (a1.c hr (bC (pv 0) (bC aM (bC (fN (v:=.int 12) rfl mC ⟨_,rfl⟩) aA))))))
    (iA (cE (bN (bE (fU rfl) rfl T.all boot_all (bC (bM (bD oB).names ["thing"] ["claim"] [] rfl (cP (pv 0)) rfl rfl rfl (by decide +kernel)
     (fun Z=>aJ (i:=0) (show(["claim"]:List Str).Nodup by decide +kernel) rfl (Or.inl rfl)) (fun Z=>cA) (fun Z=>a2.c hr (bC (pv 0) aA))) aA))))))) iB bQ)<|
   aR (aY (a3.c hr (cJ (bM (bD oB).names ["thing"] ["holder","sort","many"] [] rfl (cP (pv 0)) rfl rfl rfl (by decide +kernel)
     (fun Z=>bU rfl (aW (nm1 0 nd3) (aW (nm1 1 nd3) (aW (nm1 2 nd3) bT)))) (fun Z=>cA) (fun Z=>cD (bC (pv 0) (bC (pv 1) aA)))) aA))),?_⟩
  refine⟨_,rfl,_,1,12,rfl,kn,_,rfl,?_⟩;have ht:dX H 1 12 (.ref a)=true:=by
   unfold dX;rw [iF ha];have h1:=G.l1;have h6:=G.l12;simp only [length_map,Bool.and_eq_true,decide_eq_true_eq];omega
  rw [ht];refine bX ?_;refine⟨_,rfl,a,rfl,⟨_,SqT.of ha⟩,fun Z l hl'=> ?_⟩;refine jC (fun _=> .bl true) ha hl' hz (fun x H' Q' hm hs hq=> ?_) fun σ H1 hs1 hl1=> ?_
  ·obtain⟨b,hb,rfl⟩:=mem_map.mp hm;obtain⟨i,hi⟩:=List.getElem?_of_mem hb;obtain⟨c,hc,he⟩:=hC.get hi;exact⟨_,rfl,b,c,rfl,hs _ _ he,G.num c (mem_of_getElem? hc),hq _ (Same.refl _)⟩
  ·refine⟨l,(bs.map V.ref).map fun _=>true,rfl,SqL.of (by rw [hl1];simp only [map_map];rfl),_,rfl,?_⟩;rw [show((bs.map V.ref).map fun _=>true).all id=true by rw [all_map];exact all_eq_true.mpr fun _ _=>rfl];refine bX ?_;refine⟨_,rfl,a,rfl,⟨_,SqT.of (hs1 _ _ ha)⟩,fun Z2 l2 hl2=> ?_⟩;refine A8g iV (fun H' hs=>SqT.of (hs _ _ (hs1 _ _ ha))) (hC.ext hs1.ext) hl2 (by have:=G.l12;omega) fun σ H2 ps hs2 hl2' hP=> ?_;have hpl:=Paired.length hP;rw [length_map]at hpl;refine⟨l2,ps,_,rfl,hl2',hP,by rw [length_map];exact G.l1,by rw [length_map];have:=G.l12;omega,G.up,fun H3 hs3=>q H3 ((hs1.trans hs2).trans hs3)⟩
theorem A5y (F:D1 K mg "check_custom" wG ["custom"])(a1:A1 P w K mg base 3 "is_custom" rW):A1 P w K mg base 4 "check_custom" yC:=by
 refine F.k ["custom"] ?_;ac_nf
 ·obtain⟨a,cs,rfl,hA,G,q⟩:=h;refine⟨_,aR (bR (cE (bN (a1.c hr (aB (pv 0) aA)))) iB bQ),?_⟩;exact⟨_,rfl,a,cs,rfl,hA,G,fun H' hs=> ⟨_,rfl,bX (q H' hs)⟩⟩
theorem B07 (F:D1 K mg "check_claims" A1m ["claims"])(a1:A1 P w K mg base 4 "are_claims" tJ):A1 P w K mg base 5 "check_claims" rV:=by
 refine F.k ["claims"] ?_;ac_nf
 ·obtain⟨a,cl,rfl,hA,G,q⟩:=h;refine⟨_,aR (bR (cE (bN (a1.c hr (aB (pv 0) aA)))) iB bQ),?_⟩;exact⟨_,rfl,a,cl,rfl,hA,G,fun H' hs=> ⟨_,rfl,bX (q H' hs)⟩⟩
theorem kY:(["holder","sort","many","custom"]:List Str).Nodup:=by decide +kernel
theorem A3u (F:D1 K mg "stand_under" rC ["custom","claims"])(T:TxC mg):A1 P w K mg base 1 "stand_under" tO:=by
 refine F.k ["custom","claims"] ?_;ac_nf
 ·obtain⟨c,a,cs,cl,rfl,hc,⟨bs,ha,hC⟩,h12,hU,q⟩:=h;have hl:bs.length=cl.length:=Paired.length hC;refine⟨_,aR (aY (bE (fU rfl) rfl T.all boot_all (cJ (bM (bD rC).names ["custom","claims"] ["holder","sort","many"] [("custom",0)] rfl (cP (pv 1)) rfl rfl rfl (by decide +kernel)
   (fun Z=>bU rfl (aW (nm1 0 kY) (aW (nm1 1 kY) (aW (nm1 2 kY) bT)))) (fun Z=>cA)
   (fun Z=>cW jM (pv 1) (bE dM rfl T.len PySem.boot_len (bC (pv 3) aA)) (nomark _))) aA))),?_⟩
  refine⟨_,rfl,a,rfl,⟨_,SqT.of ha⟩,fun Z l hl'=> ?_⟩;refine mJ (rest:=[some (.ref c)]) iV (fun H' hs=>SqT.of (hs _ _ ha)) hC hl' (by omega) (fun _=> .bl true) (fun x H' Q' hm hs hq=> ?_) fun σ H1 hs1 hl1=> ?_
  ·refine⟨_,rfl,_,rfl,c,_,rfl,.inr (SqT.of (hs _ _ hc)),_,_,rfl,rfl,?_⟩;show Q' (.bl (decide (x.2.1<((cs.map V.int).length:Int)))) H';rw [length_map,zjV (hU x hm)];exact hq _ (Same.refl _)
  ·refine⟨l,cl.map fun _=>true,rfl,SqL.of (by rw [hl1];simp only [map_map];rfl),?_⟩;rw [show(cl.map fun _=>true).all id=true by rw [all_map];exact all_eq_true.mpr fun _ _=>rfl];exact q _ hs1
theorem A69 (F:D1 K mg "check_claims_under" zO ["custom","claims"])(a1:A1 P w K mg base 4 "check_custom" yC)(a2:A1 P w K mg base 5 "check_claims" rV)(a3:A1 P w K mg base 1 "stand_under" tO):A1 P w K mg base 6 "check_claims_under" xQ:=by
 refine F.k ["custom","claims"] ?_;ac_nf
 ·obtain⟨c,a,cs,cl,rfl,hc,Gc,hA,G,hU,q⟩:=h;refine⟨_,aU (eF (a1.c hr (aB (pv 0) aA)))<|aU (eF (a2.c hr (aB (pv 1) aA)))<|
   aR (bR (cE (bN (a3.c hr (aB (pv 0) (aB (pv 1) aA))))) iB bQ),?_⟩
  refine⟨_,rfl,c,cs,rfl,hc,Gc,fun H1 s1=> ?_⟩;refine⟨_,rfl,a,cl,rfl,hA.ext s1.ext,G,fun H2 s2=> ?_⟩;exact⟨_,rfl,_,rfl,c,a,cs,cl,rfl,s2 _ _ (s1 _ _ hc),(hA.ext s1.ext).ext s2.ext,G.l12,hU,fun H3 s3=> ⟨_,rfl,bX (q H3 ((s1.trans s2).trans s3))⟩⟩
theorem rR:(["holder","sort","many","thing"]:List Str).Nodup:=by decide +kernel
theorem A4q (F:D1 K mg "is_holder" tT ["claims","thing"])(T:TxC mg)(a1:A1 P w K mg base 1 "is_number" oT):A1 P w K mg base 2 "is_holder" oP:=by
 refine F.k ["claims","thing"] ?_;ac_nf
 ·obtain⟨a,cl,u,rfl,⟨bs,ha,hC⟩,h12,ku,q⟩:=h;have hl:bs.length=cl.length:=Paired.length hC;refine⟨_,aR (aY (fP (a1.c hr (bC (pv 1) aA)) (fO (bE (mZ rfl) rfl T.any mT (cJ (bM (bD tT).names ["claims","thing"] ["holder","sort","many"] [("thing",1)] rfl (cP (pv 0)) rfl rfl rfl (by decide +kernel)
   (fun Z=>bU rfl (aW (nm1 0 rR) (aW (nm1 1 rR) (aW (nm1 2 rR) bT)))) (fun Z=>cA)
   (fun Z=>cW fY (pv 0) (pv 3) (nomark _))) aA))))),?_⟩
  refine⟨_,rfl,_,rfl,ku,_,rfl,cF (fun e=> ?_) fun e=> ?_⟩
  ·obtain⟨i,rfl⟩:∃i,u= .int i:=by cases u<;>first|exact⟨_,rfl⟩|cases e
   refine⟨_,rfl,a,rfl,⟨_,SqT.of ha⟩,fun Z l hl'=> ?_⟩;refine mJ (rest:=[some (.int i)]) iV (fun H' hs=>SqT.of (hs _ _ ha)) hC hl' (by omega) (fun c=> .bl (decide (c.1=i))) (fun x H' Q' hm hs hq=> ?_) fun σ H1 hs1 hl1=> ?_
   ·refine⟨_,rfl,_,rfl,rfl,?_⟩;have:decide (V.int x.1=V.int i)=decide (x.1=i):=decide_eq_decide.mpr ⟨fun z=>V.int.inj z,fun z=>by rw [z]⟩;rw [this];exact hq _ (Same.refl _)
   ·refine⟨l,cl.map fun c=>decide (c.1=i),rfl,SqL.of (by rw [hl1];simp only [map_map];rfl),?_⟩;have:(cl.map fun c=>decide (c.1=i)).any id=dL cl (.int i):=by unfold dL eN;rw [any_map];rfl
    rw [this];exact q _ hs1
  ·have:dL cl u=false:=by cases u<;>first|rfl|cases e
   rw [←this];exact q _ (Same.refl _)
theorem B2s (F:D1 K mg "check_holder" A0r ["claims","holder"])(a1:A1 P w K mg base 2 "is_holder" oP):A1 P w K mg base 3 "check_holder" uN:=by
 refine F.k ["claims","holder"] ?_;ac_nf
 ·obtain⟨a,cl,i,rfl,hA,h12,hh,q⟩:=h;refine⟨_,aR (bR (cE (bN (a1.c hr (aB (pv 0) (aB (pv 1) aA))))) iB bQ),?_⟩;refine⟨_,rfl,_,rfl,a,cl,.int i,rfl,hA,h12,trivial,fun H' hs=> ⟨_,rfl,?_⟩⟩;rw [show dL cl (.int i)=true from hh];exact bX (q H' hs)
theorem A5a:(["holder","claims"]:List Str).Nodup:=by decide +kernel
def jB (S:Nat->Bool)(n:Nat):List Nat:=(List.range n).filter S
theorem A4e (S:Nat->Bool):jB S 4=aX S:=by unfold jB aX L;show filter S [0,1,2,3]=_;cases h0:S 0<;>cases h1:S 1<;>cases h2:S 2<;>cases h3:S 3<;>simp [filter,h0,h1,h2,h3]
theorem A6z (F:D1 K mg "holders_of" vK ["claims"])(T:TxC mg)(a1:A1 P w K mg base 5 "check_claims" rV)(a2:A1 P w K mg base 2 "is_holder" oP):A1 P w K mg base 6 "holders_of" jO:=by
 obtain⟨t1,mH⟩:=T.holders;refine F.k ["claims"] ?_;ac_nf
 ·obtain⟨a,cl,rfl,hA,G,q⟩:=h;refine⟨_,aU (eF (a1.c hr (aB (pv 0) aA)))<|
   aR (aY (bM (bD vK).names ["claims"] ["holder"] [("claims",0)] rfl (iZ rfl T.range (bC (fN (v:=.int 4) rfl mH ⟨_,rfl⟩) aA)) rfl rfl rfl (by decide +kernel)
    (fun Z=>nm1 0 A5a) (fun Z=>eE (bN (a2.c hr (aB (pv 1) (aB (pv 0) aA))))) (fun Z=>pv 0))),?_⟩
  refine⟨_,rfl,a,cl,rfl,hA,G,fun H1 s1=> ?_⟩;refine⟨4,rfl,by decide,by decide,fun Z l hl=> ?_⟩;refine jE (lo:=0) (n:=4) (fun i σ H'=>(∃o,σ=[o,some (.ref a)])/\Same H1 H'/\H' l=some (.lst ((jB (holdS cl) i).map fun k:Nat=>V.int (k:Int)))) ⟨⟨_,rfl⟩,aG hl,by rw [aD];rfl⟩ ?_ ?_
  ·rintro i σ H' hi ⟨⟨o,rfl⟩,hs,hl'⟩;show cI _ _ _ [some (.int (0+(i:Int))),some (.ref a)] H';refine⟨_,rfl,_,rfl,a,cl,_,rfl,hA.ext (s1.trans hs).ext,G.l12,trivial,fun H2 s2=> ⟨_,rfl,?_⟩⟩;have e0:(0:Int)+(i:Int)=(i:Int):=by omega
   rw [e0];have ep:jB (holdS cl) (i+1)=jB (holdS cl) i++(if holdS cl i=true then [i]else []):=by
    unfold jB;rw [List.range_succ,filter_append]
    congr 1
    by_cases hh:holdS cl i=true
    ·rw [if_pos hh,filter_cons_of_pos hh];rfl
    ·rw [if_neg hh,filter_cons_of_neg hh];rfl
   have hz:((jB (holdS cl) i).map fun k:Nat=>V.int (k:Int)).length<=1000:=by
    rw [length_map];have:=length_filter_le (holdS cl) (List.range i);rw [length_range]at this;unfold jB;omega
   refine cF (fun hh=> ?_) fun hh=> ?_
   ·refine⟨_,rfl,_,s2 _ _ hl',cM hz,⟨_,rfl⟩,fun b u e=> ?_,?_⟩
    ·rw [aV (bL e hl)];exact s2 _ _ (hs _ _ e)
    ·rw [aD,ep,if_pos (show holdS cl i=true from hh),map_append];rfl
   ·refine⟨⟨_,rfl⟩,hs.trans s2,?_⟩;rw [ep,if_neg (by show¬holdS cl i=true;unfold holdS;rw [show eN cl (i:Int)=false from hh];decide),append_nil];exact s2 _ _ hl'
  ·rintro σ H' ⟨_,hs,hl'⟩;rw [A4e]at hl';have hHl:H l=none:=by
    cases e:H l with
    |none=>rfl
    |some o=>rw [s1 _ _ e]at hl;cases hl
   exact q l H' hHl (s1.trans hs) hl'
end
def cw (cs:List Int)(c:C3):Int:=cs.getD c.2.1.toNat 0*c.2.2
def bG (cs:List Int)(cl:List C3):Int:=(cl.map (cw cs)).sum
def ofH (cl:List C3)(i:Int):List C3:=cl.filter fun c=>decide (c.1=i)
def bO (cs:List Int)(cl:List C3)(i:Int):Int:=bG cs (ofH cl i)
def Fine (cs:List Int)(cl:List C3):Prop:=cl.length<=12/\∀c∈cl,0<=c.2.1/\c.2.1<cs.length/\1<=c.2.2/\c.2.2<=20
theorem iT (G:fL cl)(U:jN cs cl):Fine cs cl:=⟨G.l12,fun c hc=> ⟨(G.num c hc).2.1.1,U c hc,(G.num c hc).2.2.1,(G.num c hc).2.2.2⟩⟩
theorem Fine.sub (h:Fine cs cl)(i:Int):Fine cs (ofH cl i):=⟨le_trans (length_filter_le _ _) h.1,fun c hc=>h.2 c (mem_filter.mp hc).1⟩
theorem kO {cs:List Int}(Gc:fT cs){c:C3}(h:0<=c.2.1/\c.2.1<cs.length/\1<=c.2.2/\c.2.2<=20):1<=cs.getD c.2.1.toNat 0/\cs.getD c.2.1.toNat 0<=100/\1<=cw cs c/\cw cs c<=2000:=by
 have hlt:c.2.1.toNat<cs.length:=by omega
 have e:cs.getD c.2.1.toNat 0=cs[c.2.1.toNat]:=by simp [hlt]
 have hn:=Gc.num _ (getElem_mem hlt);unfold cw;rw [e];refine⟨hn.1,hn.2,?_,?_⟩
 ·have:=Int.mul_le_mul hn.1 h.2.2.1 (by omega) (by omega);omega
 ·have:=Int.mul_le_mul hn.2 h.2.2.2 (by omega) (by omega);omega
theorem rD {cs:List Int}(Gc:fT cs):∀{cl:List C3},(∀c∈cl,0<=c.2.1/\c.2.1<cs.length/\1<=c.2.2/\c.2.2<=20)->(cl.length:Int)<=bG cs cl/\bG cs cl<=2000*cl.length
 | [],_=>by simp [bG]
 |c::cl,h=>by
  have ih:=rD Gc (cl:=cl) fun d hd=>h d (zjS _ hd);have h0:=kO Gc (h c zjR);have e:bG cs (c::cl)=cw cs c+bG cs cl:=by unfold bG;rw [map_cons,sum_cons]
  rw [e,length_cons];constructor<;>omega
theorem kQ {cs:List Int}{s:Int}(h0:0<=s)(h1:s<cs.length):atI (cs.map V.int) s=some (.int (cs.getD s.toNat 0)):=by
 obtain⟨n,rfl⟩:=Int.eq_ofNat_of_zero_le h0;have hn:n<cs.length:=by omega
 refine cK ?_;rw [getElem?_map,getElem?_eq_getElem hn];simp [hn]
def oQ:Sp:=fun vs H Q _=> ∃c a cs bs cl,vs=[.ref c,.ref a]/\fQ H c cs/\fT cs/\(H a=some (.tup (bs.map V.ref))\/H a=some (.lst (bs.map V.ref)))/\ClP H bs cl/\Fine cs cl/\∀H',Same H H'->Q (.int (bG cs cl)) H'
def A2z:Sp:=fun vs H Q _=> ∃c a cs cl i,vs=[.ref c,.ref a,.int i]/\fQ H c cs/\fT cs/\ClT H a cl/\fL cl/\jN cs cl/\eN cl i=true/\∀H',Same H H'->Q (.int (bO cs cl i)) H'
section
variable {P:Program}{w:World}{K:W.Frag}{mg:Str->Option Value}{base:Heap}
theorem B0l (F:D1 K mg "count_together" sJ ["custom","claims"])(T:TxC mg):A1 P w K mg base 1 "count_together" oQ:=by
 refine F.k ["custom","claims"] ?_;ac_nf
 ·obtain⟨c,a,cs,bs,cl,rfl,hc,Gc,ha,hC,hf,q⟩:=h;have hl:bs.length=cl.length:=Paired.length hC;have h12:=hf.1;refine⟨_,aR (aY (bE (xL rfl) rfl T.sum boot_sum (cJ (bM (bD sJ).names ["custom","claims"] ["holder","sort","many"] [("custom",0)] rfl (PI.or (cP (pv 1)) (cT (pv 1))) rfl rfl rfl (by decide +kernel)
   (fun Z=>bU rfl (aW (nm1 0 kY) (aW (nm1 1 kY) (aW (nm1 2 kY) bT)))) (fun Z=>cA)
   (fun Z=>bB dQ (bJ bW (pv 3) (pv 1) (fun _ _=>rfl)) (pv 2))) aA))),?_⟩
  have turn:∀(x:C3)(H':Hp)(Q':VK),x∈cl->Same H H'->(∀H2,Same H' H2->Q' (.int (cw cs x)) H2)->tOp (rI CMul fun i j=> .int (i*j)) (tOp (jI K) (cY 3) (cY 1)) (cY 2) (some (.int x.1)::some (.int x.2.1)::some (.int x.2.2)::[some (.ref c)]) H' Q':=fun x H' Q' hm hs hq=>by
   have hx:=hf.2 x hm;have hlt:x.2.1.toNat<cs.length:=by omega
   have hsm:=kO Gc hx;exact⟨_,rfl,_,rfl,c,_,x.2.1,.int (cs.getD x.2.1.toNat 0),rfl,rfl,SqT.of (hs _ _ hc),kQ hx.1 hx.2.1,_,rfl,_,_,rfl,rfl,.inl ⟨by omega,by omega⟩,hq _ (Same.refl _)⟩
  have fin:∀(l:Addr)(σ:L2.St)(H1:Hp),Same H H1->H1 l=some (.lst (cl.map fun x=>V.int (cw cs x)))->∃(p:Addr)(ns:List Int),[V.ref l]=[.ref p]/\SqL K H1 p (ns.map V.int)/\ns.length<=1000/\(∀n∈ns,-10000<=n/\n<=10000)/\Q (.int ns.sum) H1:=fun l σ H1 hs1 hl1=>by
   refine⟨l,cl.map (cw cs),rfl,SqL.of (by rw [hl1];simp only [map_map];rfl),by rw [length_map];omega,fun n hn=> ?_,q H1 hs1⟩;obtain⟨x,hx,rfl⟩:=mem_map.mp hn;have:=kO Gc (hf.2 x hx);omega
  rcases ha with ha|ha
  ·refine .inl ⟨_,rfl,a,rfl,⟨_,SqT.of ha⟩,fun Z l hl'=> ?_⟩;exact mJ (rest:=[some (.ref c)]) iV (fun H' hs=>SqT.of (hs _ _ ha)) hC hl' (by omega) (fun x=> .int (cw cs x)) turn fun σ H1 hs1 hl1=>fin l σ H1 hs1 hl1
  ·refine .inr ⟨_,rfl,a,rfl,⟨_,SqL.of ha⟩,fun Z l hl'=> ?_⟩;exact mJ (rest:=[some (.ref c)]) fR (fun H' hs=>SqL.of (hs _ _ ha)) hC hl' (by omega) (fun x=> .int (cw cs x)) turn fun σ H1 hs1 hl1=>fin l σ H1 hs1 hl1
theorem A9t:(["claim","holder"]:List Str).Nodup:=by decide +kernel
theorem A8e (F:D1 K mg "count_of" tP ["custom","claims","holder"])(a1:A1 P w K mg base 6 "check_claims_under" xQ)(a2:A1 P w K mg base 3 "check_holder" uN)(a3:A1 P w K mg base 1 "count_together" oQ):A1 P w K mg base 7 "count_of" A2z:=by
 refine F.k ["custom","claims","holder"] ?_;ac_nf
 ·obtain⟨c,a,cs,cl,i,rfl,hc,Gc,hA,G,hU,hh,q⟩:=h;refine⟨_,aU (eF (a1.c hr (aB (pv 0) (aB (pv 1) aA))))<|aU (eF (a2.c hr (aB (pv 1) (aB (pv 2) aA))))<|
   aR (aY (a3.c hr (aB (pv 0) (cJ (bM (bD tP).names ["custom","claims","holder"] ["claim"] [("holder",2)] rfl (cP (pv 1)) rfl rfl rfl (by decide +kernel)
    (fun Z=>nm1 0 A9t) (fun Z=>eE (cB fY (bJ bW (pv 0) aM (fun _ _=>rfl)) (pv 1) (nomark _))) (fun Z=>pv 0)) aA)))),?_⟩
  refine⟨_,rfl,_,rfl,c,a,cs,cl,rfl,hc,Gc,hA,G,hU,fun H1 s1=> ?_⟩;refine⟨_,rfl,_,rfl,a,cl,i,rfl,hA.ext s1.ext,G.l12,hh,fun H2 s2=> ?_⟩;obtain⟨bs,ha,hC⟩:=(hA.ext s1.ext).ext s2.ext;have hl:bs.length=cl.length:=Paired.length hC;have h12:=G.l12;refine⟨_,rfl,_,rfl,a,rfl,⟨_,SqT.of ha⟩,fun Z l hl'=> ?_⟩;refine gM (K:=K) (a:=a) (xs:=bs.map V.ref) (fun j σ H'=>(∃o,σ=[o,some (.int i)])/\Same H2 H'/\∃bs':List Addr,H' l=some (.lst (bs'.map V.ref))/\ClP H' bs' (ofH (cl.take j) i)) ⟨⟨_,rfl⟩,aG hl',[],by rw [aD];rfl,.nil⟩ (fun j σ H' _ h=>SqT.of (h.2.1 _ _ ha)) ?_ ?_
  ·rintro j x σ H' hx ⟨⟨o,rfl⟩,hs,bs',hl2,hC2⟩;rw [getElem?_map]at hx;cases hb:bs[j]? with
   |none=>rw [hb]at hx;cases hx
   |some b=>
    rw [hb]at hx;cases hx;obtain⟨y,hy,he⟩:=hC.get hb;have hj:j<bs.length:=(zjW.mp hb).1;have hbl:bs'.length<=j:=by
     have:=Paired.length hC2;have h2:=length_filter_le (fun c:C3=>decide (c.1=i)) (cl.take j);rw [length_take]at h2;unfold ofH at this;omega
    show cI _ _ _ [some (.ref b),some (.int i)] H';refine⟨_,rfl,b,_,0,.int y.1,rfl,rfl,SqT.of (hs _ _ he),cK (j:=0) rfl,_,rfl,rfl,_,rfl,?_⟩;have ed:decide (V.int y.1=V.int i)=decide (y.1=i):=decide_eq_decide.mpr ⟨fun z=>V.int.inj z,fun z=>by rw [z]⟩;rw [ed];have et:ofH (cl.take (j+1)) i=ofH (cl.take j) i++(if decide (y.1=i)=true then [y]else []):=by
     unfold ofH;rw [take_succ,hy,filter_append]
     congr 1
     by_cases z:y.1=i
     ·simp [z]
     ·simp [z]
    refine cF (fun hz=> ?_) fun hz=> ?_
    ·refine⟨_,rfl,_,hl2,cM (by rw [length_map];omega),⟨_,rfl⟩,fun b' u e=> ?_,bs'++[b],?_,?_⟩
     ·rw [aV (bL e hl')];exact hs _ _ e
     ·rw [aD,map_append];rfl
     ·rw [et,if_pos hz];have up:∀b' xs,H' b'=some (.tup xs)->(upd H' l (.lst (bs'.map V.ref++[.ref b]))) b'=some (.tup xs):=fun b' xs e=>by rw [aV (fun z=>by rw [z,hl2]at e;cases e)];exact e
      exact Paired.snoc (Paired.mapP hC2 fun _ _ e=>up _ _ e) (up _ _ (hs _ _ he))
    ·refine⟨⟨_,rfl⟩,hs,bs',hl2,?_⟩;rw [et,if_neg (by rw [hz];decide),append_nil];exact hC2
  ·rintro σ H' ⟨_,hs,bs',hl2,hC2⟩;rw [length_map,hl,take_of_length_le (zjQ _)]at hC2;exact⟨c,l,cs,bs',ofH cl i,rfl,hs _ _ (s2 _ _ (s1 _ _ hc)),Gc,.inr hl2,hC2,(iT G hU).sub i,fun H3 s3=>q H3 (((s1.trans s2).trans hs).trans s3)⟩
end
def frTop (t b:Int):Int:=t/((Nat.gcd t.toNat b.toNat:Nat):Int)
def frBot (t b:Int):Int:=b/((Nat.gcd t.toNat b.toNat:Nat):Int)
def vQ:Sp:=fun vs H Q _=> ∃t b,vs=[.int t,.int b]/\(0<=t/\t<1000000000)/\(1<=b/\b<1000000)/\∀p,H p=none->Q (.ref p) (upd H p (.tup [.int (frTop t b),.int (frBot t b)]))
def A3g:Sp:=fun vs H Q _=> ∃c a cs cl i,vs=[.ref c,.ref a,.int i]/\fQ H c cs/\fT cs/\ClT H a cl/\fL cl/\jN cs cl/\eN cl i=true/\∀p H',Same H H'->H' p=some (.tup [.int (frTop (bO cs cl i) (bG cs cl)),.int (frBot (bO cs cl i) (bG cs cl))])->Q (.ref p) H'
theorem B06 (a b:Nat):Nat.gcd b (a%b)=Nat.gcd a b:=by rw [Nat.gcd_comm b,←Nat.gcd_rec,Nat.gcd_comm]
section
variable {P:Program}{w:World}{K:W.Frag}{mg:Str->Option Value}{base:Heap}
theorem B1g (F:D1 K mg "fraction" A1h ["top","bottom"]):A1 P w K mg base 1 "fraction" vQ:=by
 refine F.k ["top","bottom","divisor","rest"] ?_;ac_nf
 ·obtain⟨t,b,rfl,ht,hb,q⟩:=h;obtain⟨tn,rfl⟩:=Int.eq_ofNat_of_zero_le ht.1;obtain⟨bn,rfl⟩:=Int.eq_ofNat_of_zero_le (show 0<=b by omega);refine⟨_,aU (lH (i:=2) (j:=3) rfl nd rfl rfl (by decide) rfl rfl (aB (pv 0) (aB (pv 1) aA)) rfl)<|
   aU (A0b PassesOwn.never (cB A0i (pv 3) aM (nomark _)) (aR (lH (i:=2) (j:=3) rfl nd rfl rfl (by decide) rfl rfl (aB (pv 3) (eU (bB lE (pv 2) (pv 3)) aA)) rfl)))<|
   aR (aY (cD (eU (bB pQ (pv 0) (pv 2)) (eU (bB pQ (pv 1) (pv 2)) aA)))),?_⟩
  refine⟨_,rfl,_,rfl,_,_,rfl,?_⟩;refine A7e (fun σ H'=>H'=H/\∃x y:Nat,σ=[some (.int (tn:Int)),some (.int (bn:Int)),some (.int (x:Int)),some (.int (y:Int))]/\Nat.gcd x y=Nat.gcd tn bn/\x<1000000000/\y<1000000000) (fun σ _=>match σ with| [_,_,_,some (.int y)]=>y.toNat|_=>0)
   ⟨rfl,tn,bn,rfl,rfl,by omega,by omega⟩ ?_ (fun σ H' R R' hi hc=> ?_)
  ·rintro σ H' ⟨rfl,x,y,rfl,hg,hx,hy⟩;refine⟨_,rfl,_,_,rfl,rfl,_,rfl,fI (fun hp=> ?_) fun hp=> ?_⟩
   ·have hy0:0<y:=by omega
    refine⟨_,rfl,_,rfl,_,rfl,_,_,rfl,rfl,(by omega),_,_,rfl,?_⟩;have hm:x%y<y:=mod_lt _ hy0;refine⟨⟨rfl,y,x%y,?_,by rw [B06];exact hg,hy,by omega⟩,?_⟩
    ·show [some (V.int (tn:Int)),some (.int (bn:Int)),some (.int (y:Int)),some (.int ((x:Int)%(y:Int)))]=_;rw [Int.natCast_emod]
    ·show((x:Int)%(y:Int)).toNat<((y:Int)).toNat;have e:(x:Int)%(y:Int)=((x%y:Nat):Int):=(Int.natCast_emod x y).symm;rw [e,Int.toNat_natCast,Int.toNat_natCast];exact hm
   ·have hy0:y=0:=by omega
    subst hy0;rw [Nat.gcd_zero_right]at hg;subst hg;have hgp:0<Nat.gcd tn bn:=Nat.gcd_pos_of_pos_right _ (by omega);refine⟨_,rfl,_,rfl,_,_,rfl,rfl,⟨by omega,by omega⟩,_,rfl,_,rfl,_,_,rfl,rfl,⟨by omega,by omega⟩,by show 2<=sizeLine;decide,fun p hp'=> ?_⟩;exact q p hp'
  ·obtain⟨v,e1,h1⟩:=hc;obtain⟨i,j,e2,e3,c,e4,h2⟩:=h1;exact⟨v,e1,i,j,e2,e3,c,e4,hi _ _ h2⟩
theorem oM (Gc:fT cs)(G:fL cl)(U:jN cs cl)(i:Int):(0<=bO cs cl i/\bO cs cl i<1000000)/\1<=bG cs cl/\bG cs cl<1000000:=by have hf:=iT G U;have h1:=rD Gc hf.2;have h2:=rD Gc (hf.sub i).2;have:=G.l1;have:=hf.1;have:=(hf.sub i).1;unfold bO;omega
theorem B0u (F:D1 K mg "share_of" wX ["custom","claims","holder"])(a1:A1 P w K mg base 1 "fraction" vQ)(a2:A1 P w K mg base 7 "count_of" A2z)(a3:A1 P w K mg base 1 "count_together" oQ):A1 P w K mg base 8 "share_of" A3g:=by
 refine F.k ["custom","claims","holder"] ?_;ac_nf
 ·obtain⟨c,a,cs,cl,i,rfl,hc,Gc,hA,G,hU,hh,q⟩:=h;refine⟨_,aR (aY (a1.c hr (bV (a2.c hr (aB (pv 0) (aB (pv 1) (aB (pv 2) aA)))) (bV (a3.c hr (aB (pv 0) (aB (pv 1) aA))) aA)))),?_⟩;refine⟨_,rfl,_,rfl,_,rfl,c,a,cs,cl,i,rfl,hc,Gc,hA,G,hU,hh,fun H1 s1=> ?_⟩;obtain⟨bs,ha,hC⟩:=hA.ext s1.ext;refine⟨_,rfl,_,rfl,c,a,cs,bs,cl,rfl,s1 _ _ hc,Gc,.inl ha,hC,iT G hU,fun H2 s2=> ?_⟩;have hb:=oM Gc G hU i;exact⟨_,_,rfl,⟨hb.1.1,by omega⟩,hb.2,fun p hp=>q p _ ((s1.trans s2).trans (aG hp)) aD⟩
end
def A10 (K:W.Frag):Sp:=fun vs H Q _=> ∃a ns k,vs=[.ref a,.int k]/\SqL K H a ((ns:List Int).map V.int)/\0<=k/\∀i,Q (.int i) H
def tF:Sp:=fun vs H Q _=> ∃i:Int,vs=[.int i]/\∀p H',H p=none->Same H H'->PenAt H' p->Q (.ref p) H'
def kI:Sp:=fun vs H Q _=> ∃p m,vs=[.ref p,.int m]/\PenAt H p/\0<m/\m<1000000/\∀d H',0<=d->d<m->Stp p H H'->Q (.int d) H'
section
variable {P:Program}{w:World}{K:W.Frag}{mg:Str->Option Value}{base:Heap}
theorem A9h (F:D1 K mg "_law_cell" A1a ["_law_script","_law_k"])(T:TxC mg):A1 P w K mg base 1 "_law_cell" (A10 K):=by
 refine F.k ["_law_script","_law_k"] ?_;ac_nf
 ·obtain⟨a,ns,k,rfl,ha,hk,q⟩:=h;refine⟨_,aU (bR (cB jM (pv 1) (bE dM rfl T.len PySem.boot_len (bC (pv 0) aA)) (nomark _)) (aR (aY (bJ fV (pv 0) (pv 1) (fun _ _=>rfl)))) bQ) (aR (aY aM)),?_⟩;refine⟨_,rfl,_,rfl,a,_,rfl,.inl ha,_,_,rfl,rfl,_,rfl,fI (fun h1=> ?_) fun h1=>q 0⟩;rw [length_map]at h1;obtain⟨n,rfl⟩:=Int.eq_ofNat_of_zero_le hk;have hlt:n<ns.length:=by omega
  exact⟨_,rfl,_,rfl,a,_,n,.int ns[n],rfl,rfl,ha,cK (by rw [getElem?_map];simp [hlt]),q _⟩
theorem B0g (F:D1 K mg "_law_pen" A1w ["_law_cell_here"])(T:TxC mg):A1 P w K mg base 1 "_law_pen" tF:=by
 refine F.k ["_law_cell_here"] ?_;ac_nf
 ·obtain⟨i,rfl,q⟩:=h;refine⟨_,aR (aY (dR (bC (pv 0) (bC (eP nP rfl T.int boot_int (bC (cW mG (pv 0) (bB pO aM aM) (nomark _)) aA)) aA)))),?_⟩;refine⟨_,rfl,_,rfl,_,_,rfl,rfl,⟨by decide,by decide,by decide⟩,_,_,rfl,rfl,.inr ⟨_,rfl,?_⟩⟩;refine⟨by show 2<=sizeLine;decide,fun l hl=> ?_⟩;exact q l _ hl (aG hl) ⟨_,_,aD⟩
theorem scDraw:jD ["_law_pen_here","_law_bound","_law_drawn"] ["_law_pen_here","_law_bound"] (bD vM):=by ac_rfl
theorem B2y (F:D1 K mg "_law_draw" vM ["_law_pen_here","_law_bound"])(T:TxC mg):A1 P w K mg base 1 "_law_draw" kI:=by
 refine F.k ["_law_pen_here","_law_bound","_law_drawn"] ?_;ac_nf
 ·obtain⟨p,m,rfl,⟨x,f1,hp⟩,h0,h1,q⟩:=h;refine⟨_,aU (bR (cB fY (bJ fV (pv 0) aM (fun _ _=>rfl)) aM (nomark _))
    (aU (bK (i:=2) scDraw.nd rfl (Or.inl rfl) (bB lE (bJ fV (pv 0) aM (fun _ _=>rfl)) (pv 1)))
    (aU (dP (bB pQ (bJ fV (pv 0) aM (fun _ _=>rfl)) (pv 1)) (rS (pv 0) aM pU))
    (aR (aY (pv 2))))) bQ)
   (aU (dP (bB lE (bB dU (bB dQ (bB lE (bJ fV (pv 0) aM (fun _ _=>rfl)) aM) aM) aM) aM) (rS (pv 0) aM pU))
   (aR (aY (bB lE (bB pQ (bB lE (bB dU (bB dQ (bJ fV (pv 0) aM (fun _ _=>rfl)) (bJ fV (pv 0) aM (fun _ _=>rfl))) (bB dQ aM (bJ fV (pv 0) aM (fun _ _=>rfl)))) aM) aM) (pv 1))))),?_⟩
  refine⟨_,rfl,p,_,1,_,rfl,rfl,SqL.of hp,cK (j:=1) rfl,rfl,_,rfl,fI (fun _=> ?_) fun _=> ?_⟩
  ·refine⟨_,rfl,p,_,0,_,rfl,rfl,SqL.of hp,cK (j:=0) rfl,_,rfl,_,_,rfl,rfl,h0,?_⟩;refine⟨_,rfl,p,_,0,_,rfl,rfl,SqL.of hp,cK (j:=0) rfl,_,rfl,_,_,rfl,rfl,⟨h0,by omega⟩,?_⟩;refine⟨_,rfl,p,_,0,0,rfl,rfl,hp,rfl,?_⟩;refine⟨_,rfl,?_⟩;exact q _ _ (Int.emod_nonneg _ (by omega)) (Int.emod_lt_of_pos _ h0) ⟨⟨_,_,aD⟩,fun b o hb e=>by rw [aV hb];exact e⟩
  ·have hm:∀y:Int,0<=y%2147483629/\y%2147483629<2147483629:=fun y=> ⟨Int.emod_nonneg _ (by omega),Int.emod_lt_of_pos _ (by omega)⟩;have b1:=hm x;have b2:=hm (x%2147483629*48271+11);refine⟨_,rfl,p,_,0,_,rfl,rfl,SqL.of hp,cK (j:=0) rfl,_,_,rfl,rfl,(by show(0:Int)<2147483629;decide),_,_,rfl,rfl,.inl ⟨by omega,by omega⟩,_,_,rfl,rfl,_,_,rfl,rfl,(by show(0:Int)<2147483629;decide),?_⟩;refine⟨_,rfl,p,_,0,0,rfl,rfl,hp,rfl,?_⟩;refine⟨_,rfl,p,_,0,_,rfl,rfl,SqL.of aD,cK (j:=0) rfl,_,rfl,p,_,0,_,rfl,rfl,SqL.of aD,cK (j:=0) rfl,_,_,rfl,rfl,.inl ⟨by omega,by omega⟩,?_⟩;refine⟨_,rfl,p,_,0,_,rfl,rfl,SqL.of aD,cK (j:=0) rfl,_,_,rfl,rfl,.inl ⟨by decide,by decide⟩,_,_,rfl,rfl,_,_,rfl,rfl,(by show(0:Int)<2147483647;decide),_,_,rfl,rfl,⟨by decide,by decide⟩,_,rfl,_,_,rfl,rfl,h0,?_⟩;exact q _ _ (Int.emod_nonneg _ (by omega)) (Int.emod_lt_of_pos _ h0) ⟨⟨_,_,aD⟩,fun b o hb e=>by rw [aV hb];exact e⟩
end
def gI:Sp:=fun vs H Q _=> ∃p l xs,vs=[.ref p,.ref l]/\PenAt H p/\l≠p/\H l=some (.lst xs)/\1<=xs.length/\xs.length<=1000/\∀v H',v∈xs->Stp p H H'->Q v H'
section
variable {P:Program}{w:World}{K:W.Frag}{mg:Str->Option Value}{base:Heap}
theorem B1e (F:D1 K mg "_law_pick" wV ["_law_pen_here","_law_things"])(T:TxC mg)(a1:A1 P w K mg base 1 "_law_draw" kI):A1 P w K mg base 2 "_law_pick" gI:=by
 refine F.k ["_law_pen_here","_law_things"] ?_;ac_nf
 ·obtain⟨p,l,xs,rfl,hp,hlp,hl,h1,hz,q⟩:=h;refine⟨_,aR (aY (bJ fV (pv 1) (a1.c hr (aB (pv 0) (bV (bE dM rfl T.len PySem.boot_len (aB (pv 1) aA)) aA))) (fun _ _=>rfl))),?_⟩;refine⟨_,rfl,_,rfl,_,rfl,l,xs,rfl,.inl (SqL.of hl),p,(xs.length:Int),rfl,hp,by omega,by omega,fun d H' d0 d1' st=> ?_⟩;obtain⟨n,rfl⟩:=Int.eq_ofNat_of_zero_le d0;have hn:n<xs.length:=by omega
  exact⟨l,xs,_,xs[n],rfl,rfl,SqL.of (st.keep l _ hlp hl),cK (getElem?_eq_getElem hn),q _ _ (getElem_mem _) st⟩
end
def uX (a b:V):Prop:=a=b/\((∃i,a= .int i)\/(∃x,a= .str x)\/(∃y,a= .bl y)\/a= .non)
def SameV (H:Hp):Nat->V->V->Prop
 |0,a,b=>uX a b
 |n+1,a,b=>uX a b\/ ∃p q xs ys,a= .ref p/\b= .ref q/\((H p=some (.lst xs)/\H q=some (.lst ys))\/(H p=some (.tup xs)/\H q=some (.tup ys)))/\xs.length<=1000/\Paired (SameV H n) xs ys
theorem SameV.same (s:Same H H'):∀{n:Nat}{a b:V},SameV H n a b->SameV H' n a b
 |0,_,_,h=>h
 |n+1,a,b,h=>by
  rcases h with h| ⟨p,q,xs,ys,h1,h2,h3,h4,h5⟩
  ·exact .inl h
  ·refine .inr ⟨p,q,xs,ys,h1,h2,?_,h4,Paired.mapP h5 fun _ _ z=>SameV.same s z⟩;rcases h3 with⟨u,v⟩| ⟨u,v⟩
   ·exact .inl ⟨s _ _ u,s _ _ v⟩
   ·exact .inr ⟨s _ _ u,s _ _ v⟩
theorem SameV.int (n:Nat)(i:Int):SameV H n (.int i) (.int i):=by cases n with|zero=>exact⟨rfl,.inl ⟨i,rfl⟩⟩|succ n=>exact .inl ⟨rfl,.inl ⟨i,rfl⟩⟩
theorem SameV.bl (n:Nat)(y:Bool):SameV H n (.bl y) (.bl y):=by cases n with|zero=>exact⟨rfl,.inr (.inr (.inl ⟨y,rfl⟩))⟩|succ n=>exact .inl ⟨rfl,.inr (.inr (.inl ⟨y,rfl⟩))⟩
theorem SameV.non (n:Nat):SameV H n .non .non:=by cases n with|zero=>exact⟨rfl,.inr (.inr (.inr rfl))⟩|succ n=>exact .inl ⟨rfl,.inr (.inr (.inr rfl))⟩
def jH (n:Nat):Sp:=fun vs H Q _=> ∃a b,vs=[a,b]/\SameV H n a b/\∀H',Same H H'->Q (.bl true) H'
theorem zQ:∀{l₁:List α}{l₂:List β}{i:Nat}{a:α}{b:β},Paired F l₁ l₂->l₁[i]?=some a->l₂[i]?=some b->F a b
 |_,_,0,_,_,.cons r _,h1,h2=>by cases h1;cases h2;exact r
 |_,_,i+1,_,_,.cons _ t,h1,h2=>zQ (i:=i) t (by simpa using h1) (by simpa using h2)
section
variable {P:Program}{w:World}{K:W.Frag}{mg:Str->Option Value}{base:Heap}
theorem B3b:jD ["_law_told","_law_due"] ["_law_told","_law_due"] (bD kW):=by ac_rfl
theorem xF:(["_law_one","_law_other_here"]:List Str).Nodup:=by decide +kernel
theorem A2t {f:Addr}{fd:FuncData}{k:Nat}{spR:Sp}(F:Fun K "_law_same" "_law_same" kW f fd)(T:TxC mg)(mS:mg "_law_same" =some (.ref f))(bS:L2.Binds K fd ["_law_told","_law_due"] [])
    (G:FnOk P w K mg base CX0 k f fd ["_law_told","_law_due"] spR)(SR:Hp->V->V->Prop)(hSR:∀H H',Same H H'->∀a b,SR H a b->SR H' a b)(hR:∀a b H Q E,SR H a b->(∀H',Same H H'->Q (.bl true) H')->spR [a,b] H Q E):
    FnOk P w K mg base CX0 (k+1) f fd ["_law_told","_law_due"] (fun vs H Q _=> ∃a b,vs=[a,b]/\(uX a b\/ ∃p q xs ys,a= .ref p/\b= .ref q/\((H p=some (.lst xs)/\H q=some (.lst ys))\/(H p=some (.tup xs)/\H q=some (.tup ys)))/\xs.length<=1000/\Paired (SR H) xs ys)/\∀H',Same H H'->Q (.bl true) H'):=by
  refine F.ok B3b (fun vs H Q E h=> ?_) (fun cdv A outer s H vs Q E hr h=> ?_)
  · obtain⟨a,b,rfl,_⟩:=h;rfl
  · obtain⟨a,b,rfl,hS,q⟩:=h
    refine⟨_,aU (bR (bN (bE A2r rfl T.isinstance boot_isinstance (aB (pv 1) (gW (cD (aB (eO (v:=.ty "list") rfl T.list boot_list rfl) (aB (eO (v:=.ty "tuple") rfl T.tuple boot_tuple rfl) aA))) aA))))
        (aU (bR (PW.pt (fS (cE (bN (bE A2r rfl T.isinstance boot_isinstance (aB (pv 0) (gW (cD (aB (eO (v:=.ty "list") rfl T.list boot_list rfl) (aB (eO (v:=.ty "tuple") rfl T.tuple boot_tuple rfl) aA))) aA)))))
            (iA (cB oG (bE fZ rfl T.isinstance boot_isinstance (aB (pv 0) (aB (eO (v:=.ty "list") rfl T.list boot_list rfl) aA))) (bE fZ rfl T.isinstance boot_isinstance (aB (pv 1) (aB (eO (v:=.ty "list") rfl T.list boot_list rfl) aA))) (nomark _))))) (aR (aY cZ)) bQ)<|
         aU (bR (cB oG (bE dM rfl T.len PySem.boot_len (aB (pv 0) aA)) (bE dM rfl T.len PySem.boot_len (aB (pv 1) aA)) (nomark _)) (aR (aY cZ)) bQ)<|
         aR (aY (bE (fU rfl) rfl T.all boot_all (cJ (bM (bD kW).names ["_law_told","_law_due"] ["_law_one","_law_other_here"] [] rfl (PI.or (lX vX rfl T.zip (aB (pv 0) (aB (pv 1) aA))) (lX rQ rfl T.zip (aB (pv 0) (aB (pv 1) aA)))) rfl rfl rfl (by decide +kernel)
            (fun Z=>bU rfl (aW (nm1 0 xF) (aW (nm1 1 xF) bT))) (fun Z=>cA) (fun Z=>A15 G hr rfl mS F.kp bS .nil zB (aB (pv 0) (aB (pv 1) aA)))) aA)))) bQ)<|
      aR (aY (fP (cW fY (bE fZ rfl T.isinstance boot_isinstance (aB (pv 0) (aB (eO (v:=.ty "bool") rfl T.bool boot_bool rfl) aA))) (bE fZ rfl T.isinstance boot_isinstance (aB (pv 1) (aB (eO (v:=.ty "bool") rfl T.bool boot_bool rfl) aA))) (nomark _)) (fO (cW fY (pv 0) (pv 1) (nomark _))))),?_⟩
    rcases hS with⟨rfl,hf⟩| ⟨p,qq,xs,ys,rfl,rfl,hpq,hz,hP⟩
    ·
      have hsc:scal a a=true:=by rcases hf with⟨i,rfl⟩| ⟨x,rfl⟩| ⟨y,rfl⟩|rfl<;>rfl
      refine⟨_,rfl,by show 2<=sizeLine;decide,fun t ht=> ?_⟩;have s1:=aG (o:=.tup [.ty "list",.ty "tuple"]) ht;have hty1:∃ty,TyOf K (upd H t (.tup [.ty "list",.ty "tuple"])) a ty/\(∃T,ty= .type T)/\W.kitAny K ty (["list","tuple"].map Value.type)=some false/\∃tb,W.kitOne K ty (.type "bool")=some tb:=by
        rcases hf with⟨i,rfl⟩| ⟨x,rfl⟩| ⟨y,rfl⟩|rfl
        · exact⟨_,.int i,⟨_,rfl⟩,by kernel_rfl,false,by kernel_rfl⟩
        · exact⟨_,.str x,⟨_,rfl⟩,by kernel_rfl,false,by kernel_rfl⟩
        · exact⟨_,.bl y,⟨_,rfl⟩,by kernel_rfl,true,by kernel_rfl⟩
        · exact⟨_,.non,⟨_,rfl⟩,by kernel_rfl,false,by kernel_rfl⟩
      obtain⟨ty1,a1,a2,a3,tb,a4⟩:=hty1;refine⟨_,t,ty1,false,["list","tuple"],rfl,aD,a1,a2,a3,_,rfl,bX ?_⟩;refine⟨_,rfl,_,"bool",ty1,tb,rfl,a1,a4,_,rfl,_,"bool",ty1,tb,rfl,a1,a4,rfl,_,rfl,?_⟩;rw [zjV rfl];refine cV ⟨_,rfl,_,rfl,hsc,?_⟩;rw [zjV rfl];exact q _ s1
    · have hlen:xs.length=ys.length:=Paired.length hP
      refine⟨_,rfl,by show 2<=sizeLine;decide,fun t ht=> ?_⟩;have s1:=aG (o:=.tup [.ty "list",.ty "tuple"]) ht;have kinds:∃T,(T= "list" \/T= "tuple")/\(∀H',Same H H'->TyOf K H' (.ref p) (.type T)/\TyOf K H' (.ref qq) (.type T))/\W.kitAny K (.type T) (["list","tuple"].map Value.type)=some true/\W.kitOne K (.type T) (.type "list")=some (decide (T= "list")):=by
        rcases hpq with⟨h1,h2⟩| ⟨h1,h2⟩
        · exact⟨"list",.inl rfl,fun H' s=> ⟨.lst (s _ _ h1),.lst (s _ _ h2)⟩,by kernel_rfl,by kernel_rfl⟩
        · exact⟨"tuple",.inr rfl,fun H' s=> ⟨.tup (s _ _ h1),.tup (s _ _ h2)⟩,by kernel_rfl,by kernel_rfl⟩
      obtain⟨TT,hTT,hk,k1,k2⟩:=kinds;refine⟨_,t,.type TT,true,["list","tuple"],rfl,aD,(hk _ s1).2,⟨_,rfl⟩,k1,_,rfl,cV ?_⟩;refine⟨_,rfl,by show 2<=sizeLine;decide,fun t2 ht2=> ?_⟩;have s2:=s1.trans (aG (o:=.tup [.ty "list",.ty "tuple"]) ht2);refine⟨_,t2,.type TT,true,["list","tuple"],rfl,aD,(hk _ s2).1,⟨_,rfl⟩,k1,_,rfl,bX ?_⟩;refine⟨_,rfl,_,"list",.type TT,_,rfl,(hk _ s2).1,k2,_,rfl,_,"list",.type TT,_,rfl,(hk _ s2).2,k2,rfl,_,rfl,uL rfl ?_⟩;have sq:∀H',Same H H'->(SqL K H' p xs\/SqT K H' p xs)/\(SqL K H' qq ys\/SqT K H' qq ys):=fun H' s=>by
        rcases hpq with⟨h1,h2⟩| ⟨h1,h2⟩
        · exact⟨.inl (SqL.of (s _ _ h1)),.inl (SqL.of (s _ _ h2))⟩
        · exact⟨.inr (SqT.of (s _ _ h1)),.inr (SqT.of (s _ _ h2))⟩
      refine⟨_,rfl,p,xs,rfl,(sq _ s2).1,_,rfl,qq,ys,rfl,(sq _ s2).2,rfl,_,rfl,uL (by rw [hlen]) ?_⟩;have loop:∀(kk:SeqK),(∀H',Same H H'->kk.Sq K H' p xs/\kk.Sq K H' qq ys)->∀(l:Addr)(H2:Hp),Same H H2->H2 l=none->∀(Q':L2.St->Hp->Prop),(∀σ H',Same H2 H'->H' l=some (.lst (xs.map fun _=>V.bl true))->Q' σ H')->
          cX (Itz (fun H xs=>kk.Sq K H p xs) fun H ys=>kk.Sq K H qq ys) (kK K 2 (fM (dD 0) (fM (dD 1) kF))) (cI iD (fA l (oR spR [] E0 (bY (cY 0) (bY (cY 1) iR))))) (eC Q') [none,none] (upd H2 l (.lst [])):=by
        intro kk hkk l H2 sH hl Q' hQ';refine oC (xs:=xs) (ys:=ys) (le_of_eq hlen.symm) (fun i σ H'=>σ.length=2/\Same H2 H'/\H' l=some (.lst ((xs.take i).map fun _=>V.bl true))) ⟨rfl,aG hl,by rw [aD];rfl⟩ (fun i σ H' h=>hkk H' (sH.trans h.2.1)) ?_ ?_
        · rintro i x y p3 σ H' hx hy ⟨hσ,hs,hl'⟩ hp3
          match σ,hσ with
          | [x0,x1],_=>
          have s3:=aG (o:=.tup [x,y]) hp3;refine⟨p3,_,rfl,SqT.of aD,rfl,_,_,rfl,_,_,rfl,rfl,?_⟩;refine gZ ?_;refine⟨_,rfl,_,rfl,?_⟩;refine hR x y _ _ _ (hSR _ _ ((sH.trans hs).trans s3) x y (zQ hP hx hy)) fun H4 s4=> ?_;refine⟨_,s4 _ _ (s3 _ _ hl'),cM (by rw [length_map,length_take];omega),rfl,fun b' u e'=> ?_,?_⟩
          · rw [aV (bL e' hl)];exact s4 _ _ (s3 _ _ (hs _ _ e'))
          · rw [aD,take_succ,hx,map_append];rfl
        · rintro σ H' ⟨_,hs,hl'⟩
          rw [take_of_length_le (le_of_eq hlen)]at hl';exact hQ' σ H' hs hl'
      have fin:∀(l:Addr)(H2:Hp),Same H H2->∀(σ:L2.St)(H':Hp),Same H2 H'->H' l=some (.lst (xs.map fun _=>V.bl true))->∃(p:Addr)(bs:List Bool),[V.ref l]=[.ref p]/\SqL K H' p (bs.map V.bl)/\Q (.bl (bs.all id)) H':=fun l H2 sH σ H' hs hl'=>by
        refine⟨l,xs.map fun _=>true,rfl,SqL.of (by rw [hl',map_map];rfl),?_⟩;have:(xs.map fun _=>true).all id=true:=by simp
        rw [this];exact q H' (sH.trans hs)
      rcases hpq with⟨h1,h2⟩| ⟨h1,h2⟩
      · refine .inl ⟨_,rfl,_,rfl,p,qq,xs,ys,rfl,SqL.of (s2 _ _ h1),SqL.of (s2 _ _ h2),fun Z l hl=> ?_⟩
        exact loop kL (fun H' s=> ⟨SqL.of (s _ _ h1),SqL.of (s _ _ h2)⟩) l _ s2 hl _ fun σ H' hs hl'=>fin l _ s2 σ H' hs hl'
      · refine .inr ⟨_,rfl,_,rfl,p,qq,xs,ys,rfl,SqT.of (s2 _ _ h1),SqT.of (s2 _ _ h2),fun Z l hl=> ?_⟩
        exact loop kT (fun H' s=> ⟨SqT.of (s _ _ h1),SqT.of (s _ _ h2)⟩) l _ s2 hl _ fun σ H' hs hl'=>fin l _ s2 σ H' hs hl'
theorem A02 {f:Addr}{fd:FuncData}(F:Fun K "_law_same" "_law_same" kW f fd)(T:TxC mg)(mS:mg "_law_same" =some (.ref f))(bS:L2.Binds K fd ["_law_told","_law_due"] []):∀n:Nat,FnOk P w K mg base CX0 (n+1) f fd ["_law_told","_law_due"] (jH n)
 |0=>(A2t (k:=0) F T mS bS FnOk.never (fun _ _ _=>False) (fun _ _ _ _ _ z=>z) (fun _ _ _ _ _ z=>z.elim)).imp fun vs H Q E h=>by
  obtain⟨a,b,e,h1,h2⟩:=h;exact⟨a,b,e,.inl h1,h2⟩
 |n+1=>(A2t (k:=n+1) F T mS bS (A02 F T mS bS n) (fun H a b=>SameV H n a b) (fun H H' s a b z=>SameV.same s z) (fun a b H Q E h q=> ⟨a,b,rfl,h,q⟩)).imp fun vs H Q E h=>by
  obtain⟨a,b,e,h1,h2⟩:=h;exact⟨a,b,e,h1,h2⟩
theorem A21 (F:D1 K mg "_law_same" kW ["_law_told","_law_due"])(T:TxC mg)(n:Nat):A1 P w K mg base (n+1) "_law_same" (jH n):=let ⟨_,_,F,m,b⟩:=F;⟨_,_,_,m,F.kp,b,A02 F T m b n⟩
end
def ent (c:C3):List Key×V:=([Sum.inl c.1,Sum.inl c.2.1],.int c.2.2)
def hZ (es:List C3)(h s m:Int):List C3:=if (es.any fun c=>decide (bZ c=(h,s)))=true then es.map (fun c=>if bZ c=(h,s)then(h,s,m)else c)else es++[(h,s,m)]
theorem key_eq:(ent c).1=[Sum.inl h,Sum.inl s]↔bZ c=(h,s):=by
 unfold ent bZ;constructor
 ·intro e;have e1:=(List.cons.inj e).1;have e2:=(List.cons.inj (List.cons.inj e).2).1;rw [Sum.inl.inj e1,Sum.inl.inj e2]
 ·intro e;rw [(Prod.mk.inj e).1,(Prod.mk.inj e).2]
theorem B1m (es:List C3)(h s m:Int):cO (es.map ent) [Sum.inl h,Sum.inl s] (.int m)=(hZ es h s m).map ent:=by
 unfold cO hZ;have e1:((es.map ent).any fun kv=>decide (kv.1=[Sum.inl h,Sum.inl s]))=es.any fun c=>decide (bZ c=(h,s)):=by
  rw [any_map]
  congr 1
  funext c
  exact decide_eq_decide.mpr key_eq
 rw [e1]
 split
 ·rw [map_map,map_map];refine map_congr_left fun c _=> ?_;show(if (ent c).1=[Sum.inl h,Sum.inl s]then((ent c).1,V.int m)else ent c)=ent (if bZ c=(h,s)then(h,s,m)else c);by_cases e:bZ c=(h,s)
  ·rw [if_pos (key_eq.mpr e),if_pos e,key_eq.mpr e];rfl
  ·rw [if_neg (fun z=>e (key_eq.mp z)),if_neg e]
 ·rw [map_append];rfl
theorem A4v (es:List C3)(h s m:Int)(hn:(es.map bZ).Nodup):((hZ es h s m).map bZ).Nodup:=by
 unfold hZ;by_cases hany:(es.any fun c=>decide (bZ c=(h,s)))=true
 ·rw [if_pos hany,map_map];have:es.map (bZ∘fun c=>if bZ c=(h,s)then(h,s,m)else c)=es.map bZ:=map_congr_left fun c _=>by
   show bZ (if bZ c=(h,s)then(h,s,m)else c)=bZ c;by_cases e:bZ c=(h,s)
   ·rw [if_pos e,e];rfl
   ·rw [if_neg e]
  rw [this];exact hn
 ·rw [if_neg hany,map_append];refine nodup_append.mpr ⟨hn,by simp,fun a ha b hb e=>hany ?_⟩;have hb':b=(h,s):=by simpa [bZ]using hb
  obtain⟨c,hc,rfl⟩:=mem_map.mp ha;exact any_eq_true.mpr ⟨c,hc,zjV (e.trans hb')⟩
theorem A7c {es:List C3}{h s m:Int}{B:C3->Prop}(ha:∀c∈es,B c)(hb:B (h,s,m)):∀c∈hZ es h s m,B c:=by
 unfold hZ;intro c hc;by_cases hany:(es.any fun c=>decide (bZ c=(h,s)))=true
 ·rw [if_pos hany]at hc;obtain⟨d,hd,rfl⟩:=mem_map.mp hc;by_cases e:bZ d=(h,s)
  ·rw [if_pos e];exact hb
  ·rw [if_neg e];exact ha d hd
 ·rw [if_neg hany]at hc;rcases mem_append.mp hc with z|z
  ·exact ha c z
  ·rw [mem_singleton.mp z];exact hb
theorem A8b (es:List C3)(h s m:Int):(hZ es h s m).length<=es.length+1/\1<=(hZ es h s m).length:=by
 unfold hZ;by_cases hany:(es.any fun c=>decide (bZ c=(h,s)))=true
 ·rw [if_pos hany,length_map];refine⟨by omega,?_⟩;obtain⟨c,hc,_⟩:=any_eq_true.mp hany;exact List.length_pos_of_mem hc
 ·rw [if_neg hany,length_append];simp
def row (c:C3):List Int:=[c.1,c.2.1,c.2.2]
def unrow:List Int->C3| [a,b,c]=>(a,b,c)|_=>(0,0,0)
theorem B3r (h:HT.lexLt (row b) (row a)=false)(hn:bZ a≠bZ b):lt2 (bZ a) (bZ b)=true:=by
 obtain⟨a1,a2,a3⟩:=a;obtain⟨b1,b2,b3⟩:=b;unfold row at h;unfold lt2 bZ;unfold bZ at hn;dsimp only at h hn⊢;rw [HT.lexLt_cons,HT.lexLt_cons]at h⊢;by_cases e1:a1=b1
 ·subst e1;rw [if_pos rfl]at h⊢;by_cases e2:a2=b2
  ·subst e2;exact absurd rfl hn
  ·rw [if_neg (fun z=>e2 z.symm),decide_eq_false_iff_not]at h;rw [if_neg e2,decide_eq_true_eq];omega
 ·rw [if_neg (fun z=>e1 z.symm),decide_eq_false_iff_not]at h;rw [if_neg e1,decide_eq_true_eq];omega
theorem A79 (hz:zs.map (·.2)=es.map row)(hs:oY zs zs')(h1:1<=es.length)(h12:es.length<=12)(hb:∀c∈es,(0<=c.1/\c.1<=3)/\(0<=c.2.1/\c.2.1<=5)/\1<=c.2.2/\c.2.2<=20)(hn:(es.map bZ).Nodup):
  fL (zs'.map fun z=>unrow z.2)/\(zs'.map fun z=>unrow z.2).Perm es/\∀z∈zs',z.2=row (unrow z.2):=by
 have hlen:zs.length=es.length:=by have:=congrArg List.length hz;simpa using this
 have e0:zs.map (fun z=>unrow z.2)=es:=by
  have:zs.map (fun z=>unrow z.2)=(zs.map (·.2)).map unrow:=by rw [map_map];rfl
  rw [this,hz,map_map];exact List.map_id' es
 have hp:(zs'.map fun z=>unrow z.2).Perm es:=by rw [←e0];exact hs.1.map _
 have hrow:∀z∈zs',z.2=row (unrow z.2):=fun z hz'=>by
  have hm:z.2∈zs.map (·.2):=mem_map_of_mem (hs.1.mem_iff.mp hz');rw [hz]at hm;obtain⟨c,_,e⟩:=mem_map.mp hm;rw [←e];rfl
 have hl':(zs'.map fun z=>unrow z.2).length=es.length:=hp.length_eq;refine⟨⟨by omega,by omega,fun c hc=>hb c (hp.mem_iff.mp hc),?_⟩,hp,hrow⟩;have nd:((zs'.map fun z=>unrow z.2).map bZ).Nodup:=((hp.map bZ).nodup_iff).mpr hn;rw [map_map]at nd⊢;rw [List.nodup_iff_pairwise_ne,pairwise_map]at nd;rw [pairwise_map];have both:=hs.2.and nd;rw [pairwise_iff_getElem]at both⊢;intro i j hi hj hij;have b:=both i j hi hj hij;have r1:=hrow _ (getElem_mem hi);have r2:=hrow _ (getElem_mem hj);have b1:=b.1;rw [r1,r2]at b1;exact B3r b1 b.2
def zM:Sp:=fun vs H Q _=> ∃p,vs=[.ref p]/\PenAt H p/\∀a cs H',Stp p H H'->fQ H' a cs->fT cs->cs.length<=4->Q (.ref a) H'
section
variable {P:Program}{w:World}{K:W.Frag}{mg:Str->Option Value}{base:Heap}
theorem A4h:(["_law_turn","_law_pen_here"]:List Str).Nodup:=by decide +kernel
theorem B3c (F:D1 K mg "_law_custom" qN ["_law_pen_here"])(T:TxC mg)(a1:A1 P w K mg base 1 "_law_draw" kI)(a2:A1 P w K mg base 2 "_law_pick" gI):A1 P w K mg base 3 "_law_custom" zM:=by
 refine F.k ["_law_pen_here"] ?_;ac_nf
 ·obtain⟨p,rfl,hp,q⟩:=h;have r1:Room 1 _:=hr.mono (by decide);refine⟨_,aR (aY (eP kE rfl T.tuple boot_tuple (cJ (bM (bD qN).names ["_law_pen_here"] ["_law_turn"] [("_law_pen_here",0)] rfl (iZ rfl T.range (eU (bB dU aM (a1.c r1 (aB (pv 0) (cN aM aA)))) aA)) rfl rfl rfl (by decide +kernel)
   (fun Z=>nm1 0 A4h) (fun Z=>cA)
   (fun Z=>a2.c hr (aB (pv 1) (jQ (fJ (lstq (bI (bI (bI (bI (eT (bB dU aM (a1.c r1 (aB (pv 1) (cN aM aA)))) bH)))))) bH))))) aA))),?_⟩
  refine⟨_,rfl,p,4,rfl,hp,by decide,by decide,fun d H1 d0 d1' st1=> ?_⟩;refine⟨_,_,rfl,rfl,1+d,rfl,by omega,by omega,fun Z l hl=> ?_⟩;have hHl:H l=none:=by
   cases e:H l with
   |none=>rfl
   |some o=>
    by_cases z:l=p
    ·obtain⟨x,f',e'⟩:=st1.pen;rw [z,e']at hl;cases hl
    ·rw [st1.keep l o z e]at hl;cases hl
  have hlp:l≠p:=fun z=>by
   obtain⟨x,f',e'⟩:=hp;rw [z,e']at hHl;cases hHl
  refine jE (lo:=0) (n:=(1+d).toNat) (fun i σ H'=>(∃o,σ=[o,some (.ref p)])/\Stp p H H'/\∃cs:List Int,H' l=some (.lst (cs.map V.int))/\cs.length=i/\∀x∈cs,1<=x/\x<=100) ⟨⟨_,rfl⟩,st1.updL hHl hp,[],by rw [aD];rfl,rfl,fun x hx=>by cases hx⟩ ?_ ?_
  ·rintro i σ H' hi ⟨⟨o,rfl⟩,st,cs,hl',hn,hx⟩;refine kX ?_;refine⟨_,rfl,_,rfl,p,100,rfl,st.pen,by decide,by decide,fun m H2 m0 m1 st2=> ?_⟩;refine⟨_,_,rfl,rfl,by show 5<=sizeLine;decide,fun t ht=> ?_⟩;have htp:t≠p:=fun z=>by
    obtain⟨x,f',e'⟩:=st2.pen;rw [z,e']at ht;cases ht
   have st3:=(st.trans st2).same (aG (o:=.lst [.int 1,.int 1,.int 2,.int 3,.int (1+m)]) ht);refine⟨p,t,_,rfl,st3.pen,htp,aD,by show 1<=5;decide,by show 5<=1000;decide,fun v H4 hv st4=> ?_⟩;obtain⟨x,rfl,hx1,hx2⟩:∃x,v=V.int x/\1<=x/\x<=100:=by
    simp only [mem_cons,not_mem_nil,or_false]at hv;rcases hv with rfl|rfl|rfl|rfl|rfl
    ·exact⟨1,rfl,by decide,by decide⟩
    ·exact⟨1,rfl,by decide,by decide⟩
    ·exact⟨2,rfl,by decide,by decide⟩
    ·exact⟨3,rfl,by decide,by decide⟩
    ·exact⟨1+m,rfl,by omega,by omega⟩
   have hlt:H2 l=some (.lst (cs.map V.int)):=st2.keep l _ hlp hl';have hlt3:=aG (o:=.lst [.int 1,.int 1,.int 2,.int 3,.int (1+m)]) ht _ _ hlt;refine⟨_,st4.keep l _ hlp hlt3,cM (by rw [length_map];omega),⟨_,rfl⟩,(st3.trans st4).updL hHl hp,cs++[x],?_,by rw [length_append,hn];rfl,fun y hy=> ?_⟩
   ·rw [aD,map_append];rfl
   ·rcases mem_append.mp hy with z|z
    ·exact hx y z
    ·rw [mem_singleton.mp z];exact⟨hx1,hx2⟩
  ·rintro σ H' ⟨_,st,cs,hl',hn,hx⟩;refine⟨l,_,rfl,.inl ⟨SqL.of hl',fun a ha=> ?_⟩⟩;exact q a cs _ (st.same (aG ha)) aD ⟨by omega,by omega,hx⟩ (by omega)
end
end M10
namespace L2
open PySem PySem.Spec PyProof.Rows
theorem Stp.updO (s:Stp p H H1)(hd:H d=none)(hp:PenAt H p):Stp p H (upd H1 d o):=by obtain⟨x,f,e⟩:=hp;have hne:p≠d:=bL e hd;obtain⟨x',f',e'⟩:=s.pen;exact⟨⟨x',f',by rw [aV hne];exact e'⟩,fun b o hb h=>by rw [aV (bL h hd)];exact s.keep b o hb h⟩
theorem Stp.none (s:Stp p H H1)(h:H1 b=Option.none):H b=Option.none/\b≠p:=by
 have hb:b≠p:=fun z=>by
  obtain⟨x,f,e⟩:=s.pen;rw [z,e]at h;cases h
 refine⟨?_,hb⟩;cases e:H b with
 |none=>rfl
 |some o=>rw [s.keep b o hb e]at h;cases h
theorem B0r (Pv:Nat->St->Hp->Prop)(h0:Pv 0 σ H)(hl:∀i σ H,Pv i σ H->H d=some (.frz o (.dT kvs)))
  (hs:∀i k x p b σ H,kvs[i]?=some (k,x)->Pv i σ H->H p=none->H b=some (.tup (k.map kV))->g (.ref p) σ (upd H p (.tup [.ref b,x])) fun σ2 H2=>tb {D with nx:=Pv (i+1),ct:=Pv (i+1),bk:=D.nx} σ2 H2)(hd:∀σ H,Pv kvs.length σ H->D.nx σ H):
  cX (Itm d o kvs) g tb D σ H:=by
 refine⟨fun i m σ H=>m=kvs.length - i/\i<=kvs.length/\Pv i σ H,⟨kvs.length,by simp,zero_le _,h0⟩,?_⟩;rintro i m σ H ⟨rfl,hi,p⟩;by_cases hlt:i<kvs.length
 ·refine .inr ⟨⟨hl i σ H p,hlt⟩,Pv (i+1),fun σ' H' p'=> ⟨kvs.length -(i+1),by omega,rfl,hlt,p'⟩,fun x H' y=> ?_⟩;obtain⟨pp,b,k,x',e1,e2,e3,e4,e5⟩:=y;subst e1 e3;exact hs i k x' pp b σ H e4 p e2 e5
 ·have e:i=kvs.length:=by omega
  subst e;exact .inl ⟨⟨hl _ σ H p,rfl⟩,hd σ H p⟩
end L2
namespace M10
open PySem L2 PyProof.Rows Set4 Grd Wlk Cyc Srt
def nA (hs:List Int):Prop:=1<=hs.length/\hs.length<=1000/\∀x∈hs,0<=x/\x<=3
def A27:Sp:=fun vs H Q _=> ∃p c hl cs hs,vs=[.ref p,.ref c,.ref hl]/\PenAt H p/\fQ H c cs/\fT cs/\hl≠p/\H hl=some (.lst ((hs:List Int).map V.int))/\nA hs/\∀a cl H',Stp p H H'->ClT H' a cl->fL cl->jN cs cl->Q (.ref a) H'
abbrev nCL:List Str:=["_law_pen_here","_law_custom_here","_law_holders_here","_law_rights","_law_turn","_law_holder","_law_sort"]
section
variable {P:Program}{w:World}{K:W.Frag}{mg:Str->Option Value}{base:Heap}
theorem wK:(["_law_pair","_law_many"]:List Str).Nodup:=by decide +kernel
theorem A7m (F:D1 K mg "_law_claims" oA ["_law_pen_here","_law_custom_here","_law_holders_here"])(T:TxC mg)(a1:A1 P w K mg base 1 "_law_draw" kI)(a2:A1 P w K mg base 2 "_law_pick" gI):A1 P w K mg base 3 "_law_claims" A27:=by
  refine F.k nCL ?_;ac_nf
  · obtain⟨p,c,hl,cs,hs,rfl,hp,hc,Gc,hlp,hhl,Gh,q⟩:=h
    have r1:Room 1 _:=hr.mono (by decide);have hu:(A.deeper (envOfC "_law_claims" (bD oA) s.heap.objs.size f cdv)).units+1<cLine:=pE hr;refine⟨_,aU (bK (i:=3) nd rfl (Or.inl rfl) A6i)<|
      aU (eG PassesOwn.never rfl (iZ rfl T.range (eU (bB dU aM (a1.c r1 (aB (pv 0) (cN aM aA)))) aA)) (nm1 4 nd)
        (aU (lH (i:=5) (j:=6) rfl nd rfl rfl (by decide) rfl rfl (bV (a2.c hr (aB (pv 0) (aB (pv 2) aA))) (bV (a1.c r1 (aB (pv 0) (bV (bE dM rfl T.len PySem.boot_len (aB (pv 1) aA)) aA))) aA)) rfl)<|
         aR (B1z hu (pv 3) (cD (aB (pv 5) (aB (pv 6) aA))) (a2.c hr (aB (pv 0) (jQ (fJ (lstq (bI (bI (bI (bI (eT (bB dU aM (a1.c r1 (aB (pv 0) (cN aM aA)))) bH)))))) bH)))) rfl)))<|
      aR (aY (eP kE rfl T.tuple boot_tuple (bV (bE tM rfl T.sorted boot_sorted (cJ (bM (bD oA).names nCL ["_law_pair","_law_many"] [] rfl (B1n (pv 3)) rfl rfl rfl (by decide +kernel)
        (fun Z=>bU rfl (aW (nm1 0 wK) (aW (nm1 1 wK) bT))) (fun Z=>cA) (fun Z=>bB gG (pv 0) (cD (aB (pv 1) aA)))) aA)) aA))),?_⟩
    intro d hd;have st0:Stp p H (upd H d (.dT [])):=(Stp.refl hp).updO hd hp;refine⟨_,rfl,p,8,rfl,st0.pen,by decide,by decide,fun dn H1 d0 d1' st1=> ?_⟩;refine⟨_,_,rfl,rfl,1+dn,rfl,by omega,by omega,?_⟩;have hdp:d≠p:=fun z=>by
      obtain⟨x,y,e⟩:=hp;rw [z,e]at hd;cases hd
    refine jE (lo:=0) (n:=(1+dn).toNat) (fun i σ H'=>(∃o4 o5 o6,σ=[some (.ref p),some (.ref c),some (.ref hl),some (.ref d),o4,o5,o6])/\Stp p H H'/\∃es:List C3,H' d=some (.dT (es.map ent))/\(es.map bZ).Nodup/\(∀x∈es,((0<=x.1/\x.1<=3)/\(0<=x.2.1/\x.2.1<=5)/\1<=x.2.2/\x.2.2<=20)/\x.2.1<cs.length)/\es.length<=i/\(1<=i->1<=es.length))
      ⟨⟨_,_,_,rfl⟩,st0.trans st1,[],st1.keep d _ hdp aD,nodup_nil,(fun x hx=>by cases hx),zjQ _,fun z=>by omega⟩ ?_ ?_
    · rintro i σ H' hi ⟨⟨o4,o5,o6,rfl⟩,st,es,hd',hn,hb,hlen,_⟩
      have hcH:∀H2,Stp p H H2->fQ H2 c cs:=fun H2 s=>s.keep c _ (hp.ne hc (by intro z;simp)) hc;refine⟨_,rfl,_,rfl,p,hl,_,rfl,st.pen,hlp,st.keep hl _ hlp hhl,by rw [length_map];exact Gh.1,by rw [length_map];exact Gh.2.1,fun v H2 hv st2=> ?_⟩;obtain⟨hh,hhm,rfl⟩:=mem_map.mp hv;have hhb:=Gh.2.2 hh hhm;have st12:=st.trans st2;refine⟨_,rfl,_,rfl,c,_,rfl,.inr (SqT.of (hcH _ st12)),p,_,rfl,st12.pen,?_,?_,fun sn H3 s0 s1 st3=> ?_⟩
      · rw [length_map];have:=Gc.l1;omega
      · rw [length_map];have:=Gc.l6;omega
      rw [length_map]at s1;refine⟨_,_,rfl,?_⟩;have st13:=st12.trans st3;refine⟨_,rfl,_,rfl,p,20,rfl,st13.pen,by decide,by decide,fun m H4 m0 m1 st4=> ?_⟩;refine⟨_,_,rfl,rfl,by show 5<=sizeLine;decide,fun t ht=> ?_⟩;have st14:=st13.trans st4;have htn:=st14.none ht;have st5:=st14.same (aG (o:=.lst [.int 1,.int 1,.int 2,.int 3,.int (1+m)]) ht);refine⟨p,t,_,rfl,st5.pen,htn.2,aD,by show 1<=5;decide,by show 5<=1000;decide,fun v H6 hv6 st6=> ?_⟩;obtain⟨x,rfl,hx1,hx2⟩:∃x,v=V.int x/\1<=x/\x<=20:=by
        simp only [mem_cons,not_mem_nil,or_false]at hv6;rcases hv6 with rfl|rfl|rfl|rfl|rfl
        · exact⟨1,rfl,by decide,by decide⟩
        · exact⟨1,rfl,by decide,by decide⟩
        · exact⟨2,rfl,by decide,by decide⟩
        · exact⟨3,rfl,by decide,by decide⟩
        · exact⟨1+m,rfl,by omega,by omega⟩
      have st7:=st5.trans st6;have hd4:H4 d=some (.dT (es.map ent)):=st4.keep d _ hdp (st3.keep d _ hdp (st2.keep d _ hdp hd'));have hd6:H6 d=some (.dT (es.map ent)):=st6.keep d _ hdp (aG (o:=.lst [.int 1,.int 1,.int 2,.int 3,.int (1+m)]) ht _ _ hd4);refine⟨_,rfl,_,rfl,_,rfl,by show 2<=sizeLine;decide,fun k hk=> ?_⟩;have hkd:d≠k:=fun z=>by rw [←z,hd6]at hk;cases hk
      have hd8:(upd H6 k (.tup [.int hh,.int sn])) d=some (.dT (es.map ent)):=by rw [aV hkd];exact hd6
      have hkt:(upd H6 k (.tup [.int hh,.int sn])) k=some (.tup (([Sum.inl hh,Sum.inl sn]:List Key).map kV)):=by rw [aD];rfl
      refine⟨d,_,rfl,DPut.t hd8 hkt (by rw [length_map];exact cM (by omega)),?_⟩;rw [B1m];have hl2:=A8b es hh sn x;refine⟨⟨_,_,_,rfl⟩,(st7.same (aG hk)).updO hd hp,hZ es hh sn x,aD,A4v es hh sn x hn,A7c hb ⟨⟨hhb,⟨s0,by have:=Gc.l6;show sn<=5;omega⟩,hx1,hx2⟩,s1⟩,by omega,fun _=>hl2.2⟩
    · rintro σ H' ⟨⟨o4,o5,o6,rfl⟩,st,es,hd',hn,hb,hlen,h1⟩
      have hel:es.length<=8:=by omega
      have he1:1<=es.length:=h1 (by omega);refine⟨_,rfl,d,_,rfl,hd',fun o Z l hl0=> ?_⟩;have stf:Stp p H (upd H' d (.frz o (.dT (es.map ent)))):=st.updO hd hp;have hln:=stf.none hl0;have hld:l≠d:=fun z=>by rw [z,aD]at hl0;cases hl0
      refine B0r (fun i σ H2=>σ.length=2/\H2 d=some (.frz o (.dT (es.map ent)))/\Stp p H H2/\∃zs:List (Addr×List Int),H2 l=some (.lst (zs.map fun z=>V.ref z.1))/\zs.map (·.2)=(es.take i).map row/\∀z∈zs,H2 z.1=some (.tup (z.2.map V.int)))
        ⟨rfl,by rw [aV hld.symm,aD],stf.updO hln.1 hp,[],by rw [aD];rfl,rfl,fun z hz=>by cases hz⟩ (fun i σ H2 h=>h.2.1) ?_ ?_
      · rintro i k x pp b σ H2 hki ⟨hσ,hfz,st2,zs,hl2,hzr,hza⟩ hpp hb2
        match σ,hσ with
        | [x0,x1],_=>
        rw [getElem?_map]at hki;cases hei:es[i]? with
        |none=>rw [hei]at hki;cases hki
        |some cc=>
        rw [hei]at hki;have hke:ent cc=(k,x):=Option.some.inj hki;have ek:k=[Sum.inl cc.1,Sum.inl cc.2.1]:=(Prod.mk.inj hke).1.symm;have ex:x=V.int cc.2.2:=(Prod.mk.inj hke).2.symm;subst ek ex;have hi:i<es.length:=(zjW.mp hei).1;have hzl:zs.length<=i:=by
          have:=congrArg List.length hzr;rw [length_map,length_map,length_take]at this;omega
        have s3:=aG (o:=.tup [.ref b,.int cc.2.2]) hpp;refine⟨pp,_,rfl,SqT.of aD,rfl,_,_,rfl,_,_,rfl,rfl,?_⟩;refine gZ ?_;refine⟨_,rfl,_,rfl,by show 1<=sizeLine;decide,fun t ht=> ?_⟩;have s4:=aG (o:=.tup [.int cc.2.2]) ht;refine⟨b,t,_,[.int cc.2.2],rfl,rfl,s4 _ _ (s3 _ _ hb2),aD,by show 2+1<=sizeLine;decide,fun u H5 s5 hu5=> ?_⟩;have s35:=(s3.trans s4).trans s5;have hl5:=s35 _ _ hl2;refine⟨_,hl5,cM (by rw [length_map];omega),rfl,?_,(st2.same s35).updO hln.1 hp,zs++[(u,row cc)],?_,?_,fun z hz=> ?_⟩
        · rw [aV hld.symm];exact s35 _ _ hfz
        · rw [aD,map_append];rfl
        · rw [map_append,hzr,take_succ,hei,map_append];rfl
        · have up:∀a xs,H5 a=some (.tup xs)->(upd H5 l (.lst (zs.map (fun z=>V.ref z.1)++[.ref u]))) a=some (.tup xs):=fun a xs e=>by rw [aV (fun z=>by rw [z,hl5]at e;cases e)];exact e
          rcases mem_append.mp hz with z'|z'
          · exact up _ _ (s35 _ _ (hza z z'))
          · rw [mem_singleton.mp z'];exact up _ _ hu5
      · rintro σ H2 ⟨_,_,st2,zs,hl2,hzr,hza⟩
        rw [length_map,take_of_length_le (zjQ _)]at hzr;have hzl:zs.length=es.length:=by
          have:=congrArg List.length hzr;simpa using this
        refine⟨l,zs,rfl,SqL.of hl2,fun z hz=> ⟨hza z hz,fun e=> ?_⟩,by omega,fun l2 zs' hl3 hs2=> ?_⟩
        · have hm:z.2∈es.map row:=by rw [←hzr];exact mem_map_of_mem hz
          obtain⟨c',_,e'⟩:=mem_map.mp hm;rw [←e']at e;cases e
        have s3:=aG (o:=.lst (zs'.map fun z=>V.ref z.1)) hl3;obtain⟨gO,gP,gR⟩:=A79 hzr hs2 he1 (by omega) (fun x hx=>(hb x hx).1) hn;refine⟨l2,_,rfl,.inl ⟨SqL.of aD,fun a ha=> ?_⟩⟩;have s4:=aG (o:=.tup (zs'.map fun z=>V.ref z.1)) ha;refine q a (zs'.map fun z=>unrow z.2) _ ((st2.same s3).same s4) ⟨zs'.map (·.1),by rw [aD,map_map];rfl,?_⟩ gO fun x hx=>(hb x (gP.mem_iff.mp hx)).2;have go:∀ys:List (Addr×List Int),(∀z∈ys,z∈zs')->ClP (upd (upd H2 l2 (.lst (zs'.map fun z=>V.ref z.1))) a (.tup (zs'.map fun z=>V.ref z.1))) (ys.map (·.1)) (ys.map fun z=>unrow z.2):=fun ys=>by
          induction ys with
          |nil=>intro _;exact .nil
          |cons y ys ih=>
            intro hy;refine .cons ?_ (ih fun z hz=>hy z (zjS _ hz));have hy':=hy y zjR;have e:=hza y (hs2.1.mem_iff.mp hy');rw [gR y hy']at e;exact s4 _ _ (s3 _ _ e)
        exact go zs' fun z hz=>hz
end
def uE:Sp:=fun vs H Q _=> ∃c a cs cl i,vs=[.ref c,.ref a,.int i]/\fQ H c cs/\fT cs/\ClT H a cl/\Fine cs cl/\Q (.int (bO cs cl i)) H
def uQ:Sp:=fun vs H Q _=> ∃c a cs cl,vs=[.ref c,.ref a]/\fQ H c cs/\fT cs/\ClT H a cl/\Fine cs cl/\∀H',Same H H'->Q (.int (bG cs cl)) H'
theorem A71 (h:∀c∈cl,0<=c.1):(fun k=>decide (k∈cl.map fun c=>c.1.toNat))=holdS cl:=funext fun k=>by
 unfold holdS eN;rw [Bool.eq_iff_iff,decide_eq_true_eq,mem_map,any_eq_true];constructor
 ·rintro⟨c,hc,e⟩;exact⟨c,hc,zjV (by have:=h c hc;omega)⟩
 ·rintro⟨c,hc,e⟩;have:=of_decide_eq_true e;exact⟨c,hc,by omega⟩
theorem A42 {cs:List Int}{cl:List C3}{j:Nat}{y:C3}(i:Int)(hy:cl[j]?=some y):bO cs (cl.take (j+1)) i=bO cs (cl.take j) i+cw cs y*(if decide (y.1=i)=true then 1 else 0):=by
 unfold bO bG ofH;rw [take_succ,hy,filter_append,map_append,sum_append]
 congr 1
 by_cases z:y.1=i
 ·simp [z]
 ·simp [z]
section
variable {P:Program}{w:World}{K:W.Frag}{mg:Str->Option Value}{base:Heap}
theorem A38 (F:D1 K mg "_law_holders" rP ["_law_claims_here"])(T:TxC mg):A1 P w K mg base 1 "_law_holders" jO:=by
 refine F.k ["_law_claims_here"] ?_;ac_nf
 ·obtain⟨a,cl,rfl,⟨bs,ha,hC⟩,G,q⟩:=h;have hl:bs.length=cl.length:=Paired.length hC;have h12:=G.l12;refine⟨_,aR (aY (bE (yW rfl) rfl T.sorted boot_sorted (bV (eP (A8v rfl) rfl T.set PyProof.Rows.boot_set (cJ (bM (bD rP).names ["_law_claims_here"] ["_law_claim"] [] rfl (cP (pv 0)) rfl rfl rfl (by decide +kernel)
   (fun Z=>aJ (i:=0) (show(["_law_claim"]:List Str).Nodup by decide +kernel) rfl (Or.inl rfl)) (fun Z=>cA) (fun Z=>bJ bW (pv 0) aM (fun _ _=>rfl))) aA)) aA))),?_⟩
  refine⟨_,rfl,a,rfl,⟨_,SqT.of ha⟩,fun Z l hl0=> ?_⟩;refine gM (K:=K) (a:=a) (xs:=bs.map V.ref) (fun j σ H'=>σ.length=1/\Same H H'/\H' l=some (.lst ((cl.take j).map fun c=>V.int c.1))) ⟨rfl,aG hl0,by rw [aD];rfl⟩ (fun j σ H' _ h=>SqT.of (h.2.1 _ _ ha)) ?_ ?_
  ·rintro j x σ H' hx ⟨hσ,hs,hl2⟩
   match σ,hσ with
   | [x0],_=>
   rw [getElem?_map]at hx;cases hb:bs[j]? with
   |none=>rw [hb]at hx;cases hx
   |some b=>
    rw [hb]at hx;cases hx;obtain⟨y,hy,he⟩:=hC.get hb;have hj:j<bs.length:=(zjW.mp hb).1;refine kX ?_;refine⟨_,rfl,b,_,0,.int y.1,rfl,rfl,SqT.of (hs _ _ he),cK (j:=0) rfl,?_⟩;refine⟨_,hl2,cM (by rw [length_map,length_take];omega),rfl,fun b' u e=> ?_,?_⟩
    ·rw [aV (bL e hl0)];exact hs _ _ e
    ·rw [aD,take_succ,hy,map_append];rfl
  ·rintro σ H' ⟨_,hs,hl2⟩;rw [length_map,hl,take_of_length_le (zjQ _)]at hl2;have h0:∀c∈cl,0<=c.1:=fun c hc=>(G.num c hc).1.1;have e2:(cl.map fun c=>V.int c.1)=(cl.map fun c=>c.1.toNat).map fun n:Nat=>V.int (n:Int):=by
    rw [map_map];refine map_congr_left fun c hc=> ?_;have:=h0 c hc;show V.int c.1=V.int ((c.1.toNat:Nat):Int);rw [Int.toNat_of_nonneg this]
   rw [e2]at hl2;refine⟨l,cl.map fun c=>c.1.toNat,rfl,SqL.of hl2,fun n hn=> ?_,fun l2 hl3=> ?_⟩
   ·obtain⟨c,hc,rfl⟩:=mem_map.mp hn;have:=(G.num c hc).1;omega
   ·rw [A71 h0];have s2:=aG (o:=gQ w l2 (holdS cl)) hl3;refine⟨l2,holdS cl,rfl,aD,fun l4 hl4=> ?_⟩;have s3:=aG (o:=.lst ((aX (holdS cl)).map fun k:Nat=>V.int (k:Int))) hl4;have sA:=(hs.trans s2).trans s3;have hn4:H l4=none:=by
     cases e:H l4 with
     |none=>rfl
     |some o=>exact nomatch (s2 _ _ (hs _ _ e)).symm.trans hl4
    exact q l4 _ hn4 sA aD
theorem A6t (F:D1 K mg "_law_count" yO ["_law_custom_here","_law_claims_here","_law_holder"])(T:TxC mg):A1 P w K mg base 1 "_law_count" uE:=by
 refine F.k ["_law_custom_here","_law_claims_here","_law_holder","_law_total_here","_law_one","_law_sort","_law_many"] ?_;ac_nf
 ·obtain⟨c,a,cs,cl,i,rfl,hc,Gc,⟨bs,ha,hC⟩,hf,q⟩:=h;have hl:bs.length=cl.length:=Paired.length hC;refine⟨_,aU (bK (i:=3) nd rfl (Or.inl rfl) aM)<|
   aU (eG PassesOwn.never rfl (cP (pv 1)) (bU rfl (aW (nm1 4 nd) (aW (nm1 5 nd) (aW (nm1 6 nd) bT))))
    (aR (bK (i:=3) nd rfl (Or.inl rfl) (bB dU (pv 3) (bB dQ (bB dQ (bJ bW (pv 0) (pv 5) (fun _ _=>rfl)) (pv 6)) (eP nP rfl T.int boot_int (vP (cW fY (pv 4) (pv 2) (nomark _)) aA)))))))<|
   aR (aY (pv 3)),?_⟩
  refine⟨_,rfl,a,rfl,⟨_,SqT.of ha⟩,?_⟩;refine gM (K:=K) (a:=a) (xs:=bs.map V.ref) (fun j σ H'=>H'=H/\∃o4 o5 o6,σ=[some (.ref c),some (.ref a),some (.int i),some (.int (bO cs (cl.take j) i)),o4,o5,o6]) ⟨rfl,_,_,_,rfl⟩ (fun j σ H' _ h=>by rw [h.1];exact SqT.of ha) ?_ ?_
  ·rintro j x σ H' hx ⟨rfl,o4,o5,o6,rfl⟩;rw [getElem?_map]at hx;cases hb:bs[j]? with
   |none=>rw [hb]at hx;cases hx
   |some b=>
    rw [hb]at hx;cases hx;obtain⟨y,hy,he⟩:=hC.get hb;have hyb:=hf.2 y (mem_of_getElem? hy);have hsm:=kO Gc hyb;refine⟨b,_,rfl,SqT.of he,rfl,_,_,rfl,_,_,rfl,_,_,rfl,rfl,?_⟩;refine⟨_,rfl,_,rfl,_,rfl,c,_,y.2.1,.int (cs.getD y.2.1.toNat 0),rfl,rfl,SqT.of hc,kQ hyb.1 hyb.2.1,_,rfl,_,_,rfl,rfl,.inl ⟨by omega,by omega⟩,_,rfl,_,rfl,rfl,.inr ⟨_,rfl,?_⟩⟩;have hcw:cs.getD y.2.1.toNat 0*y.2.2=cw cs y:=rfl;refine⟨_,_,rfl,rfl,.inl ⟨by rw [hcw];omega,by rw [hcw];omega⟩,_,_,rfl,rfl,?_⟩;refine⟨rfl,some (.int y.1),some (.int y.2.1),some (.int y.2.2),?_⟩;rw [A42 i hy];have ed:decide (V.int y.1=V.int i)=decide (y.1=i):=decide_eq_decide.mpr ⟨fun z=>V.int.inj z,fun z=>by rw [z]⟩;rw [ed];rfl
  ·rintro σ H' ⟨rfl,o4,o5,o6,rfl⟩;rw [length_map,hl,take_of_length_le (zjQ _)];exact⟨_,rfl,q⟩
theorem tX:(["_law_one","_law_sort","_law_many","_law_custom_here"]:List Str).Nodup:=by decide +kernel
theorem A86 (F:D1 K mg "_law_total" qO ["_law_custom_here","_law_claims_here"])(T:TxC mg):A1 P w K mg base 1 "_law_total" uQ:=by
 refine F.k ["_law_custom_here","_law_claims_here"] ?_;ac_nf
 ·obtain⟨c,a,cs,cl,rfl,hc,Gc,⟨bs,ha,hC⟩,hf,q⟩:=h;have hl:bs.length=cl.length:=Paired.length hC;have h12:=hf.1;refine⟨_,aR (aY (bE (xL rfl) rfl T.sum boot_sum (cJ (bM (bD qO).names ["_law_custom_here","_law_claims_here"] ["_law_one","_law_sort","_law_many"] [("_law_custom_here",0)] rfl (cP (pv 1)) rfl rfl rfl (by decide +kernel)
   (fun Z=>bU rfl (aW (nm1 0 tX) (aW (nm1 1 tX) (aW (nm1 2 tX) bT)))) (fun Z=>cA)
   (fun Z=>bB dQ (bJ bW (pv 3) (pv 1) (fun _ _=>rfl)) (pv 2))) aA))),?_⟩
  refine⟨_,rfl,a,rfl,⟨_,SqT.of ha⟩,fun Z l hl'=> ?_⟩;refine mJ (rest:=[some (.ref c)]) iV (fun H' hs=>SqT.of (hs _ _ ha)) hC hl' (by omega) (fun x=> .int (cw cs x)) (fun x H' Q' hm hs hq=> ?_) fun σ H1 hs1 hl1=> ?_
  ·have hx:=hf.2 x hm;have hsm:=kO Gc hx;exact⟨_,rfl,_,rfl,c,_,x.2.1,.int (cs.getD x.2.1.toNat 0),rfl,rfl,SqT.of (hs _ _ hc),kQ hx.1 hx.2.1,_,rfl,_,_,rfl,rfl,.inl ⟨by omega,by omega⟩,hq _ (Same.refl _)⟩
  ·refine⟨l,cl.map (cw cs),rfl,SqL.of (by rw [hl1];simp only [map_map];rfl),by rw [length_map];omega,fun n hn=> ?_,q H1 hs1⟩;obtain⟨x,hx,rfl⟩:=mem_map.mp hn;have:=kO Gc (hf.2 x hx);omega
end
end M10
namespace L2
open PySem PyProof.Rows
theorem PenAt.fresh (h:PenAt H p)(hl:H l=none):l≠p:=fun z=>by
 obtain⟨x,f,e⟩:=h;rw [z,e]at hl;cases hl
end L2
namespace M10
open PySem L2 PyProof.Rows Grd Wlk Cyc Srt
def A2w:Sp:=fun vs H Q _=> ∃p,vs=[.ref p,.int 6]/\PenAt H p/\∀a g w H',Stp p H H'->GridAt H' a g->dO g w->w<=4->g.length<=3->dG g<=6->Q (.ref a) H'
section
variable {P:Program}{w:World}{K:W.Frag}{mg:Str->Option Value}{base:Heap}
abbrev qP:List Str:=["_law_pen_here","_law_most","_law_high","_law_wide","_law_many","_law_rows","_law_turn","_law_row","_law_place","_law_number_here"]
abbrev σM (p lr:Addr)(m hi wi mn:Int)(o6 o7 o8 o9:Option V):L2.St:=[some (.ref p),some (.int m),some (.int hi),some (.int wi),some (.int mn),some (.ref lr),o6,o7,o8,o9]
def dec (n:Int):Int:=if decide (0<=n)=true then 1 else 0
theorem B2z (n:Int):((if pos n then 1 else 0:Nat):Int)=dec n:=by unfold dec pos;by_cases h:0<=n<;>simp [h]
theorem A97 (xs:List Int)(h:1<=xs.length):cC (xs.map V.int) (some 1) none=(xs.drop 1).map V.int:=by
 have e1:HT.sIx (xs.map V.int).length 0 (some 1)=min 1 (xs.map V.int).length:=HT.sIx_nat _ _ 1;have e2:HT.sIx (xs.map V.int).length (xs.map V.int).length none=(xs.map V.int).length:=rfl;unfold cC;rw [e1,e2,length_map];have e3:min 1 xs.length=1:=by omega
 rw [e3,←map_drop,take_of_length_le (by rw [length_map,length_drop];omega)]
theorem A6k (F:D1 K mg "_law_mead" lI ["_law_pen_here","_law_most"])(T:TxC mg)(a1:A1 P w K mg base 1 "_law_draw" kI)(a2:A1 P w K mg base 2 "_law_pick" gI):A1 P w K mg base 3 "_law_mead" A2w:=by
  refine F.k qP ?_;ac_nf
  · obtain⟨p,rfl,hp,q⟩:=h
    have r1:Room 1 _:=hr.mono (by decide);have t45:∃tt,PSs (eX CX0 P w K mg base qP "_law_mead" (bD lI) f cdv A outer s H E).nox ((lD ((lD ((dA lI).getD 1 (.Pass ⟨0,0,0,0⟩))).getD 1 (.Pass ⟨0,0,0,0⟩))).drop 2) tt/\
        ∀(lr rw':Addr)(hi wi mn n:Int)(o6 o8:Option V)(H1:Hp)(xs:List V)(De:dE),H1 rw'=some (.lst xs)->xs.length<=10->De.nx (σM p lr 6 hi wi (mn+dec n) o6 (some (.ref rw')) o8 (some (.int n))) (upd H1 rw' (.lst (xs++[.int n])))->
          tt De (σM p lr 6 hi wi mn o6 (some (.ref rw')) o8 (some (.int n))) H1:=by
      refine⟨_,aU (bK (i:=4) nd rfl (Or.inl rfl) (bB dU (pv 4) (eP nP rfl T.int boot_int (vP (cW mG (pv 9) aM (nomark _)) aA))))<|
        aR (eF (mN PySem.F.plainAttrs_list PySem.F.slot_list_append PySem.F.type_list_append vO (pv 7) (aB (pv 9) aA))),?_⟩
      intro lr rw' hi wi mn n o6 o8 H1 xs De hrw hz k;refine⟨_,rfl,_,rfl,_,_,rfl,rfl,.inr ⟨_,rfl,_,_,rfl,rfl,?_⟩⟩;exact⟨_,rfl,.inl ⟨rfl,_,SqL.of hrw⟩,_,rfl,rw',xs,_,rfl,rfl,hrw,cM (by omega),k⟩
    obtain⟨tt45,h45,r45⟩:=t45;have tin:∃tt,PSs (eX CX0 P w K mg base qP "_law_mead" (bD lI) f cdv A outer s H E).nox (lD ((lD ((dA lI).getD 1 (.Pass ⟨0,0,0,0⟩))).getD 1 (.Pass ⟨0,0,0,0⟩))) tt/\
        ∀(lr rw':Addr)(hi wi mn:Int)(o6 o8 o9:Option V)(H1:Hp)(xs:List V)(De:dE),PenAt H1 p->H1 rw'=some (.lst xs)->rw'≠p->xs.length<=10->
          (∀n' H2,Stp p H1 H2->-2<=n'->n'<=99->(0<=n'->mn≠6)->De.nx (σM p lr 6 hi wi (mn+dec n') o6 (some (.ref rw')) o8 (some (.int n'))) (upd H2 rw' (.lst (xs++[.int n']))))->
          tt De (σM p lr 6 hi wi mn o6 (some (.ref rw')) o8 o9) H1:=by
      refine⟨_,aU (bK (i:=9) nd rfl (Or.inl rfl) (a2.c hr (aB (pv 0) (jQ (fJ (lstq (mM (iQ iG aM) (mM (iQ iG aM) (mM (iQ iG aM) (bI (bI (bI (bI (bI (bI (bI (mK (a1.c r1 (aB (pv 0) (cN aM aA))) bH)))))))))))) bH)))))<|
        aU (bR (PW.pt (uD (cB mG (pv 9) aM (nomark _)) (rO (cB fY (pv 4) (pv 1) (nomark _))))) (aR (bK (i:=9) nd rfl (Or.inl rfl) (iQ iG aM))) bQ) h45,?_⟩
      intro lr rw' hi wi mn o6 o8 o9 H1 xs De hp1 hrw hrp hz k;refine⟨_,rfl,_,rfl,_,rfl,_,rfl,_,rfl,p,100,rfl,hp1,by decide,by decide,fun d H2 d0 d1' st2=> ?_⟩;refine⟨by show 11<=sizeLine;decide,fun l hl=> ?_⟩;have st3:=st2.same (aG (o:=.lst [.int (-1),.int (-1),.int (-2),.int 1,.int 2,.int 3,.int 3,.int 4,.int 0,.int 9,.int d]) hl);have hlp:l≠p:=st2.pen.fresh hl;refine⟨p,l,_,rfl,st3.pen,hlp,aD,by show 1<=11;decide,by show 11<=1000;decide,fun v H4 hv st4=> ?_⟩;obtain⟨n,rfl,n1,n2⟩:∃n,v=V.int n/\-2<=n/\n<=99:=by
        simp only [mem_cons,not_mem_nil,or_false]at hv;rcases hv with rfl|rfl|rfl|rfl|rfl|rfl|rfl|rfl|rfl|rfl|rfl
        all_goals exact⟨_,rfl,by omega,by omega⟩
      have st5:=st3.trans st4;have hrw4:=st5.keep _ _ hrp hrw;refine⟨_,rfl,_,_,rfl,rfl,_,rfl,fI (fun n0=> ?_) fun n0=> ?_⟩
      · refine⟨_,rfl,_,rfl,rfl,_,rfl,fI (fun l0=> ?_) fun l0=> ?_⟩
        · exact⟨_,rfl,r45 lr rw' hi wi mn _ o6 o8 H4 xs De hrw4 hz (k _ H4 st5 (by decide) (by decide) fun z=>absurd z (by decide))⟩
        · exact r45 lr rw' hi wi mn n o6 o8 H4 xs De hrw4 hz (k _ H4 st5 n1 n2 fun _ z=>l0 (by rw [z]))
      · refine bX ?_
        exact r45 lr rw' hi wi mn n o6 o8 H4 xs De hrw4 hz (k _ H4 st5 n1 n2 fun z=>absurd z n0)
    obtain⟨tti,hin,rin⟩:=tin;refine⟨_,aU (dP (cD (eU (bB dU aM (a1.c r1 (aB (pv 0) (cN aM aA)))) (eU (bB dU aM (a1.c r1 (aB (pv 0) (cN aM aA)))) (cN aM (sR (dR aA) aA)))))
        (bU rfl (aW (nm1 2 nd) (aW (nm1 3 nd) (aW (nm1 4 nd) (aW (nm1 5 nd) bT))))))<|
      aU (eG PassesOwn.never rfl (iZ rfl T.range (aB (pv 2) aA)) (nm1 6 nd)
        (aU (bK (i:=7) nd rfl (Or.inl rfl) (dR aA))<|
         aU (eG PassesOwn.never rfl (iZ rfl T.range (aB (pv 3) aA)) (nm1 8 nd) hin)<|
         aR (eF (mN PySem.F.plainAttrs_list PySem.F.slot_list_append PySem.F.type_list_append vO (pv 5) (bV (eP kE rfl T.tuple boot_tuple (aB (pv 7) aA)) aA)))))<|
      aU (bR (cB fY (pv 4) aM (nomark _)) (aR (dP (bB gG (cD (cN aM aA)) (eQ gF (bJ fV (pv 5) aM (fun _ _=>rfl)) (eJ aM) fD)) (rS (pv 5) aM pU))) bQ)<|
      aR (aY (eP kE rfl T.tuple boot_tuple (aB (pv 5) aA))),?_⟩
    refine⟨_,rfl,p,3,rfl,hp,by decide,by decide,fun d1 H1 a1 a2 st1=> ?_⟩;refine⟨_,_,rfl,rfl,_,rfl,p,4,rfl,st1.pen,by decide,by decide,fun d2 H2 c1 c2 st2=> ?_⟩;refine⟨_,_,rfl,rfl,?_⟩;refine⟨by show 0<=sizeLine;decide,fun lr hlr=> ?_⟩;refine⟨by show 4<=sizeLine;decide,fun t4 ht4=> ?_⟩;refine⟨t4,_,rfl,SqT.of aD,rfl,_,_,rfl,_,_,rfl,_,_,rfl,_,_,rfl,rfl,?_⟩;have st3:=st1.trans st2;have hHlr:H lr=none:=(st3.none hlr).1;have hlrp:lr≠p:=(st3.none hlr).2;have stl:Stp p H (upd H2 lr (.lst [])):=st3.updL hHlr hp;have st4:=stl.same (aG (o:=.tup [.int (1+d1),.int (1+d2),.int 0,.ref lr]) ht4);have hlt:lr≠t4:=fun z=>by rw [←z,aD]at ht4;cases ht4
    refine⟨_,rfl,1+d1,rfl,by omega,by omega,?_⟩;refine jE (lo:=0) (n:=(1+d1).toNat) (fun i σ H'=> ∃(mn:Int)(bs:List Addr)(g:bF),(∃o6 o7 o8 o9,σ=σM p lr 6 (1+d1) (1+d2) mn o6 o7 o8 o9)/\Stp p H H'/\H' lr=some (.lst (bs.map V.ref))/\RowsG H' bs g/\g.length=i/\mn<=6/\mn=dG g/\(∀xs∈g,xs.length=(1+d2).toNat)/\∀xs∈g,∀n∈xs,-2<=n/\n<=99)
      ⟨0,[],[],⟨_,_,_,_,rfl⟩,st4,by rw [aV hlt,aD];rfl,.nil,rfl,by decide,rfl,(fun r hr'=>by cases hr'),(fun r hr'=>by cases hr')⟩ ?_ ?_
    · rintro i σ H' hi ⟨mn,bs,g,⟨o6,o7,o8,o9,rfl⟩,st',hlr',hG,hn,mn6,mnc,hlen,hnum⟩
      have hbs:bs.length=g.length:=Paired.length hG;refine⟨by show 0<=sizeLine;decide,fun rw' hrw=> ?_⟩;have hrp:rw'≠p:=st'.pen.fresh hrw;have hrl:rw'≠lr:=fun z=>by rw [z,hlr']at hrw;cases hrw
      refine⟨_,rfl,1+d2,rfl,by omega,by omega,?_⟩;refine jE (lo:=0) (n:=(1+d2).toNat) (fun j σ H2=> ∃(mn2:Int)(xs:List Int),(∃o8 o9,σ=σM p lr 6 (1+d1) (1+d2) mn2 (some (.int (0+i))) (some (.ref rw')) o8 o9)/\Stp p H' H2/\H2 rw'=some (.lst (xs.map V.int))/\xs.length=j/\mn2<=6/\mn2=mn+eW xs/\∀n∈xs,-2<=n/\n<=99)
        ⟨mn,[],⟨_,_,rfl⟩,(Stp.refl st'.pen).updL hrw st'.pen,aD,rfl,mn6,by simp [eW],fun x hx=>by cases hx⟩ ?_ ?_
      · rintro j σ H2 hj ⟨mn2,xs,⟨o82,o92,rfl⟩,stj,hxs,hnj,l0,lc,hxi⟩
        refine rin lr rw' _ _ mn2 _ _ _ H2 (xs.map V.int) _ stj.pen hxs hrp (by rw [length_map];omega) fun n' H3 st3' n1 n2 nl=> ?_;refine⟨mn2+dec n',xs++[n'],⟨_,_,rfl⟩,(stj.trans st3').updL hrw st'.pen,by rw [aD,map_append];rfl,by rw [length_append,hnj];rfl,?_,?_,fun x hx=> ?_⟩
        · unfold dec
          by_cases h0:0<=n'
          · have:=nl h0
            rw [zjV h0,if_pos rfl];omega
          · rw [zjU h0,if_neg (by decide)];omega
        · rw [A9a,Int.natCast_add,B2z];omega
        · rcases mem_append.mp hx with z|z
          · exact hxi x z
          · rw [mem_singleton.mp z];exact⟨n1,n2⟩
      · rintro σ H2 ⟨mn2,xs,⟨o82,o92,rfl⟩,stj,hxs,hnj,l0,lc,hxi⟩
        have hlr2:=stj.keep lr _ hlrp hlr';refine⟨_,rfl,.inl ⟨rfl,_,SqL.of hlr2⟩,_,rfl,rw',xs.map V.int,rfl,.inl ⟨SqL.of hxs,fun t ht=> ?_⟩⟩;have s3:=aG (o:=.tup (xs.map V.int)) ht;have hlr3:=s3 _ _ hlr2;refine⟨lr,bs.map V.ref,_,rfl,rfl,hlr3,cM (by rw [length_map];omega),?_⟩;have exA:Ext H' (upd (upd H2 t (.tup (xs.map V.int))) lr (.lst (bs.map V.ref++[.ref t]))):=((stj.ext st'.pen).trans s3.ext).trans (Ext.updL hlr3);have htl:t≠lr:=fun z=>by rw [z,hlr2]at ht;cases ht
        refine⟨mn2,bs++[t],g++[xs],⟨_,_,_,_,rfl⟩,((st'.trans stj).same s3).updL hHlr hp,by rw [aD,map_append];rfl,Paired.snoc (hG.ext exA) (by rw [aV htl,aD]),by rw [length_append,hn];rfl,l0,?_,fun ys hy=> ?_,fun ys hy=> ?_⟩
        · rw [A46];omega
        · rcases mem_append.mp hy with z|z
          · exact hlen ys z
          · rw [mem_singleton.mp z];exact hnj
        · rcases mem_append.mp hy with z|z
          · exact hnum ys z
          · rw [mem_singleton.mp z];exact hxi
    · rintro σ H' ⟨mn,bs,g,⟨o6,o7,o8,o9,rfl⟩,st',hlr',hG,hn,mn6,mnc,hlen,hnum⟩
      have hbs:bs.length=g.length:=Paired.length hG;have h1:1<=g.length:=by omega
      have h4:g.length<=4:=by omega
      refine⟨_,rfl,rfl,_,rfl,fI (fun e10=> ?_) fun e10=> ?_⟩
      · have e10':mn=0:=V.int.inj e10
        obtain⟨b0,bs',rfl⟩:∃b0 bs',bs=b0::bs':=exists_cons_of_ne_nil (fun z=>by rw [z]at hbs;simp at hbs;omega);obtain⟨xs0,g',rfl⟩:∃xs0 g',g=xs0::g':=exists_cons_of_ne_nil (fun z=>by rw [z]at h1;simp at h1);have hb0:H' b0=some (.tup (xs0.map V.int)):=by cases hG with|cons a b=>exact a
        have hG':RowsG H' bs' g':=by cases hG with|cons a b=>exact b
        have hw0:=hlen xs0 zjR;refine⟨by show 1<=sizeLine;decide,fun t3 ht3=> ?_⟩;have s3:=aG (o:=.tup [.int 5]) ht3;refine⟨_,rfl,lr,_,0,.ref b0,rfl,rfl,SqL.of (s3 _ _ hlr'),cK (j:=0) rfl,_,rfl,b0,xs0.map V.int,rfl,s3 _ _ hb0,fun c H4 s4 hc=> ?_⟩;rw [A97 xs0 (by omega)]at hc;refine⟨t3,c,[.int 5],_,rfl,rfl,s4 _ _ aD,hc,?_,fun c2 H5 s5 hc2=> ?_⟩
        · rw [length_map,length_drop,sizeLine_eq];show 1+_<=_;omega
        have hlr5:=s5 _ _ (s4 _ _ (s3 _ _ hlr'));refine⟨_,rfl,lr,_,0,0,rfl,rfl,hlr5,(by unfold ixN;rw [if_pos (by decide),if_pos (by simp)];rfl),?_⟩;have exA:Ext H' (upd H5 lr (.lst (((b0::bs').map V.ref).set 0 (.ref c2)))):=((s3.ext.trans s4.ext).trans s5.ext).trans (Ext.updL hlr5);refine⟨_,rfl,lr,_,rfl,.inl ⟨SqL.of aD,fun tt htt=> ?_⟩⟩;have s6:=aG (o:=.tup (((b0::bs').map V.ref).set 0 (.ref c2))) htt;have hc2l:c2≠lr:=fun z=>by rw [z,hlr5]at hc2;cases hc2
        have z0:dG (xs0::g')=0:=by omega
        have z1:eW xs0=0/\dG g'=0:=by
          unfold dG at z0⊢;rw [map_cons,sum_cons]at z0;omega
        have zd:eW (xs0.drop 1)=0:=by
          have:(xs0.filter pos)=[]:=List.length_eq_zero_iff.mp z1.1;unfold eW;rw [List.length_eq_zero_iff,List.filter_eq_nil_iff];intro a ha;exact List.filter_eq_nil_iff.mp this a (List.mem_of_mem_drop ha)
        have zc:dG ((5::xs0.drop 1)::g')=1:=by
          have e1:eW (5::xs0.drop 1)=eW (xs0.drop 1)+1:=by unfold eW;rw [filter_cons_of_pos (by decide),length_cons]
          unfold dG;rw [map_cons,sum_cons,e1,zd];have:=z1.2;unfold dG at this;omega
        refine q tt ((5::xs0.drop 1)::g') (1+d2).toNat _ ((((st'.same s3).same s4).same s5).updL hHlr hp|>.same s6) ⟨c2::bs',aD,.cons ?_ (hG'.ext (exA.trans s6.ext))⟩ ⟨by simp,by simpa using h4,by omega,by omega,fun ys hy=> ?_,fun ys hy=> ?_,by omega,by omega⟩ (by omega) (by rw [length_cons]at h1 h4⊢;rw [length_cons]at hn;omega) (by omega)
        · exact s6 _ _ (by rw [aV hc2l];exact hc2)
        · rcases mem_cons.mp hy with z|z
          · rw [z,length_cons,length_drop];omega
          · exact hlen ys (zjS _ z)
        · rcases mem_cons.mp hy with z|z
          · rw [z]
            intro n hn';rcases mem_cons.mp hn' with z'|z'
            · omega
            · exact hnum xs0 zjR n (List.mem_of_mem_drop z')
          · exact hnum ys (zjS _ z)
      · refine⟨_,rfl,lr,_,rfl,.inl ⟨SqL.of hlr',fun tt htt=> ?_⟩⟩
        have s6:=aG (o:=.tup (bs.map V.ref)) htt;have e10':mn≠0:=fun z=>e10 (by rw [z]);exact q tt g (1+d2).toNat _ (st'.same s6) ⟨bs,aD,hG.ext s6.ext⟩ ⟨h1,h4,by omega,by omega,hlen,hnum,by omega,by omega⟩ (by omega) (by omega) (by omega)
end
end M10
namespace L2
open PySem PyProof.Rows
theorem tU (he:PE X (.Name x pos) te)(hr:PAq X es t):PA X (.Name x pos::es) (bY te t):=aB he (jQ hr)
theorem PenAt.same (h:PenAt H p)(s:Same H H'):PenAt H' p:=let ⟨x,y,e⟩:=h;⟨x,y,s _ _ e⟩
end L2
namespace M10
open PySem L2 PyProof.Rows Grd Wlk Cyc Srt
structure PleA (H:Hp)(p:Addr)(g:bF)(w:Nat)(cs:List Int)(cl:List C3)(od:Int):Prop where
 G:dO g w
 w4:w<=4
 g3:g.length<=3
 c6:dG g<=6
 cu:fT cs
 ck:fL cl
 un:jN cs cl
 o9:0<=od/\od<=999
 ex:∃m c a,H p=some (.tup [.ref m,.ref c,.ref a,.int od])/\GridAt H m g/\fQ H c cs/\ClT H a cl
theorem PleA.ext (h:PleA H p g w cs cl od)(e:Ext H H'):PleA H' p g w cs cl od:=
 ⟨h.G,h.w4,h.g3,h.c6,h.cu,h.ck,h.un,h.o9,let ⟨m,c,a,h1,h2,h3,h4⟩:=h.ex;⟨m,c,a,e.tup _ _ h1,h2.ext e,e.tup _ _ h3,h4.ext e⟩⟩
theorem PleA.same (h:PleA H p g w cs cl od)(s:Same H H'):PleA H' p g w cs cl od:=h.ext s.ext
def uZ:Sp:=fun vs H Q _=> ∃p,vs=[.ref p,.int 6]/\PenAt H p/\∀t g w cs cl od H',Stp p H H'->PleA H' t g w cs cl od->Q (.ref t) H'
section
variable {P:Program}{w:World}{K:W.Frag}{mg:Str->Option Value}{base:Heap}
abbrev A4n:List Str:=["_law_pen_here","_law_most","_law_mead_here","_law_custom_here","_law_holders_here","_law_odd_here"]
theorem A5r (F:D1 K mg "_law_plea" A18 ["_law_pen_here","_law_most"])(T:TxC mg)(a1:A1 P w K mg base 1 "_law_draw" kI)(a2:A1 P w K mg base 2 "_law_pick" gI)(a3:A1 P w K mg base 3 "_law_mead" A2w)(a4:A1 P w K mg base 3 "_law_custom" zM)(a5:A1 P w K mg base 3 "_law_claims" A27):A1 P w K mg base 4 "_law_plea" uZ:=by
 refine F.k A4n ?_;ac_nf
 ·obtain⟨p,rfl,hp,q⟩:=h;have r1:Room 1 _:=hr.mono (by decide);have r2:Room 2 _:=hr.mono (by decide);refine⟨_,aU (lH (i:=2) (j:=3) rfl nd rfl rfl (by decide) rfl rfl (bV (a3.c hr (aB (pv 0) (aB (pv 1) aA))) (bV (a4.c hr (aB (pv 0) aA)) aA)) rfl)<|
   aU (bK (i:=4) nd rfl (Or.inl rfl) (a2.c r2 (tU (pv 0) (fJ (lstq (fJ (lstq (bI (bI bH))) (fJ (lstq (bI (bI bH))) (fJ (lstq (bI (bI (bI bH)))) (fJ (lstq (bI bH)) (fJ (lstq (bI (bI (bI (bI bH))))) (fJ (lstq (bI (bI bH))) bH))))))) bH))))<|
   aU (bK (i:=5) nd rfl (Or.inl rfl) (a2.c r2 (tU (pv 0) (fJ (lstq (bI (bI (bI (bI (bI (bI (bI (bI (mK (a1.c r1 (aB (pv 0) (cN aM aA))) bH)))))))))) bH))))<|
   aR (aY (cD (aB (pv 2) (aB (pv 3) (bV (a5.c hr (aB (pv 0) (aB (pv 3) (aB (pv 4) aA)))) (aB (pv 5) aA)))))),?_⟩
  refine⟨_,rfl,_,rfl,p,rfl,hp,fun a g w' H1 st1 hA G w4 g3 c6=> ?_⟩;refine⟨_,rfl,p,rfl,st1.pen,fun c cs H2 st2 hc Gc _=> ?_⟩;refine⟨_,_,rfl,?_⟩;have st12:=st1.trans st2;refine⟨_,rfl,?_⟩;refine⟨by show 2<=sizeLine;decide,fun l1 e1=> ?_⟩;refine⟨by show 2<=sizeLine;decide,fun l2 e2=> ?_⟩;refine⟨by show 3<=sizeLine;decide,fun l3 e3=> ?_⟩;refine⟨by show 1<=sizeLine;decide,fun l4 e4=> ?_⟩;refine⟨by show 4<=sizeLine;decide,fun l5 e5=> ?_⟩;refine⟨by show 2<=sizeLine;decide,fun l6 e6=> ?_⟩;refine⟨by show 6<=sizeLine;decide,fun L eL=> ?_⟩;have s1:=aG (o:=.lst [.int 0,.int 1]) e1;have s2:=aG (o:=.lst [.int 0,.int 2]) e2;have s3:=aG (o:=.lst [.int 1,.int 2,.int 3]) e3;have s4:=aG (o:=.lst [.int 3]) e4;have s5:=aG (o:=.lst [.int 0,.int 1,.int 2,.int 3]) e5;have s6:=aG (o:=.lst [.int 1,.int 3]) e6;have sL:=aG (o:=.lst [.ref l1,.ref l2,.ref l3,.ref l4,.ref l5,.ref l6]) eL;have sA:=(((((s1.trans s2).trans s3).trans s4).trans s5).trans s6).trans sL;have st3:=st12.same sA;refine⟨p,L,_,rfl,st3.pen,(st12.same (((((s1.trans s2).trans s3).trans s4).trans s5).trans s6)).pen.fresh eL,aD,by show 1<=6;decide,by show 6<=1000;decide,fun v H4 hv st4=> ?_⟩;have hold:∃(hl:Addr)(hs:List Int),v= .ref hl/\hl≠p/\H4 hl=some (.lst (hs.map V.int))/\nA hs:=by
   have key:∀(b:Addr)(hs:List Int)(Hb:Hp)(eb:Hb b=none),PenAt Hb p->Same (upd Hb b (.lst (hs.map V.int))) (upd (upd (upd (upd (upd (upd (upd H2 l1 (.lst [.int 0,.int 1])) l2 (.lst [.int 0,.int 2])) l3 (.lst [.int 1,.int 2,.int 3])) l4 (.lst [.int 3])) l5 (.lst [.int 0,.int 1,.int 2,.int 3])) l6 (.lst [.int 1,.int 3])) L (.lst [.ref l1,.ref l2,.ref l3,.ref l4,.ref l5,.ref l6]))->nA hs->∃(hl:Addr)(hs:List Int),V.ref b= .ref hl/\hl≠p/\H4 hl=some (.lst (hs.map V.int))/\nA hs:=fun b hs Hb eb hpb sb G=>
    ⟨b,hs,rfl,hpb.fresh eb,st4.keep b _ (hpb.fresh eb) (sb _ _ aD),G⟩
   have hh:∀(hs:List Int),1<=hs.length->hs.length<=1000->(hs.all fun x=>decide (0<=x)&&decide (x<=3))=true->nA hs:=fun hs a b c=> ⟨a,b,fun x hx=>by have:=all_eq_true.mp c x hx;simp only [Bool.and_eq_true,decide_eq_true_eq]at this;exact this⟩;have p0:=st12.pen;have p1:=p0.same s1;have p2:=p1.same s2;have p3:=p2.same s3;have p4:=p3.same s4;have p5:=p4.same s5;simp only [mem_cons,not_mem_nil,or_false]at hv;rcases hv with rfl|rfl|rfl|rfl|rfl|rfl
   ·exact key l1 [0,1] _ e1 p0 (((((s2.trans s3).trans s4).trans s5).trans s6).trans sL) (hh _ (by decide) (by decide) (by decide))
   ·exact key l2 [0,2] _ e2 p1 ((((s3.trans s4).trans s5).trans s6).trans sL) (hh _ (by decide) (by decide) (by decide))
   ·exact key l3 [1,2,3] _ e3 p2 (((s4.trans s5).trans s6).trans sL) (hh _ (by decide) (by decide) (by decide))
   ·exact key l4 [3] _ e4 p3 ((s5.trans s6).trans sL) (hh _ (by decide) (by decide) (by decide))
   ·exact key l5 [0,1,2,3] _ e5 p4 (s6.trans sL) (hh _ (by decide) (by decide) (by decide))
   ·exact key l6 [1,3] _ e6 p5 sL (hh _ (by decide) (by decide) (by decide))
  obtain⟨hl,hs,rfl,hlp,hhl,Gh⟩:=hold;have st5:=st3.trans st4;refine⟨_,rfl,_,rfl,p,60,rfl,st5.pen,by decide,by decide,fun d H5 d0 d1' st6=> ?_⟩;refine⟨by show 9<=sizeLine;decide,fun l hl0=> ?_⟩;have s7:=aG (o:=.lst [.int 0,.int 1,.int 2,.int 3,.int 5,.int 9,.int 20,.int 999,.int d]) hl0;have st7:=(st5.trans st6).same s7;refine⟨p,l,_,rfl,st7.pen,(st5.trans st6).pen.fresh hl0,aD,by show 1<=9;decide,by show 9<=1000;decide,fun v H6 hv st8=> ?_⟩;obtain⟨od,rfl,n1,n2⟩:∃n,v=V.int n/\0<=n/\n<=999:=by
   simp only [mem_cons,not_mem_nil,or_false]at hv;rcases hv with rfl|rfl|rfl|rfl|rfl|rfl|rfl|rfl|rfl
   all_goals exact⟨_,rfl,by omega,by omega⟩
  have st9:=st7.trans st8;have x26:Ext H2 H6:=((sA.ext.trans (st4.ext st3.pen)).trans ((st6.ext st5.pen).trans s7.ext)).trans (st8.ext st7.pen);have hhl6:H6 hl=some (.lst (hs.map V.int)):=st8.keep hl _ hlp (s7 _ _ (st6.keep hl _ hlp hhl));have hc6:fQ H6 c cs:=x26.tup _ _ hc;refine⟨_,rfl,_,rfl,_,rfl,_,rfl,_,rfl,p,c,hl,cs,hs,rfl,st9.pen,hc6,Gc,hlp,hhl6,Gh,fun k cl H7 st10 hk Gk Un=> ?_⟩;refine⟨_,rfl,by show 4<=sizeLine;decide,fun t ht=> ?_⟩;have s11:=aG (o:=.tup [.ref a,.ref c,.ref k,.int od]) ht;have x67:=st10.ext st9.pen;exact q t g w' cs cl od _ ((st9.trans st10).same s11) ⟨G,w4,g3,c6,Gc,Gk,Un,⟨n1,n2⟩,⟨a,c,k,aD,(hA.ext ((st2.ext st1.pen).trans (x26.trans x67))).ext s11.ext,s11 _ _ (x67.tup _ _ hc6),hk.ext s11.ext⟩⟩
end
structure TxD (mg:Str->Option Value):Prop where
 reversed:mg "reversed" =none
 repr:mg "repr" =none
 odd:∃t,mg "MOST_ODD" =some (.int 999 t)
def A25:Sp:=fun vs H Q _=> ∃i:Int,vs=[.int i]/\0<=i/\i<=999/\Q (.bl true) H
def jY (r:V):Sp:=fun vs H Q _=> ∃p g w cs cl od,vs=[.ref p]/\PleA H p g w cs cl od/\∀H',Same H H'->Q r H'
def A3c:Sp:=fun vs H Q _=> ∃p g w cs cl od i,vs=[.ref p,.int i]/\PleA H p g w cs cl od/\eN cl i=true/\∀H',Same H H'->Q .non H'
def tW:Sp:=fun vs H Q _=> ∃a g w,vs=[.ref a]/\GridAt H a g/\dO g w/\∀H',Same H H'->Q (.int (bP g)) H'
section
variable {P:Program}{w:World}{K:W.Frag}{mg:Str->Option Value}{base:Heap}
theorem B22 (F:D1 K mg "is_odd" wN ["thing"])(T:TxD mg)(a1:A1 P w K mg base 2 "is_number_within" mF):A1 P w K mg base 3 "is_odd" A25:=by
 obtain⟨t,mO⟩:=T.odd;refine F.k ["thing"] ?_;ac_nf
 ·obtain⟨i,rfl,h0,h9,q⟩:=h;refine⟨_,aR (aY (a1.c hr (aB (pv 0) (cN aM (aB (fN (v:=.int 999) rfl mO ⟨_,rfl⟩) aA))))),?_⟩;refine⟨_,rfl,_,0,999,rfl,trivial,?_⟩;have e:cS 0 999 (.int i)=true:=by simp [cS,h0,h9]
  rw [e];exact q
abbrev nPl:List Str:=["thing","mead","custom","claims","odd"]
theorem A4f (F:D1 K mg "is_plea" A3f ["thing"])(a1:A1 P w K mg base 1 "is_tuple_within" iW)(a2:A1 P w K mg base 4 "is_mead" tI)(a3:A1 P w K mg base 3 "is_custom" rW)(a4:A1 P w K mg base 4 "are_claims" tJ)(a5:A1 P w K mg base 1 "stand_under" tO)(a6:A1 P w K mg base 3 "is_odd" A25):A1 P w K mg base 5 "is_plea" (jY (.bl true)):=by
 refine F.k nPl ?_;ac_nf
 ·obtain⟨p,g,w',cs,cl,od,rfl,D,q⟩:=h;obtain⟨m,c,a,hp,hm,hc,ha⟩:=D.ex;refine⟨_,aU (bR (cE (bN (a1.c hr (aB (pv 0) (cN aM (cN aM aA)))))) (aR (aY cZ)) bQ)<|
   aU (dP (pv 0) (bU rfl (aW (nm1 1 nd) (aW (nm1 2 nd) (aW (nm1 3 nd) (aW (nm1 4 nd) bT))))))<|
   aU (bR (PW.pt (fS (cE (bN (a2.c hr (aB (pv 1) aA)))) (fS (cE (bN (a3.c hr (aB (pv 2) aA)))) (iA (cE (bN (a4.c hr (aB (pv 3) aA)))))))) (aR (aY cZ)) bQ)<|
   aR (aY (fP (a5.c hr (aB (pv 2) (aB (pv 3) aA))) (fO (a6.c hr (aB (pv 4) aA))))),?_⟩
  have e4:dX H 4 4 (.ref p)=true:=by unfold dX;rw [iF hp];rfl
  have kp:Kn H 1 (.ref p):=.inr (.inr ⟨_,hp,by show 4<=1000;decide,fun _ _=>trivial⟩);refine⟨_,rfl,_,4,4,rfl,kp,_,rfl,?_⟩;rw [e4];refine bX ?_;refine⟨_,rfl,p,_,rfl,SqT.of hp,rfl,_,_,rfl,_,_,rfl,_,_,rfl,_,_,rfl,rfl,?_⟩;refine⟨_,rfl,m,g,w',rfl,hm,D.G,fun H1 s1=> ⟨_,rfl,?_⟩⟩;refine bX ⟨_,rfl,c,cs,rfl,s1 _ _ hc,D.cu,fun H2 s2=> ⟨_,rfl,bX ?_⟩⟩;have s12:=s1.trans s2;refine⟨_,rfl,a,cl,rfl,ha.ext s12.ext,D.ck,fun H3 s3=> ⟨_,rfl,bX ?_⟩⟩;have s13:=s12.trans s3;refine⟨_,rfl,_,rfl,c,a,cs,cl,rfl,s13 _ _ hc,ha.ext s13.ext,D.ck.l12,D.un,fun H4 s4=> ⟨_,rfl,cV ?_⟩⟩;exact⟨_,rfl,od,rfl,D.o9.1,D.o9.2,q H4 (s13.trans s4)⟩
theorem A7n (F:D1 K mg "check_plea" wO ["plea"])(a1:A1 P w K mg base 5 "is_plea" (jY (.bl true))):A1 P w K mg base 6 "check_plea" (jY .non):=by
 refine F.k ["plea"] ?_;ac_nf
 ·obtain⟨p,g,w',cs,cl,od,rfl,D,q⟩:=h;refine⟨_,aR (bR (cE (bN (a1.c hr (aB (pv 0) aA)))) iB bQ),?_⟩;exact⟨_,rfl,p,g,w',cs,cl,od,rfl,D,fun H1 s1=> ⟨_,rfl,bX (q H1 s1)⟩⟩
theorem A9r (F:D1 K mg "check_plea_and_holder" yS ["plea","holder"])(a1:A1 P w K mg base 6 "check_plea" (jY .non))(a2:A1 P w K mg base 3 "check_holder" uN):A1 P w K mg base 7 "check_plea_and_holder" A3c:=by
 refine F.k ["plea","holder","mead","custom","claims","odd"] ?_;ac_nf
 ·obtain⟨p,g,w',cs,cl,od,i,rfl,D,hh,q⟩:=h;refine⟨_,aU (eF (a1.c hr (aB (pv 0) aA)))<|
   aU (dP (pv 0) (bU rfl (aW (nm1 2 nd) (aW (nm1 3 nd) (aW (nm1 4 nd) (aW (nm1 5 nd) bT))))))<|
   aR (eF (a2.c hr (aB (pv 4) (aB (pv 1) aA)))),?_⟩
  refine⟨_,rfl,p,g,w',cs,cl,od,rfl,D,fun H1 s1=> ?_⟩;obtain⟨m,c,a,hp,hm,hc,ha⟩:=(D.same s1).ex;refine⟨_,rfl,p,_,rfl,SqT.of hp,rfl,_,_,rfl,_,_,rfl,_,_,rfl,_,_,rfl,rfl,?_⟩;exact⟨_,rfl,_,rfl,a,cl,i,rfl,ha,D.ck.l12,hh,fun H2 s2=>q H2 (s1.trans s2)⟩
theorem A6v (F:D1 K mg "whole_worth" xD ["mead"])(a1:A1 P w K mg base 1 "worth_together" zK)(a2:A1 P w K mg base 6 "cells_of" (eY pos)):A1 P w K mg base 7 "whole_worth" tW:=by
 refine F.k ["mead"] ?_;ac_nf
 ·obtain⟨a,g,w',rfl,hA,G,q⟩:=h;refine⟨_,aR (aY (a1.c hr (aB (pv 0) (bV (a2.c hr (aB (pv 0) aA)) aA)))),?_⟩;refine⟨_,rfl,_,rfl,a,g,w',rfl,hA,G,fun H1 l ps hl s1 hl1 hP=> ?_⟩;exact⟨a,l,g,w',ps,rfl,hA.same s1,G,hl1,hP,fun H2 s2=>q H2 (s1.trans s2)⟩
abbrev shT (cs:List Int)(cl:List C3)(i:Int):Int:=frTop (bO cs cl i) (bG cs cl)
abbrev shB (cs:List Int)(cl:List C3)(i:Int):Int:=frBot (bO cs cl i) (bG cs cl)
def nI (g:bF)(cs:List Int)(cl:List C3)(i:Int):Int:=frTop (bP g*shT cs cl i) (shB cs cl i)
def kN (g:bF)(cs:List Int)(cl:List C3)(i:Int):Int:=frBot (bP g*shT cs cl i) (shB cs cl i)
def xG:Sp:=fun vs H Q _=> ∃p g w cs cl od i,vs=[.ref p,.int i]/\PleA H p g w cs cl od/\eN cl i=true/\∀q H',Same H H'->H' q=some (.tup [.int (nI g cs cl i),.int (kN g cs cl i)])->Q (.ref q) H'
theorem vS (h0:0<=t)(h1:1<=b):0<=frTop t b/\1<=frBot t b/\frTop t b<=t/\frBot t b<=b/\frTop t b*b=t*frBot t b:=by
 unfold frTop frBot;obtain⟨tn,rfl⟩:=Int.eq_ofNat_of_zero_le h0;obtain⟨bn,rfl⟩:=Int.eq_ofNat_of_zero_le (show 0<=b by omega);have hb:0<bn:=by omega
 rw [Int.toNat_natCast,Int.toNat_natCast];have hg:0<Nat.gcd tn bn:=Nat.gcd_pos_of_pos_right _ hb;obtain⟨x,ex⟩:=Nat.gcd_dvd_left tn bn;obtain⟨y,ey⟩:=Nat.gcd_dvd_right tn bn;generalize Nat.gcd tn bn=d at*;have e1:tn/d=x:=by rw [ex];exact Nat.mul_div_cancel_left x hg
 have e2:bn/d=y:=by rw [ey];exact Nat.mul_div_cancel_left y hg
 rw [←Int.natCast_ediv,←Int.natCast_ediv,e1,e2];have hy:0<y:=Nat.pos_of_ne_zero fun z=>by rw [z,Nat.mul_zero]at ey;omega
 have hx:x<=tn:=by rw [ex];exact Nat.le_mul_of_pos_left x hg
 have hy2:y<=bn:=by rw [ey];exact Nat.le_mul_of_pos_left y hg
 refine⟨Int.natCast_nonneg _,by omega,by omega,by omega,?_⟩;have:x*bn=tn*y:=by
  have z1:x*bn=x*(d*y):=by rw [←ey]
  have z2:tn*y=(d*x)*y:=by rw [←ex]
  rw [z1,z2,mul_comm d x,Nat.mul_assoc]
 exact_mod_cast this
theorem rX {g:bF}{w:Nat}(G:dO g w)(h6:dG g<=6):0<=bP g/\bP g<=594:=by
 have row:∀xs:List Int,(∀n∈xs,-2<=n/\n<=99)->0<=iY xs/\iY xs<=99*eW xs:=fun xs h=>by
  induction xs with
  |nil=>exact⟨by simp [iY],by simp [iY,eW]⟩
  |cons x xs ih=>
   have:=ih fun n hn=>h n (zjS _ hn);have hx:=h x zjR;unfold iY eW at this⊢;rw [map_cons,sum_cons,List.filter_cons];by_cases z:0<=x
   ·rw [if_pos (show Grd.pos x=true from zjV z),length_cons]
    split<;>omega
   ·have zp:Grd.pos x=false:=zjU z;have z2:¬x>0:=by omega
    simp only [zp,z2,Bool.false_eq_true,↓reduceIte];omega
 have all:∀g:bF,(∀xs∈g,∀n∈xs,-2<=n/\n<=99)->0<=bP g/\bP g<=99*dG g:=fun g h=>by
  induction g with
  |nil=>exact⟨by simp [bP],by simp [bP,dG]⟩
  |cons x g ih=>
   have:=ih fun n hn=>h n (zjS _ hn);have r:=row x (h x zjR);unfold bP dG at this⊢;rw [map_cons,sum_cons,map_cons,sum_cons];omega
 have:=all g G.num;omega
abbrev nDu:List Str:=["plea","holder","mead","custom","claims","odd","top","bottom"]
theorem B12 (F:D1 K mg "due_of" A1g ["plea","holder"])(a1:A1 P w K mg base 7 "check_plea_and_holder" A3c)(a2:A1 P w K mg base 8 "share_of" A3g)(a3:A1 P w K mg base 1 "fraction" vQ)(a4:A1 P w K mg base 7 "whole_worth" tW):A1 P w K mg base 9 "due_of" xG:=by
 refine F.k nDu ?_;ac_nf
 ·obtain⟨p,g,w',cs,cl,od,i,rfl,D,hh,q⟩:=h;refine⟨_,aU (eF (a1.c hr (aB (pv 0) (aB (pv 1) aA))))<|
   aU (dP (pv 0) (bU rfl (aW (nm1 2 nd) (aW (nm1 3 nd) (aW (nm1 4 nd) (aW (nm1 5 nd) bT))))))<|
   aU (dP (a2.c hr (aB (pv 3) (aB (pv 4) (aB (pv 1) aA)))) (bU rfl (aW (nm1 6 nd) (aW (nm1 7 nd) bT))))<|
   aR (aY (a3.c hr (eU (bB dQ (a4.c hr (aB (pv 2) aA)) (pv 6)) (aB (pv 7) aA)))),?_⟩
  refine⟨_,rfl,_,rfl,p,g,w',cs,cl,od,i,rfl,D,hh,fun H1 s1=> ?_⟩;obtain⟨m,c,a,hp,hm,hc,ha⟩:=(D.same s1).ex;refine⟨_,rfl,p,_,rfl,SqT.of hp,rfl,_,_,rfl,_,_,rfl,_,_,rfl,_,_,rfl,rfl,?_⟩;refine⟨_,rfl,_,rfl,_,rfl,c,a,cs,cl,i,rfl,hc,D.cu,ha,D.ck,D.un,hh,fun t H2 s2 ht=> ?_⟩;refine⟨t,_,rfl,SqT.of ht,rfl,_,_,rfl,_,_,rfl,rfl,?_⟩;have hb:=oM D.cu D.ck D.un i;have fr:=vS hb.1.1 hb.2.1;have tb:=rX D.G D.c6;refine⟨_,rfl,m,g,w',rfl,hm.same s2,D.G,fun H3 s3=> ?_⟩;refine⟨_,rfl,_,_,rfl,rfl,.inl ⟨by omega,by omega⟩,_,rfl,_,_,rfl,⟨Int.mul_nonneg tb.1 fr.1,?_⟩,⟨fr.2.1,by omega⟩,fun r hr'=>q r _ (((s1.trans s2).trans s3).trans (aG hr')) aD⟩;have h1:bP g*frTop (bO cs cl i) (bG cs cl)<=594*frTop (bO cs cl i) (bG cs cl):=Int.mul_le_mul_of_nonneg_right (by omega) fr.1;show bP g*frTop (bO cs cl i) (bG cs cl)<_;omega
end
end M10
namespace L2
open PySem PySem.Spec PyProof.Rows
def Itv (K:W.Frag)(a:Addr)(n:Nat):It:=
 ⟨fun i H=>i<n/\∃xs,SqL K H a xs/\xs.length=n,fun i H x H'=>H'=H/\∀xs,SqL K H a xs->xs[n - 1 - i]?=some x,fun i _=>i=n⟩
theorem A3k {P:Program}{w:World}{K:W.Frag}{tg:Expr}(a it:Addr)(n:Nat):gE P w K tg (Itv K a n) [it] it (fun i h=>h.IsRevIter it a ((n:Int) - 1 - i))where
 mem:=by simp
 obj:=fun i h st b hb=>by
  have e:b=it:=by simpa using hb
  subst e;obtain⟨o,e,c,d⟩:=st;exact⟨o,e,fun v z=>by rw [d]at z;cases z⟩
 keep:=fun i h h' st k=>st.at fun o e=>k it (by simp) o e
 item:=by
  intro X hP hw hK hc i pins s σ H E I hf st hg;subst hP hw hK;obtain⟨hi,xs,hq,hn⟩:=hg;obtain⟨its,rv,p,hz⟩:=I.list hq;have hlt:n - 1 - i<xs.length:=by omega
  obtain⟨u,hu,ru⟩:=rv.get (getElem?_eq_getElem hlt);obtain⟨f0,f1,f2,f3,f4,f5⟩:=hf it (by simp);have st':s.heap.IsRevIter it a ((n - 1 - i:Nat):Int):=by
   have e:((n - 1 - i:Nat):Int)=(n:Int) - 1 - i:=by omega
   rw [e];exact st
  refine wpAny_pyNext_rev_item st' p.isList (x:=u) (by simpa using hu) fun h' st2 sb=> ?_;have I1:Inv X pins σ H {s with heap:=h'}:=I.turned (t':=s.toks) (fun b o hb e=>(sb.2 b hb).trans e) f0 f1 f3 f4 f5;obtain⟨o,e,c,d⟩:=id st2;refine⟨u,rfl,lY (s:={s with heap:=h'}) e c d (by decide) ⟨xs[n - 1 - i],H,I1,ru,⟨rfl,fun ys hy=>by rw [I.list_inj hy hq];exact getElem?_eq_getElem hlt⟩,?_,fun b hb=>(hf b hb).1⟩⟩;have e2:((n:Int) - 1 -((i+1:Nat):Int))=((n - 1 - i:Nat):Int) - 1:=by omega
  rw [e2];exact st2
 done:=by
  intro X hP hw hK hc i pins s σ H E I hf st hg;subst hP hw hK;obtain⟨f0,f1,f2,f3,f4,f5⟩:=hf it (by simp);have st':s.heap.IsRevIter it a (-1):=by
   have e:((n:Int) - 1 - i)= -1:=by have:i=n:=hg;omega
   rw [←e];exact st
  exact wpAny_pyNext_rev_end (I.ok.hd hc) st' fun h' eb=> ⟨rfl,I.turned (t':=s.toks) (fun b o hb e=>eb b o hb e) f0 f1 f3 f4 f5⟩
 self:=fun _ _ _ _ _ st h=>wpAny_pyIter_revIter st h
section
def A3q (K:W.Frag)(ta:TA):TI:=fun σ H R=>ta σ H fun xs H1=> ∃a ys,xs=[.ref a]/\SqL K H1 a ys/\R (Itv K a ys.length) H1
theorem A6f {e:Expr}{ta:TA}{p pos:Pos}(hg:Gl X "reversed")(hm:X.mg "reversed" =none)(ha:PA X [e] ta)(he:starEach [e] X.env=[(false,eval e X.env)]:=by rfl):PI X tg (.Call (.Name "reversed" p) [e] [] pos) (A3q X.K ta):=by
 intro pins s σ H R I h;refine wpAny_Call_Name_kw (jV I hg hm boot_reversed ?_ (by decide) (by decide));refine PyProof.Rows.callWith_type1 (thn (ha pos pins s σ H _ I h) fun us s1 ⟨vs,H1,I1,r1,q1⟩=> ?_) he rfl;obtain⟨a,ys,rfl,hq,q⟩:=q1;obtain⟨u,rfl,rx⟩:=eI r1;cases rx;obtain⟨its,rv,pl,hz⟩:=I1.list hq;refine call_reversed_list pl.isList ?_;have hl:=rv.length;refine wpAny_pyIter_revIter (l:=a) (i:=((its.toArray.size:Int) - 1)) ⟨_,get?_push_size _ rfl,rfl,rfl⟩ ?_;refine⟨s1.heap.objs.size,[s1.heap.objs.size],_,_,H1,rfl,I1.kept (t':=s1.toks) fun b o e=>zjX _ e,A3k a _ ys.length,⟨_,get?_push_size _ rfl,rfl,?_⟩,fun b hb=> ?_,q⟩
 ·show Data.fields #[Value.ref a,rawInt _]=_;have e:((its.toArray.size:Int) - 1)=(ys.length:Int) - 1 -((0:Nat):Int):=by rw [size_toArray,←hl];simp
  rw [e]
 ·have e:b=s1.heap.objs.size:=by simpa using hb
  subst e;exact I1.fpOk (zjQ _) (I1.hok.fresh (zjQ _))
theorem B0e {K:W.Frag}{a:Addr}{xs:List V}{g:TG}{tb:TS}{D:dE}{σ:St}{H:Hp}(Pv:Nat->St->Hp->Prop)(h0:Pv 0 σ H)(hl:∀i σ H,i<=xs.length->Pv i σ H->SqL K H a xs)
  (hs:∀i x σ H,xs[xs.length - 1 - i]?=some x->i<xs.length->Pv i σ H->g x σ H fun σ2 H2=>tb {D with nx:=Pv (i+1),ct:=Pv (i+1),bk:=D.nx} σ2 H2)(hd:∀σ H,Pv xs.length σ H->D.nx σ H):cX (Itv K a xs.length) g tb D σ H:=by
 refine⟨fun i m σ H=>m=xs.length - i/\i<=xs.length/\Pv i σ H,⟨xs.length,by simp,zero_le _,h0⟩,?_⟩;rintro i m σ H ⟨rfl,hi,p⟩;by_cases hlt:i<xs.length
 ·refine .inr ⟨⟨hlt,xs,hl i σ H hi p,rfl⟩,Pv (i+1),fun σ' H' q=> ⟨xs.length -(i+1),by omega,rfl,hlt,q⟩,?_⟩;rintro x H' ⟨rfl,hx⟩;exact hs i x σ _ (hx xs (hl i σ _ hi p)) hlt p
 ·have e:i=xs.length:=by omega
  subst e;exact .inl ⟨rfl,hd σ H p⟩
end
end L2
namespace L2
open PySem PyProof.Rows
theorem mB (xs:List V)(h:1<=xs.length):cC xs (some 1) none=xs.drop 1:=by have e1:HT.sIx xs.length 0 (some 1)=min 1 xs.length:=HT.sIx_nat _ _ 1;have e2:HT.sIx xs.length xs.length none=xs.length:=rfl;unfold cC;rw [e1,e2,show min 1 xs.length=1 by omega,take_of_length_le (by rw [length_drop];omega)]
def TusAt (H:Hp)(qs:List Addr)(ts:List (List V)):Prop:=Paired (fun q ys=>H q=some (.tup ys)) qs ts
theorem TusAt.same (h:TusAt H qs ts)(s:Same H H'):TusAt H' qs ts:=Paired.mapP h fun _ _ e=>s _ _ e
theorem iO (h1:Paired F l1 m1)(h2:Paired F l2 m2):Paired F (l1++l2) (m1++m2):=by
 induction h1 with
 |nil=>exact h2
 |cons r t ih=>exact .cons r ih
theorem sG (h1:Paired F l1 m1):Paired F (l1.drop 1) m1.tail:=by
 cases h1 with
 |nil=>exact .nil
 |cons r t=>exact t
theorem uR {J:It}{S:Hp->Prop}{l:Addr}{qs:List Addr}{ts:List (List V)}{H0:Hp}{rest:St}{Q:St->Hp->Prop}{te:TE}(f:List V->List V)(W:Wk J (qs.map V.ref) S)(hS:∀H',Same H0 H'->S H')(hC:TusAt H0 qs ts)(hl:H0 l=none)(hz:qs.length<=999)
  (ev:∀q ys H' Q',ys∈ts->H' q=some (.tup ys)->Same H0 H'->(∀t H2,Same H' H2->H2 t=some (.tup (f ys))->Q' (.ref t) H2)->te (some (.ref q)::rest) H' Q')
  (hQ:∀σ H' qs',Same H0 H'->H' l=some (.lst ((qs':List Addr).map V.ref))->TusAt H' qs' (ts.map f)->Q σ H'):
  cX J (dD 0) (cI iD (fA l te)) (eC Q) (none::rest) (upd H0 l (.lst [])):=by
 have hlen:qs.length=ts.length:=Paired.length hC;refine W (fun i σ H'=>(∃x,σ=x::rest)/\Same H0 H'/\∃bs':List Addr,H' l=some (.lst (bs'.map V.ref))/\TusAt H' bs' ((ts.take i).map f)) ⟨⟨_,rfl⟩,aG hl,[],by rw [aD];rfl,.nil⟩ (fun i σ H' _ h=>hS _ h.2.1) ?_ ?_
 ·rintro i x σ H' hx ⟨⟨x0,rfl⟩,hs,bs',hl',hP⟩;rw [getElem?_map]at hx;cases hb:qs[i]? with
  |none=>rw [hb]at hx;cases hx
  |some b=>
   rw [hb]at hx;cases hx;have hi:i<qs.length:=(zjW.mp hb).1;have hc:ts[i]?=some ts[i]:=getElem?_eq_getElem (by omega);have he:H0 b=some (.tup ts[i]):=by
    have:∀{qs:List Addr}{ts:List (List V)}{i:Nat}{b:Addr}{y:List V},TusAt H0 qs ts->qs[i]?=some b->ts[i]?=some y->H0 b=some (.tup y):=by
     intro qs ts i b y h
     induction h generalizing i with
     |nil=>intro z;cases z
     |cons r t ih=>
      cases i with
      |zero=>intro z1 z2;cases z1;cases z2;exact r
      |succ i=>intro z1 z2;exact ih (by simpa using z1) (by simpa using z2)
    exact this hC hb hc
   have et:(ts.take (i+1)).map f=(ts.take i).map f++[f ts[i]]:=by rw [take_succ,hc,map_append];rfl
   have hbl:bs'.length=_:=Paired.length hP;rw [length_map,length_take]at hbl;refine kX ?_;refine ev b ts[i] H' _ (getElem_mem _) (hs _ _ he) hs fun t H2 s2 ht=> ?_;have hl2:=s2 _ _ hl';refine⟨_,hl2,cM (by rw [length_map];omega),⟨_,rfl⟩,fun b2 u e=> ?_,bs'++[t],?_,?_⟩
   ·rw [aV (bL e hl)];exact s2 _ _ (hs _ _ e)
   ·rw [aD,map_append];rfl
   ·rw [et];have up:∀b xs,H2 b=some (.tup xs)->(upd H2 l (.lst (bs'.map V.ref++[.ref t]))) b=some (.tup xs):=fun b xs e=>by rw [aV (fun z=>by rw [z,hl2]at e;cases e)];exact e
    exact Paired.snoc (Paired.mapP (hP.same s2) fun _ _ e=>up _ _ e) (up _ _ ht)
 ·rintro σ H' ⟨_,hs,bs',hl',hP⟩;rw [length_map,hlen,take_of_length_le (zjQ _)]at hP;exact hQ σ H' bs' hs hl' hP
end L2
namespace M10
open PySem L2 PyProof.Rows Grd Wlk Cyc Srt
def rtV {α:Type}:List α->List (List α)
 | []=> [[]]
 |x::xs=> []::((rtV xs).map (x:: ·)++(rtV xs).tail)
theorem nR (xs:List α):∃t,rtV xs=[]::t:=by cases xs<;>exact⟨_,rfl⟩
theorem pT:∀xs:List α,(rtV xs).length=2^xs.length
 | []=>rfl
 |x::xs=>by
  have ih:=pT xs;unfold rtV;obtain⟨t,e⟩:=nR xs;rw [length_cons,length_append,length_map,List.length_tail,ih,length_cons,Nat.pow_succ];have:0<2^xs.length:=Nat.pos_of_ne_zero (by simp);omega
theorem iC:∀{xs ys:List α},ys∈rtV xs->ys.Sublist xs
 | [],ys,h=>by rw [mem_singleton.mp h];exact List.Sublist.slnil
 |x::xs,ys,h=>by
  unfold rtV at h;rcases mem_cons.mp h with rfl|h
  ·exact List.nil_sublist _
  ·rcases mem_append.mp h with h|h
   ·obtain⟨zs,hz,rfl⟩:=mem_map.mp h;exact(iC hz).cons_cons x
   ·exact(iC (List.mem_of_mem_tail h)).cons x
theorem sQ:∀{xs ys:List α},ys.Sublist xs->ys∈rtV xs
 |_,_,.slnil=>mem_singleton.mpr rfl
 |x::xs,ys,.cons _ h=>by
  unfold rtV;have:=sQ h;obtain⟨t,e⟩:=nR xs;rw [e]at this;rcases mem_cons.mp this with rfl|h'
  ·exact zjR
  ·refine zjS _ (mem_append.mpr (.inr ?_));rw [e];exact h'
 |x::xs,_::ys,.cons₂ _ h=>by
  unfold rtV;exact zjS _ (mem_append.mpr (.inl (mem_map_of_mem (sQ h))))
def uU:Sp:=fun vs H Q _=> ∃l xs,vs=[.ref l]/\H l=some (.lst xs)/\xs.length<=6/\∀l' qs H',H l'=none->Same H H'->H' l'=some (.lst ((qs:List Addr).map V.ref))->TusAt H' qs (rtV xs)->Q (.ref l') H'
section
variable {P:Program}{w:World}{K:W.Frag}{mg:Str->Option Value}{base:Heap}
abbrev nRT:List Str:=["things","tuples","thing"]
theorem B28:(["some","thing"]:List Str).Nodup:=by decide +kernel
theorem B2q (F:D1 K mg "rising_tuples" qS ["things"])(T:TxD mg):A1 P w K mg base 1 "rising_tuples" uU:=by
 refine F.k nRT ?_;ac_nf
 ·obtain⟨l,xs,rfl,hl,h6,q⟩:=h;refine⟨_,aU (bK (i:=1) nd rfl (Or.inl rfl) (dR (gW (cD aA) aA)))<|
   aU (eG PassesOwn.never rfl (A6f rfl T.reversed (aB (pv 0) aA)) (aJ (i:=2) nd rfl (Or.inr rfl))
    (aR (bK (i:=1) nd rfl (Or.inl rfl) (bB gX (bB gX (dR (gW (cD aA) aA)) (bM (bD qS).names nRT ["some"] [("thing",2)] rfl (cT (pv 1)) rfl rfl rfl (by decide +kernel)
     (fun Z=>nm1 0 B28) (fun Z=>cA) (fun Z=>bB gG (cD (aB (pv 1) aA)) (pv 0)))) (eQ mU (pv 1) (eJ aM) fD)))))<|
   aR (aY (pv 1)),?_⟩
  refine⟨by show 0<=sizeLine;decide,fun t0 ht0=> ⟨by show 1<=sizeLine;decide,fun l0 hl0=> ?_⟩⟩;have s0:=aG (o:=.tup []) ht0;have s1:=aG (o:=.lst [.ref t0]) hl0;have s01:=s0.trans s1;have el0:(upd (upd H t0 (.tup [])) l0 (.lst [.ref t0])) l0=some (.lst [.ref t0]):=aD;have et0:(upd (upd H t0 (.tup [])) l0 (.lst [.ref t0])) t0=some (.tup []):=s1 _ _ aD;have n0:H l0=none:=s0.free hl0;generalize upd (upd H t0 (.tup [])) l0 (.lst [.ref t0])=H1 at s01 el0 et0⊢;refine⟨_,rfl,l,xs,rfl,SqL.of (s01 _ _ hl),?_⟩;refine B0e (K:=K) (a:=l) (xs:=xs) (fun i σ H'=>Same H H'/\∃lt qs o,σ=[some (.ref l),some (.ref lt),o]/\H lt=none/\H' lt=some (.lst ((qs:List Addr).map V.ref))/\TusAt H' qs (rtV (xs.drop (xs.length - i))))
   ⟨s01,l0,[t0],_,rfl,n0,el0,by rw [Nat.sub_zero,List.drop_length];exact .cons et0 .nil⟩ (fun i σ H' _ h=>SqL.of (h.1 _ _ hl)) ?_ ?_
  ·rintro i x σ H' hx hi ⟨hs,lt,qs,o,rfl,nlt,elt,hT⟩;have ed:xs.drop (xs.length -(i+1))=x::xs.drop (xs.length - i):=by
    have e1:xs.length -(i+1)=xs.length - 1 - i:=by omega
    have e2:xs.length - i=xs.length - 1 - i+1:=by omega
    rw [e1,e2];exact List.drop_eq_getElem?_toList_append ..|>.trans (by rw [hx];rfl)
   generalize hR:rtV (xs.drop (xs.length - i))=R at hT;have hRl:R.length<=64:=by
    rw [←hR,pT,length_drop];exact le_trans (pow_le_pow_right (by decide) (show xs.length -(xs.length - i)<=6 by omega)) (by decide)
   have hql:qs.length=R.length:=Paired.length hT;obtain⟨R',eR⟩:∃R',R=[]::R':=by rw [←hR];exact nR _
   show iE _ _ _ [some (.ref l),some (.ref lt),some x] H';refine⟨by show 0<=sizeLine;decide,fun t1 ht1=> ⟨by show 1<=sizeLine;decide,fun l1 hl1=> ?_⟩⟩;have u1:=aG (o:=.tup []) ht1;have u2:=aG (o:=.lst [.ref t1]) hl1;have u12:=u1.trans u2;have el1:(upd (upd H' t1 (.tup [])) l1 (.lst [.ref t1])) l1=some (.lst [.ref t1]):=aD;have et1:(upd (upd H' t1 (.tup [])) l1 (.lst [.ref t1])) t1=some (.tup []):=u2 _ _ aD;generalize upd (upd H' t1 (.tup [])) l1 (.lst [.ref t1])=H2 at u12 el1 et1⊢;have hT2:=hT.same u12;refine⟨_,rfl,lt,rfl,⟨_,SqL.of (u12 _ _ elt)⟩,fun Z lc hlc=> ?_⟩;refine uR (rest:=[some x]) (fun ys=>x::ys) fR (fun H3 s3=>SqL.of (s3 _ _ (u12 _ _ elt))) hT2 hlc (by omega) (fun qq ys H3 Q' hy hq s3 k=> ?_) fun σ3 H3 qs' s3 hc3 hT3=> ?_
   ·refine⟨_,rfl,by show 1<=sizeLine;decide,fun tx htx=> ?_⟩;have v1:=aG (o:=.tup [x]) htx;refine⟨_,rfl,tx,qq,_,_,rfl,rfl,aD,v1 _ _ hq,?_,fun c H5 s5 e5=>k c H5 (v1.trans s5) e5⟩;rw [←hR]at hy;have:=(iC hy).length_le;rw [length_drop]at this;rw [sizeLine_eq];show 1+_<=_;omega
   ·have hT23:=hT2.same s3;have el1':=s3 _ _ el1;refine⟨l1,lc,_,_,rfl,rfl,el1',hc3,?_,fun la hla=> ?_⟩
    ·have:qs'.length=_:=Paired.length hT3;rw [length_map]at this;rw [sizeLine_eq,length_map];show 1+_<=_;omega
    have v1:=aG (o:=.lst ([.ref t1]++qs'.map V.ref)) hla;refine⟨_,rfl,_,rfl,lt,_,rfl,SqL.of (v1 _ _ (s3 _ _ (u12 _ _ elt))),fun lb hlb=> ?_⟩;have v2:=aG (o:=.lst (cC (qs.map V.ref) (some 1) none)) hlb;have ec:cC (qs.map V.ref) (some 1) none=(qs.drop 1).map V.ref:=by
     rw [mB _ (by rw [length_map,hql,eR];simp),map_drop]
    refine⟨la,lb,_,_,rfl,rfl,v2 _ _ aD,aD,?_,fun lz hlz=> ?_⟩
    ·have:qs'.length=_:=Paired.length hT3;rw [length_map]at this;rw [ec,sizeLine_eq,length_append,length_map,length_map,length_drop];show 1+_+_<=_;omega
    have v3:=aG (o:=.lst ([.ref t1]++qs'.map V.ref++cC (qs.map V.ref) (some 1) none)) hlz;have vA:=(v1.trans v2).trans v3;have sA:=((hs.trans u12).trans s3).trans vA;refine⟨sA,lz,t1::(qs'++qs.drop 1),_,rfl,((hs.trans u12).trans s3).free (((v1.trans v2)).free hlz),?_,?_⟩
    ·rw [aD,ec];simp [map_append]
    ·rw [ed];show TusAt _ (t1::(qs'++qs.drop 1)) ([]::((rtV (xs.drop (xs.length - i))).map (x:: ·)++(rtV (xs.drop (xs.length - i))).tail));rw [hR];exact .cons (vA _ _ (s3 _ _ et1)) (iO (hT3.same vA) (sG (hT23.same vA)))
  ·rintro σ H' ⟨hs,lt,qs,o,rfl,nlt,elt,hT⟩;rw [Nat.sub_self,List.drop_zero]at hT;exact⟨_,rfl,q lt qs H' nlt hs elt hT⟩
end
end M10
namespace Wlk
open PySem PyProof.Rows Srt Cyc Grd
def tD (cs:List Pl):Prop:=cs≠[]/\∀C:List Pl,iH cs C->(∃x∈cs,x∈C)->∀y∈cs,y∈C
open Classical in
noncomputable def mX (cs:List Pl):Bool:=decide (tD cs)
theorem xS (h:iH cs C):iH cs (cs.filter fun x=> !decide (x∈C)):=fun x hx y hy hcs=>by
 have hx':=mem_filter.mp hx;refine mem_filter.mpr ⟨hcs,?_⟩;have hn:x∉C:=by simpa using hx'.2
 have:y∉C:=fun hyC=>hn (h y hyC x (kZ hy) hx'.1);simpa using this
theorem vU (h0:c0∈cs)(h:∀C,iH cs C->c0∈C->∀y∈cs,y∈C):tD cs:=by
 refine⟨fun z=> ?_,fun C hC hx0=> ?_⟩
 ·rw [z]at h0;cases h0
 obtain⟨x,hx,hxC⟩:=hx0;by_cases z:c0∈C
 ·exact h C hC z
 ·have:=h _ (xS hC) (mem_filter.mpr ⟨h0,by simpa using z⟩) x hx;have:=(mem_filter.mp this).2;simp [hxC]at this
open Classical in
theorem A3w (hu:cs.Pairwise ltP)(h:zH cs b):b=mX cs:=by
 unfold mX;rcases h with⟨rfl,rfl⟩| ⟨c0,tl,P0,rfl,hP,rfl⟩
 ·exact(zjU fun z=>z.1 rfl).symm
 ·rw [Bool.eq_iff_iff,decide_eq_true_eq,decide_eq_true_eq];constructor
  ·intro e;refine vU zjR fun C hC h0 y hy=> ?_;by_cases z:y∈C
   ·exact z
   ·have:=hP.min _ (xS hC) ⟨y,by rw [e];exact hy,mem_filter.mpr ⟨hy,by simpa using z⟩⟩;have:=(mem_filter.mp this).2;simp [h0]at this
  ·intro hc;refine wH hP.up hu fun x=> ⟨fun hx=>hP.sub x hx,fun hx=> ?_⟩;exact hc.2 P0 hP.cl ⟨c0,zjR,hP.st⟩ x hx
def fC (met rest:List Pl):List Pl:=rest.filter fun p=>met.any fun o=>eK o p
def hstep (mr:List Pl×List Pl):List Pl×List Pl:=(mr.1++fC mr.1 mr.2,mr.2.filter fun p=> !decide (p∈fC mr.1 mr.2))
def hit:Nat->List Pl×List Pl->List Pl×List Pl
 |0,mr=>mr
 |n+1,mr=>hstep (hit n mr)
structure HInv (cs:List Pl)(c0:Pl)(mr:List Pl×List Pl):Prop where
 all:∀x,x∈cs↔x∈mr.1\/x∈mr.2
 re:∀C,iH cs C->c0∈C->∀x∈mr.1,x∈C
 st:c0∈mr.1
 dj:∀x∈mr.2,x∉mr.1
theorem mem_more:x∈fC met rest↔x∈rest/\∃o∈met,x∈beside o:=by unfold fC;rw [mem_filter,any_eq_true];refine and_congr_right fun _=>exists_congr fun o=>and_congr_right fun _=> ?_;exact next_iff.trans ⟨kZ,kZ⟩
theorem HInv.step (h:HInv cs c0 mr):HInv cs c0 (hstep mr):=by
 obtain⟨met,rest⟩:=mr;refine⟨fun x=> ?_,fun C hC h0 x hx=> ?_,mem_append.mpr (.inl h.st),fun x hx hm=> ?_⟩
 ·rw [h.all x];show _↔x∈met++fC met rest\/x∈rest.filter _;rw [mem_append,mem_filter];constructor
  ·rintro(z|z)
   ·exact .inl (.inl z)
   ·by_cases y:x∈fC met rest
    ·exact .inl (.inr y)
    ·exact .inr ⟨z,by simpa using y⟩
  ·rintro((z|z)|z)
   ·exact .inl z
   ·exact .inr (mem_more.mp z).1
   ·exact .inr z.1
 ·rcases mem_append.mp hx with z|z
  ·exact h.re C hC h0 x z
  ·obtain⟨z1,o,ho,hb⟩:=mem_more.mp z;exact hC o (h.re C hC h0 o ho) x hb ((h.all x).mpr (.inr z1))
 ·have hx':=mem_filter.mp hx;rcases mem_append.mp hm with z|z
  ·exact h.dj x hx'.1 z
  ·have:=hx'.2;rw [zjV z]at this;cases this
theorem zU (h:HInv cs c0 mr):∀n,HInv cs c0 (hit n mr)
 |0=>h
 |n+1=>(zU h n).step
theorem tY:∀{l:List α}{x:α},x∈l->p x=false->(l.filter p).length<l.length
 |y::l,x,h,hp=>by
  rcases mem_cons.mp h with rfl|h
  ·rw [filter_cons_of_neg (by rw [hp];decide),length_cons];exact Nat.lt_succ_of_le (length_filter_le _ _)
  ·have:=tY h hp;have h2:=length_filter_le p l;rw [List.filter_cons]
   split<;>simp only [length_cons]<;>omega
theorem hit_stop (mr:List Pl×List Pl):∀n,(hit n mr).2=[]\/fC (hit n mr).1 (hit n mr).2=[]\/(hit n mr).2.length+n<=mr.2.length
 |0=> .inr (.inr (zjQ _))
 |n+1=>by
  show(hstep (hit n mr)).2=[]\/fC (hstep (hit n mr)).1 (hstep (hit n mr)).2=[]\/(hstep (hit n mr)).2.length+(n+1)<=mr.2.length;rcases hit_stop mr n with h|h|h
  ·left
   show filter _ _=[];rw [h];rfl
  ·right;left
   unfold hstep;rw [h,append_nil];have ef:(hit n mr).2.filter (fun p=> !decide (p∈([]:List Pl)))=(hit n mr).2:=List.filter_eq_self.mpr fun a _=>by simp
   rw [ef];exact h
  ·by_cases z:fC (hit n mr).1 (hit n mr).2=[]
   ·right;left
    unfold hstep;rw [z,append_nil];have ef:(hit n mr).2.filter (fun p=> !decide (p∈([]:List Pl)))=(hit n mr).2:=List.filter_eq_self.mpr fun a _=>by simp
    rw [ef];exact z
   ·right;right
    obtain⟨x,xs,e⟩:=exists_cons_of_ne_nil z;have hx:x∈fC (hit n mr).1 (hit n mr).2:=by rw [e];exact zjR
    have:=tY (p:=fun p=> !decide (p∈fC (hit n mr).1 (hit n mr).2)) (mem_more.mp hx).1 (by rw [zjV hx];rfl);show(filter _ _).length+(n+1)<=_;omega
open Classical in
theorem B1a (nd:(c0::tl).Nodup):((hit (tl.length+1) ([c0],tl)).2=[])↔tD (c0::tl):=by
 have h0:HInv (c0::tl) c0 ([c0],tl):=⟨fun x=>by simp,fun C _ hc x hx=>by rw [mem_singleton.mp hx];exact hc,zjR,fun x hx hm=>by
  rw [mem_singleton.mp hm]at hx;exact(nodup_cons.mp nd).1 hx⟩
 have h:=zU h0 (tl.length+1);have hs:=hit_stop ([c0],tl) (tl.length+1);generalize hit (tl.length+1) ([c0],tl)=mr at h hs;constructor
 ·intro e;refine vU zjR fun C hC hc y hy=> ?_;rcases(h.all y).mp hy with z|z
  ·exact h.re C hC hc y z
  ·rw [e]at z;cases z
 ·intro hc;rcases hs with z|z|z
  ·exact z
  ·have hcl:iH (c0::tl) mr.1:=fun x hx y hy hcs=>by
    rcases(h.all y).mp hcs with u|u
    ·exact u
    ·have:y∈fC mr.1 mr.2:=mem_more.mpr ⟨u,x,hx,hy⟩;rw [z]at this;cases this
   have:=hc.2 mr.1 hcl ⟨c0,zjR,h.st⟩;cases e:mr.2 with
   |nil=>rfl
   |cons x xs=>
    have hx:x∈mr.2:=by rw [e];exact zjR
    exact absurd (this x ((h.all x).mpr (.inr hx))) (h.dj x hx)
  ·have:tl.length+1<=tl.length:=le_trans (Nat.le_add_left _ _) z;omega
end Wlk
namespace L2
open PySem PyProof.Rows Wlk
theorem iM:∀{l:List α}{m:List β}{i:Nat}{a:α},Paired F l m->l[i]?=some a->∃b,m[i]?=some b/\F a b
 |_,_,0,_,.cons r _,h=>by cases h;exact⟨_,rfl,r⟩
 |_,_,i+1,_,.cons _ t,h=>iM (i:=i) t (by simpa using h)
theorem gL {α:Type}{R:Hp->Addr->α->Prop}(rx:∀{H H' q a},Ext H H'->R H q a->R H' q a){J:It}{S:Hp->Prop}{l:Addr}{qs:List Addr}{ts:List α}{H0:Hp}{rest:St}{Q:St->Hp->Prop}{tt:TT}(p:α->Bool)(W:Wk J (qs.map V.ref) S)(hS:∀H',Same H0 H'->S H')(hC:Paired (R H0) qs ts)(hl:H0 l=none)(hz:qs.length<=999)
  (tst:∀b c H' Q',c∈ts->R H' b c->Same H0 H'->(∀H2,Same H' H2->Q' (p c) H2)->tt (some (.ref b)::rest) H' Q')
  (hQ:∀σ H' qs',Same H0 H'->H' l=some (.lst ((qs':List Addr).map V.ref))->Paired (R H') qs' (ts.filter p)->Q σ H'):
  cX J (dD 0) (cI tt (fA l (cY 0))) (eC Q) (none::rest) (upd H0 l (.lst [])):=by
 have hlen:qs.length=ts.length:=Paired.length hC;refine W (fun i σ H'=>(∃x,σ=x::rest)/\Same H0 H'/\∃bs':List Addr,H' l=some (.lst (bs'.map V.ref))/\Paired (R H') bs' ((ts.take i).filter p)) ⟨⟨_,rfl⟩,aG hl,[],by rw [aD];rfl,.nil⟩ (fun i σ H' _ h=>hS _ h.2.1) ?_ ?_
 ·rintro i x σ H' hx ⟨⟨x0,rfl⟩,hs,bs',hl',hP⟩;rw [getElem?_map]at hx;cases hb:qs[i]? with
  |none=>rw [hb]at hx;cases hx
  |some b=>
   rw [hb]at hx;cases hx;obtain⟨c,hc,he⟩:=iM hC hb;have hi:i<qs.length:=(zjW.mp hb).1;have et:(ts.take (i+1)).filter p=(ts.take i).filter p++(if p c=true then [c]else []):=by
    rw [take_succ,hc,filter_append]
    congr 1
    by_cases z:p c=true
    ·simp [z]
    ·simp [z]
   have hfl:=length_filter_le p (ts.take i);rw [length_take]at hfl;have hbl:bs'.length=_:=Paired.length hP;refine tst b c H' _ (mem_of_getElem? hc) (rx hs.ext he) hs fun H2 h2=> ?_;have hl2:=h2 _ _ hl';refine cF (fun hz'=> ?_) fun hz'=> ?_
   ·have x2:Ext H2 (upd H2 l (.lst (bs'.map V.ref++[.ref b]))):=Ext.updL hl2;refine⟨_,rfl,_,hl2,cM (by rw [length_map];omega),⟨_,rfl⟩,fun b2 u e=> ?_,bs'++[b],?_,?_⟩
    ·rw [aV (bL e hl)];exact h2 _ _ (hs _ _ e)
    ·rw [aD,map_append];rfl
    ·rw [et,if_pos hz'];exact Paired.snoc (Paired.mapP hP fun _ _ e=>rx x2 (rx h2.ext e)) (rx x2 (rx (hs.ext.trans h2.ext) he))
   ·refine⟨⟨_,rfl⟩,hs.trans h2,bs',hl2,?_⟩;rw [et,if_neg (by rw [hz'];decide),append_nil];exact Paired.mapP hP fun _ _ e=>rx h2.ext e
 ·rintro σ H' ⟨_,hs,bs',hl',hP⟩;rw [length_map,hlen,take_of_length_le (zjQ _)]at hP;exact hQ σ H' bs' hs hl' hP
end L2
namespace M10
open PySem L2 PyProof.Rows Grd Wlk Cyc Srt
theorem SqA.ext (h:SqA H a cs)(e:Ext H H'):SqA H' a cs:=let ⟨ps,h1,h2⟩:=h;⟨ps,e.tup _ _ h1,Paired.mapP h2 fun _ _ z=>e.tup _ _ z⟩
def LansAt (H:Hp)(qs:List Addr)(ts:List (List Pl)):Prop:=Paired (fun q cs=>SqA H q cs) qs ts
theorem LansAt.ext (h:LansAt H qs ts)(e:Ext H H'):LansAt H' qs ts:=Paired.mapP h fun _ _ x=>SqA.ext x e
theorem A4i (h:PlAt H ps A):Paired (fun p c=>PlAt H p c) (rtV ps) (rtV A):=by
 induction h with
 |nil=>exact .cons .nil .nil
 | @cons p0 c0 _ _ r t ih=>
  unfold rtV;refine .cons .nil (iO ?_ ?_)
  ·have:∀{l:List (List Addr)}{m:List (List Pl)},Paired (fun p c=>PlAt H p c) l m->Paired (fun p c=>PlAt H p c) (l.map (p0:: ·)) (m.map (c0:: ·)):=by
    intro l m h
    induction h with
    |nil=>exact .nil
    |cons r2 t2 ih2=>exact .cons (.cons r r2) ih2
   exact this ih
  ·have:∀{l:List (List Addr)}{m:List (List Pl)},Paired (fun p c=>PlAt H p c) l m->Paired (fun p c=>PlAt H p c) l.tail m.tail:=by
    intro l m h;cases h with
    |nil=>exact .nil
    |cons r2 t2=>exact t2
   exact this ih
theorem qC (f:α->β):∀xs:List α,rtV (xs.map f)=(rtV xs).map (List.map f)
 | []=>rfl
 |x::xs=>by
  have ih:=qC f xs;show []::((rtV (xs.map f)).map (f x:: ·)++(rtV (xs.map f)).tail)=[]::((rtV xs).map (x:: ·)++(rtV xs).tail).map (List.map f);rw [ih,map_append,map_map,map_map,map_tail];rfl
theorem A7i (h:TusAt H qs (rtV (ps.map V.ref)))(hP:PlAt H ps A):LansAt H qs (rtV A):=by
 rw [qC]at h;have key:∀{qs:List Addr}{l:List (List Addr)}{m:List (List Pl)},TusAt H qs (l.map (List.map V.ref))->Paired (fun p c=>PlAt H p c) l m->LansAt H qs m:=by
  intro qs l m h1 h2
  induction h2 generalizing qs with
  |nil=>cases h1;exact .nil
  |cons r t ih=>
   cases h1 with
   |cons r1 t1=>exact .cons ⟨_,r1,r⟩ (ih t1)
 exact key h (A4i hP)
noncomputable def iX (g:bF)(cs:List Pl):Bool:=(cs.any fun c=>decide (c∈(bA pos g).filter (fW g)))&&mX cs
noncomputable def oH (g:bF):List (List Pl):=(rtV (bA pos g)).filter (iX g)
def ab (i:Int):Int:=if i<0 then -i else i
def kC (g:bF)(cs:List Int)(cl:List C3)(od i:Int)(L:List Pl):Bool:=decide (ab (cH g L*kN g cs cl i - nI g cs cl i)<=od*kN g cs cl i)
def A28:Sp:=fun vs H Q _=> ∃t l g w cs ps,vs=[.ref t,.ref l]/\SqA H t cs/\dO g w/\LandOf g cs/\H l=some (.lst ((ps:List Addr).map V.ref))/\PlAt H ps ((bA pos g).filter (fW g))/\∀H',Same H H'->Q (.bl (iX g cs)) H'
def yE:Sp:=fun vs H Q _=> ∃a g w,vs=[.ref a]/\GridAt H a g/\dO g w/\dG g<=6/\∀l qs H',H l=none->Same H H'->H' l=some (.lst ((qs:List Addr).map V.ref))->LansAt H' qs (oH g)->Q (.ref l) H'
section
variable {P:Program}{w:World}{K:W.Frag}{mg:Str->Option Value}{base:Heap}
theorem LandOf.up (h:LandOf g cs):cs.Pairwise ltP:=(oD pos g).sublist h
theorem A7r (F:D1 K mg "is_sound" zN ["land","roadside"])(a1:A1 P w K mg base 1 "has_some_of" A2v)(a2:A1 P w K mg base 3 "is_one_piece" A2i):A1 P w K mg base 4 "is_sound" A28:=by
 refine F.k ["land","roadside"] ?_;ac_nf
 ·obtain⟨t,l,g,w',cs,ps,rfl,ht,G,hL,hl,hP,q⟩:=h;have h10:=LandOf.len G hL;refine⟨_,aR (aY (fP (a1.c hr (aB (pv 0) (aB (pv 1) aA))) (fO (a2.c hr (aB (pv 0) aA))))),?_⟩;refine⟨_,rfl,_,rfl,t,l,cs,ps,_,rfl,ht,by omega,hl,hP,fun H1 s1=> ⟨_,rfl,cF (fun e=> ?_) fun e=> ?_⟩⟩
  ·refine⟨_,rfl,t,cs,rfl,SqA.ext ht s1.ext,h10,fun b H2 s2 hb=> ?_⟩;have:=q H2 (s1.trans s2);unfold iX at this;rw [e,Bool.true_and,←A3w (LandOf.up hL) hb]at this;exact this
  ·have:=q H1 s1;unfold iX at this;rw [e,Bool.false_and]at this;exact this
end
theorem pX (h6:dG g<=6):(rtV (bA pos g)).length<=64:=by rw [pT,fE];exact le_trans (pow_le_pow_right (by decide) h6) (by decide)
section
variable {P:Program}{w:World}{K:W.Frag}{mg:Str->Option Value}{base:Heap}
theorem A9b:(["land","roadside"]:List Str).Nodup:=by decide +kernel
theorem B2b (F:D1 K mg "sound_lands" sV ["mead"])(a1:A1 P w K mg base 7 "cells_at_road" yD)(a2:A1 P w K mg base 1 "rising_tuples" uU)(a3:A1 P w K mg base 6 "cells_of" (eY pos))(a4:A1 P w K mg base 4 "is_sound" A28):A1 P w K mg base 8 "sound_lands" yE:=by
 refine F.k ["mead","roadside"] ?_;ac_nf
 ·obtain⟨a,g,w',rfl,hA,G,c6,q⟩:=h;refine⟨_,aU (bK (i:=1) nd rfl (Or.inr rfl) (a1.c hr (aB (pv 0) aA)))<|
   aR (aY (bM (bD sV).names ["mead","roadside"] ["land"] [("roadside",1)] rfl (cT (a2.c hr (bV (a3.c hr (aB (pv 0) aA)) aA))) rfl rfl rfl (by decide +kernel)
    (fun Z=>nm1 0 A9b) (fun Z=>eE (bN (a4.c hr (aB (pv 0) (aB (pv 1) aA))))) (fun Z=>pv 0))),?_⟩
  refine⟨_,rfl,a,g,w',rfl,hA,G,fun H1 lr pr hlr s1 elr hR=> ?_⟩;refine⟨_,rfl,a,g,w',rfl,hA.same s1,G,fun H2 lc pc hlc s2 elc hP=> ?_⟩;have hpl:pc.length=(bA pos g).length:=Paired.length hP;refine⟨lc,_,rfl,elc,by rw [length_map,hpl,fE];exact c6,fun lt qs H3 hlt s3 elt hT=> ?_⟩;have hL:=A7i hT (hP.same s3);have hql:qs.length=_:=Paired.length hL;have h64:=pX c6;have s23:=s2.trans s3;refine⟨lt,rfl,⟨_,SqL.of elt⟩,fun Z l hl=> ?_⟩;refine gL (R:=fun H q cs=>SqA H q cs) (fun e h=>SqA.ext h e) (rest:=[some (.ref lr)]) (iX g) fR (fun H' hs=>SqL.of (hs _ _ elt)) hL hl (by omega) (fun b c H' Q' hc hb hs k=> ?_) fun σ H' qs' hs el' hP'=> ?_
  ·exact⟨_,rfl,_,rfl,b,lr,g,w',c,pr,rfl,hb,G,iC hc,hs _ _ (s23 _ _ elr),(hR.same s23).same hs,fun H2' s2'=> ⟨_,rfl,k H2' s2'⟩⟩
  ·have sA:=(s1.trans s23).trans hs;exact q l qs' H' ((s1.trans s23).free hl) sA el' hP'
theorem nY:bootBuiltins "abs" =some (.builtin "abs"):=by decide +kernel
def wZ:Sp:=fun vs H Q _=> ∃p g w cs cl od i l qs Ls,vs=[.ref p,.int i,.ref l]/\PleA H p g w cs cl od/\eN cl i=true/\H l=some (.lst ((qs:List Addr).map V.ref))/\LansAt H qs Ls/\Ls.length<=64/\(∀L∈Ls,LandOf g L)/\∀l' qs' H',H l'=none->Same H H'->H' l'=some (.lst ((qs':List Addr).map V.ref))->LansAt H' qs' (Ls.filter (kC g cs cl od i))->Q (.ref l') H'
theorem B4b {g:bF}{w:Nat}(G:dO g w){c:Pl}(hc:c∈bA pos g):0<=atG g c/\atG g c<=99:=by obtain⟨i,j,xs,x,rfl,hx,hj,hp⟩:=mem_gridF.mp hc;rw [lC hx hj];exact⟨of_decide_eq_true hp,(G.num xs (mem_of_getElem? hx) x (mem_of_getElem? hj)).2⟩
theorem lJ {g:bF}{w:Nat}(G:dO g w){L:List Pl}(h:∀c∈L,c∈bA pos g)(h10:L.length<=10):0<=cH g L/\cH g L<=990:=by
 have hv:∀c∈bA pos g,0<=atG g c/\atG g c<=99:=fun c hc=>B4b G hc;have:0<=cH g L/\cH g L<=99*L.length:=by
  unfold cH;clear h10
  induction L with
  |nil=>exact⟨by simp,by simp⟩
  |cons c L ih=>
   have i:=ih fun d hd=>h d (zjS _ hd);have hc:=hv c (h c zjR);rw [map_cons,sum_cons,length_cons];omega
 omega
abbrev nWD:List Str:=["plea","holder","lands","mead","custom","claims","odd","top","bottom"]
theorem B1s:(["land","mead","bottom","top","odd"]:List Str).Nodup:=by decide +kernel
theorem A44 (F:D1 K mg "worth_the_due" qR ["plea","holder","lands"])(T2:dC mg)(a1:A1 P w K mg base 9 "due_of" xG)(a2:A1 P w K mg base 1 "worth_together" qH):A1 P w K mg base 10 "worth_the_due" wZ:=by
 refine F.k nWD ?_;ac_nf
 ·obtain⟨p,g,w',cs,cl,od,i,l,qs,Ls,rfl,D,hh,hl,hL,h64,hLs,q⟩:=h;obtain⟨m,c,a,hp,hm,hc,ha⟩:=D.ex;refine⟨_,aU (dP (pv 0) (bU rfl (aW (aJ (i:=3) nd rfl (Or.inr rfl)) (aW (nm1 4 nd) (aW (nm1 5 nd) (aW (aJ (i:=6) nd rfl (Or.inr rfl)) bT))))))<|
   aU (dP (a1.c hr (aB (pv 0) (aB (pv 1) aA))) (bU rfl (aW (aJ (i:=7) nd rfl (Or.inr rfl)) (aW (aJ (i:=8) nd rfl (Or.inr rfl)) bT))))<|
   aR (aY (bM (bD qR).names nWD ["land"] [("mead",3),("bottom",8),("top",7),("odd",6)] rfl (cT (pv 2)) rfl rfl rfl (by decide +kernel)
    (fun Z=>nm1 0 B1s) (fun Z=>eE (cB iI (bE nM rfl T2.abs nY (eU (bB gU (bB dQ (a2.c hr (aB (pv 1) (aB (pv 0) aA))) (pv 2)) (pv 3)) aA)) (bB dQ (pv 4) (pv 2)) (nomark _))) (fun Z=>pv 0))),?_⟩
  refine⟨_,rfl,p,_,rfl,SqT.of hp,rfl,_,_,rfl,_,_,rfl,_,_,rfl,_,_,rfl,rfl,?_⟩;refine⟨_,rfl,_,rfl,p,g,w',cs,cl,od,i,rfl,D,hh,fun t H1 s1 ht=> ?_⟩;refine⟨t,_,rfl,SqT.of ht,rfl,_,_,rfl,_,_,rfl,rfl,?_⟩;have hql:qs.length=_:=Paired.length hL;refine⟨_,rfl,l,rfl,⟨_,SqL.of (s1 _ _ hl)⟩,fun Z lz hlz=> ?_⟩;refine gL (R:=fun H q cs=>SqA H q cs) (fun e h=>SqA.ext h e) (rest:=[some (.ref m),some (.int (kN g cs cl i)),some (.int (nI g cs cl i)),some (.int od)]) (kC g cs cl od i) fR (fun H' hs=>SqL.of (hs _ _ (s1 _ _ hl))) (hL.ext s1.ext) hlz (by omega) (fun b L H' Q' hc hb hs k=> ?_) fun σ H' qs' hs el' hP'=> ?_
  ·have hLL:=hLs L hc;refine⟨_,rfl,_,rfl,m,b,g,w',L,rfl,(hm.same s1).same hs,D.G,hb,hLL,fun H2 s2=> ?_⟩;have wb:=lJ D.G (fun c hc=>hLL.subset hc) (LandOf.len D.G hLL);refine⟨_,rfl,_,_,rfl,rfl,.inl ⟨by omega,by omega⟩,_,rfl,_,_,rfl,rfl,_,rfl,_,rfl,_,rfl,_,_,rfl,rfl,.inl ⟨by have:=D.o9;omega,by have:=D.o9;omega⟩,_,_,rfl,rfl,_,rfl,?_⟩;exact k H2 s2
  ·exact q lz qs' H' (s1.free hlz) (s1.trans hs) el' hP'
end
end M10
namespace M10
open PySem L2 PyProof.Rows Grd Wlk Cyc Srt Set4
noncomputable def gK (g:bF)(cs:List Int)(cl:List C3)(od:Int)(i:Int):List (List Pl):=(oH g).filter (kC g cs cl od i)
def hoI (cl:List C3):List Int:=(aX (holdS cl)).map fun k:Nat=>(k:Int)
def A9m (H:Hp)(d:Addr)(hs:List Int)(F:Int->List (List Pl)):Prop:=∃ls:List Addr,H d=some (.dK ((hs.zip ls).map fun z=>(Sum.inl z.1,V.ref z.2)))/\Paired (fun i l=> ∃qs,H l=some (.lst ((qs:List Addr).map V.ref))/\LansAt H qs (F i)) hs ls
def A3a:Sp:=fun vs H Q _=> ∃p g w cs cl od,vs=[.ref p]/\PleA H p g w cs cl od/\∀d H',H d=none->Same H H'->A9m H' d (hoI cl) (gK g cs cl od)->Q (.ref d) H'
theorem zY (h:i∈hoI cl):eN cl i=true:=by
 unfold hoI at h;obtain⟨k,hk,rfl⟩:=mem_map.mp h;unfold aX at hk;have key:∀b0 b1 b2 b3:Bool,k∈L b0 b1 b2 b3->(k=0/\b0=true)\/(k=1/\b1=true)\/(k=2/\b2=true)\/(k=3/\b3=true):=by
  intro b0 b1 b2 b3 h;cases b0<;>cases b1<;>cases b2<;>cases b3<;>simp [L]at h<;>simp [h]
 rcases key _ _ _ _ hk with⟨rfl,e⟩| ⟨rfl,e⟩| ⟨rfl,e⟩| ⟨rfl,e⟩<;>exact e
theorem jR (cl:List C3):(hoI cl).length<=4:=by
 unfold hoI aX;rw [length_map];have key:∀b0 b1 b2 b3:Bool,(L b0 b1 b2 b3).length<=4:=by decide
 exact key _ _ _ _
theorem lG (cl:List C3):(hoI cl).Nodup:=by
 unfold hoI aX;have key:∀b0 b1 b2 b3:Bool,((L b0 b1 b2 b3).map fun k:Nat=>(k:Int)).Nodup:=by decide
 exact key _ _ _ _
section
variable {P:Program}{w:World}{K:W.Frag}{mg:Str->Option Value}{base:Heap}
abbrev nFA:List Str:=["plea","mead","custom","claims","odd","lands"]
theorem B3v:(["holder","plea","lands"]:List Str).Nodup:=by decide +kernel
theorem A5l (F:D1 K mg "fits_of_all" oF ["plea"])(a1:A1 P w K mg base 6 "check_plea" (jY .non))(a2:A1 P w K mg base 8 "sound_lands" yE)(a3:A1 P w K mg base 10 "worth_the_due" wZ)(a4:A1 P w K mg base 6 "holders_of" jO):A1 P w K mg base 11 "fits_of_all" A3a:=by
 refine F.k nFA ?_;ac_nf
 ·obtain⟨p,g,w',cs,cl,od,rfl,D,q⟩:=h;have hu:(A.deeper (envOfC "fits_of_all" (bD oF) s.heap.objs.size f cdv)).units<cLine:=by have:=hr.un;omega
  refine⟨_,aU (eF (a1.c hr (aB (pv 0) aA)))<|
   aU (dP (pv 0) (bU rfl (aW (nm1 1 nd) (aW (nm1 2 nd) (aW (nm1 3 nd) (aW (nm1 4 nd) bT))))))<|
   aU (bK (i:=5) nd rfl (Or.inr rfl) (a2.c hr (aB (pv 1) aA)))<|
   aR (aY (wB (bD oF).names nFA ["holder"] [("plea",0),("lands",5)] rfl (cT (a4.c hr (aB (pv 3) aA))) rfl rfl rfl (by decide +kernel)
    (fun Z=>nm1 0 B3v) (fun Z=>cA) hu (fun Z=>pv 0) (fun Z=>a3.c hr (aB (pv 1) (aB (pv 0) (aB (pv 2) aA)))))),?_⟩
  refine⟨_,rfl,p,g,w',cs,cl,od,rfl,D,fun H1 s1=> ?_⟩;obtain⟨m,c,a,hp,hm,hc,ha⟩:=(D.same s1).ex;refine⟨_,rfl,p,_,rfl,SqT.of hp,rfl,_,_,rfl,_,_,rfl,_,_,rfl,_,_,rfl,rfl,?_⟩;refine⟨_,rfl,m,g,w',rfl,hm,D.G,D.c6,fun ll qs H2 hll s2 ell hL=> ?_⟩;refine⟨_,rfl,a,cl,rfl,ha.ext s2.ext,D.ck,fun lh H3 hlh s3 elh=> ?_⟩;have eho:((aX (holdS cl)).map fun k:Nat=>V.int (k:Int))=(hoI cl).map V.int:=by unfold hoI;rw [map_map];rfl
  rw [eho]at elh;have s23:=s2.trans s3;have h64:(oH g).length<=64:=le_trans (length_filter_le _ _) (pX D.c6);refine⟨lh,rfl,⟨_,SqL.of elh⟩,fun Z d hd=> ?_⟩;have hz4:(hoI cl).length<=4:=jR cl;refine fX (K:=K) (a:=lh) (xs:=(hoI cl).map V.int) (fun i σ H'=>(∃o,σ=[o,some (.ref p),some (.ref ll)])/\Same H3 H'/\∃ls:List Addr,H' d=some (.dK ((((hoI cl).take i).zip ls).map fun z=>(Sum.inl z.1,V.ref z.2)))/\Paired (fun i l=> ∃qs,H' l=some (.lst ((qs:List Addr).map V.ref))/\LansAt H' qs (gK g cs cl od i)) ((hoI cl).take i) ls)
   ⟨⟨_,rfl⟩,aG hd,[],aD,.nil⟩ (fun i σ H' _ h=>SqL.of (h.2.1 _ _ elh)) ?_ ?_
  ·rintro i x σ H' hx ⟨⟨o,rfl⟩,hs,ls,ed,hP⟩;rw [getElem?_map]at hx;cases hb:(hoI cl)[i]? with
   |none=>rw [hb]at hx;cases hx
   |some k=>
    rw [hb]at hx;cases hx;have hi:i<(hoI cl).length:=(zjW.mp hb).1;have hk:=zY (mem_of_getElem? hb);have hll:ls.length=i:=by
     have:((hoI cl).take i).length=ls.length:=Paired.length hP;rw [length_take]at this;omega
    refine kX ?_;refine⟨_,rfl,?_⟩;refine⟨_,rfl,_,rfl,_,rfl,p,g,w',cs,cl,od,k,ll,qs,oH g,rfl,(((D.same s1).same s23).same hs),hk,hs _ _ (s3 _ _ ell),(hL.ext s3.ext).ext hs.ext,h64,fun L hL'=>iC (mem_filter.mp hL').1,fun l' qs' H4 hl' s4 el' hL'=> ?_⟩;have ed4:=s4 _ _ ed;have hne:eD ((((hoI cl).take i).zip ls).map fun z=>((Sum.inl z.1:Key),V.ref z.2)) (Sum.inl k)=none:=by
     unfold eD;rw [List.find?_eq_none.mpr fun z hz=> ?_];rfl;obtain⟨y,hy,rfl⟩:=mem_map.mp hz;have hy1:y.1∈(hoI cl).take i:=(of_mem_zip hy).1;have hn:y.1≠k:=fun e=>by
      rw [e]at hy1;obtain⟨j,hj,ej⟩:=List.mem_take_iff_getElem.mp hy1;have:=(zjW.mp hb).2;have hij:j=i:=(getElem_inj (lG cl)).mp (ej.trans this.symm);omega
     simp [hn]
    have et:(hoI cl).take (i+1)=(hoI cl).take i++[k]:=by rw [take_succ,hb];rfl
    have ez:(((hoI cl).take i++[k]).zip (ls++[l'])).map (fun z=>((Sum.inl z.1:Key),V.ref z.2))=(((hoI cl).take i).zip ls).map (fun z=>((Sum.inl z.1:Key),V.ref z.2))++[(Sum.inl k,.ref l')]:=by
     rw [List.zip_append (by rw [length_take,hll];omega),map_append];rfl
    refine⟨_,Sum.inl k,rfl,ed4,?_,⟨_,rfl⟩,fun b u e=> ?_,ls++[l'],?_,?_⟩
    ·rw [length_map,length_zip,length_take,sizeLine_eq];omega
    ·rw [aV (bL e hd)];exact s4 _ _ (hs _ _ e)
    ·rw [aD,xY _ hne,et,ez]
    ·have x4:∀b xs,H4 b=some (.lst xs)->(upd H4 d (.dK (cO ((((hoI cl).take i).zip ls).map fun z=>((Sum.inl z.1:Key),V.ref z.2)) (Sum.inl k) (.ref l')))) b=some (.lst xs):=fun b xs e=>by rw [aV (fun z=>by rw [z,ed4]at e;cases e)];exact e
     have x5:∀b xs,H4 b=some (.tup xs)->(upd H4 d (.dK (cO ((((hoI cl).take i).zip ls).map fun z=>((Sum.inl z.1:Key),V.ref z.2)) (Sum.inl k) (.ref l')))) b=some (.tup xs):=fun b xs e=>by rw [aV (fun z=>by rw [z,ed4]at e;cases e)];exact e
     have lx:∀{qs:List Addr}{Ls:List (List Pl)},LansAt H4 qs Ls->LansAt (upd H4 d (.dK (cO ((((hoI cl).take i).zip ls).map fun z=>((Sum.inl z.1:Key),V.ref z.2)) (Sum.inl k) (.ref l')))) qs Ls:=fun h=>Paired.mapP h fun _ _ ⟨ps,h1,h2⟩=> ⟨ps,x5 _ _ h1,Paired.mapP h2 fun _ _ z=>x5 _ _ z⟩;rw [et];exact Paired.snoc (Paired.mapP hP fun _ _ ⟨qq,h1,h2⟩=> ⟨qq,x4 _ _ (s4 _ _ h1),lx (h2.ext s4.ext)⟩) ⟨qs',x4 _ _ el',lx hL'⟩
  ·rintro σ H' ⟨_,hs,ls,ed,hP⟩;rw [length_map,take_of_length_le (zjQ _)]at ed hP;exact q d H' ((s1.trans s23).free hd) ((s1.trans s23).trans hs) ⟨ls,ed,hP⟩
end
end M10
namespace PySem
section
theorem B2l (hit:s.heap.IsKeyIter it d i n ep)(h:Q (.ref it) s):wpAny (model prog w) A (pyIter (.ref it)) Q E s:=by have hT:s.TypeIs (.ref it) "dict_keyiterator":=hit.typeIs;refine wpAny_pyIter_slot hT F.slot_dict_keyiterator_iter (wpAny_call_entry F.slot_dict_keyiterator_iter hT F.entry_dict_keyiterator_iter ?_ (F.args_dict_keyiterator_iter_1 _));show wpAny _ _ (ret (.ref it)) _ _ s;exact zjY ⟨_,rfl,"dict_keyiterator",_,hT,F.slot_dict_keyiterator_next.lookup,h⟩
end
end PySem
namespace L2
open PySem PySem.Spec PyProof.Rows
def Itd (d:Addr)(o:Obj)(kvs:List (Key×V)):It:=
 ⟨fun i H=>H d=some (.frz o (.dK kvs))/\i<kvs.length,fun i H v H'=>H'=H/\∃k x,kvs[i]?=some (k,x)/\v=kV k,fun i H=>H d=some (.frz o (.dK kvs))/\i=kvs.length⟩
theorem B0i {κ:Type}{l:List (κ×V)}{m:List (κ×Value)}(r:KV l m):∀{j:Nat}{k:κ}{x:V},l[j]?=some (k,x)->∃u,m[j]?=some (k,u):=by
 induction r with
 |nil=>intro j k x h;simp at h
 |cons r t ih=>
  intro j k x h;cases j with
  |zero=>
   simp only [List.getElem?_cons_zero,Option.some.injEq]at h⊢;subst h;exact⟨_,Prod.ext r.1.symm rfl⟩
  |succ j=>simp only [List.getElem?_cons_succ]at h⊢;exact ih h
theorem A92 (h:(dN P w).is k u=true):RelV (kV k) u:=by
 rcases keyIs_shape h with⟨i,t,rfl,rfl⟩| ⟨x,t,rfl,rfl⟩
 ·exact⟨t,rfl⟩
 ·exact⟨t,rfl⟩
theorem wR (hd:o.data= .dict ens ep)(x:ObjOk P w H h d (.frz o (.dK kvs))):∃vs,KV kvs vs/\h.DictAt (dN P w) d vs ep:=by obtain⟨ho,_,_,vs,r,o',es',ep',ho',hx',hd',rest⟩:=x;rw [ho]at ho';cases ho';rw [hd]at hd';cases hd';exact⟨vs,r,o,ens,ho,hx',hd,rest⟩
theorem A45 {P:Program}{w:World}{K:W.Frag}{tg:Expr}(it d:Addr)(o:Obj)(kvs:List (Key×V))(ens:Array DictEntry)(ep:Nat)(hd:o.data= .dict ens ep):
  gE P w K tg (Itd d o kvs) [it] it (fun i h=>h.IsKeyIter it d i kvs.length ep)where
 mem:=by simp
 obj:=fun i h st b hb=>by
  have e:b=it:=by simpa using hb
  subst e;obtain⟨o,e,c,d⟩:=st;exact⟨o,e,fun v z=>by rw [d]at z;cases z⟩
 keep:=fun i h h' st k=>by
  obtain⟨o,e,c⟩:=st;exact⟨o,k it (by simp) o e,c⟩
 item:=by
  intro X hP hw hK hc i pins s σ H E I hf st hg;subst hP hw hK;obtain⟨g1,g2⟩:=hg;obtain⟨vs,r,hm⟩:=wR hd (show ObjOk X.prog X.w H s.heap d (.frz o (.dK kvs))from I.hok _ _ g1);have hl:kvs.length=vs.length:=Paired.length r;obtain⟨f0,f1,f2,f3,f4,f5⟩:=hf it (by simp);obtain⟨u,hu⟩:=B0i r (getElem?_eq_getElem g2:kvs[i]?=some (kvs[i].1,kvs[i].2));have st0:s.heap.IsKeyIter it d i vs.length ep:=by rw [←hl];exact st
  refine wpAny_pyNext_dict_item st0 hm hu fun key h' hk st2 sb=> ?_;have I1:Inv X pins σ H {s with heap:=h'}:=I.turned (t':=s.toks) (fun b o hb e=>(sb.2 b hb).trans e) f0 f1 f3 f4 f5;have st3:h'.IsKeyIter it d (i+1) kvs.length ep:=by rw [hl];exact st2
  obtain⟨o',e,c,d'⟩:=id st2;exact⟨key,rfl,lY (s:={s with heap:=h'}) e c d' (by decide) ⟨kV kvs[i].1,H,I1,A92 hk,⟨rfl,_,_,getElem?_eq_getElem g2,rfl⟩,st3,fun b hb=>(hf b hb).1⟩⟩
 done:=by
  intro X hP hw hK hc i pins s σ H E I hf st hg;subst hP hw hK;obtain⟨g1,g2⟩:=hg;obtain⟨vs,r,hm⟩:=wR hd (show ObjOk X.prog X.w H s.heap d (.frz o (.dK kvs))from I.hok _ _ g1);have hl:kvs.length=vs.length:=Paired.length r;obtain⟨f0,f1,f2,f3,f4,f5⟩:=hf it (by simp);have st0:s.heap.IsKeyIter it d i vs.length ep:=by rw [←hl];exact st
  exact wpAny_pyNext_dict_end (I.ok.hd hc) st0 hm (List.getElem?_eq_none (by omega)) fun h' eb=> ⟨rfl,I.turned (t':=s.toks) (fun b o hb e=>eb b o hb e) f0 f1 f3 f4 f5⟩
 self:=fun _ _ _ _ _ st h=>B2l st h
section
def B3x (td:TE):TI:=fun σ H R=>td σ H fun x H1=> ∃d kvs,x= .ref d/\H1 d=some (.dK kvs)/\∀o,R (Itd d o kvs) (upd H1 d (.frz o (.dK kvs)))
theorem B08 {a:Expr}{td:TE}(ha:PE X a td):PI X tg a (B3x td):=by intro pins s σ H R I h;refine thn (ha pins s σ H _ I h) fun v s1 ⟨x,H1,I1,r1,d,kvs,e,q1,q⟩=> ?_;subst e;cases r1;obtain⟨_,hs,vs,rp,o,ens,ep,ho,hx,hd,rest⟩:=(show ObjOk X.prog X.w H1 s1.heap d (.dK kvs)from I1.hok _ _ q1);have hl:kvs.length=vs.length:=Paired.length rp;refine wpAny_pyIter_dict (knd:=dN X.prog X.w) hs ⟨o,ens,ho,hx,hd,rest⟩ ?_;have I2:=(I1.freeze (by rw [q1];trivial) q1 ho).kept (h':=s1.heap.push {cls:=.type "dict_keyiterator",data:=.fields #[.ref d,.int 0 0,.int vs.length 0,.int ep 0]}) (t':=s1.toks) fun b ob e=>zjX _ e;refine⟨_,[_],_,_,_,rfl,I2,A45 _ d o kvs ens ep hd,⟨_,get?_push_size _ rfl,rfl,by rw [hl];rfl⟩,fun c hc=> ?_,q o⟩;rw [mem_singleton.mp hc];exact I1.fpOk (zjQ _) (by rw [aV (ne_of_gt (zjT ho))];exact I1.hok.fresh (zjQ _))
theorem B2e (Pv:Nat->St->Hp->Prop)(h0:Pv 0 σ H)(hl:∀i σ H,Pv i σ H->H d=some (.frz o (.dK kvs)))
  (hs:∀i k x σ H,kvs[i]?=some (k,x)->Pv i σ H->g (kV k) σ H fun σ2 H2=>tb {D with nx:=Pv (i+1),ct:=Pv (i+1),bk:=D.nx} σ2 H2)(hd:∀σ H,Pv kvs.length σ H->D.nx σ H):
  cX (Itd d o kvs) g tb D σ H:=by
 refine⟨fun i m σ H=>m=kvs.length - i/\i<=kvs.length/\Pv i σ H,⟨kvs.length,by simp,zero_le _,h0⟩,?_⟩;rintro i m σ H ⟨rfl,hi,p⟩;by_cases hlt:i<kvs.length
 ·refine .inr ⟨⟨hl i σ H p,hlt⟩,Pv (i+1),fun σ' H' p'=> ⟨kvs.length -(i+1),by omega,rfl,hlt,p'⟩,fun v H' y=> ?_⟩;obtain⟨rfl,k,x,e4,rfl⟩:=y;exact hs i k x σ _ e4 p
 ·have e:i=kvs.length:=by omega
  subst e;exact .inl ⟨⟨hl _ σ H p,rfl⟩,hd σ H p⟩
end
end L2
namespace L2
open PySem PyProof.Rows
theorem rJ [DecidableEq κ]:∀{l:List (κ×V)}{i:Nat}{k:κ}{x:V},(l.map (·.1)).Nodup->l[i]?=some (k,x)->eD l k=some x
 | [],_,_,_,_,h=>by simp at h
 | (k0,x0)::l,0,k,x,_,h=>by
  simp only [List.getElem?_cons_zero,Option.some.injEq,Prod.mk.injEq]at h;obtain⟨rfl,rfl⟩:=h;simp [eD]
 | (k0,x0)::l,i+1,k,x,hn,h=>by
  rw [map_cons,nodup_cons]at hn;rw [List.getElem?_cons_succ]at h;have ne:k0≠k:=fun e=>hn.1 (by rw [e];exact mem_map.mpr ⟨(k,x),mem_of_getElem? h,rfl⟩);have:=rJ hn.2 h;unfold eD at this⊢;rw [List.find?_cons_of_neg (by simp [ne])];exact this
end L2
namespace M10
open PySem L2 PyProof.Rows Grd Wlk Cyc Srt Set4
noncomputable def hJ (g:bF)(cs:List Int)(cl:List C3)(od:Int)(i:Int):List Pl:=(bA pos g).filter fun c=>(gK g cs cl od i).any fun L=>decide (c∈L)
def RcD (H:Hp)(d:Addr)(hs:List Int)(F:Int->List Pl):Prop:=∃ls:List Addr,H d=some (.dK ((hs.zip ls).map fun z=>(Sum.inl z.1,V.ref z.2)))/\Paired (fun i l=> ∃ps,H l=some (.lst ((ps:List Addr).map V.ref))/\PlAt H ps (F i)) hs ls
def rL:Sp:=fun vs H Q _=> ∃p g w cs cl od,vs=[.ref p]/\PleA H p g w cs cl od/\∀d H',Same H H'->RcD H' d (hoI cl) (hJ g cs cl od)->Q (.ref d) H'
section
variable {P:Program}{w:World}{K:W.Frag}{mg:Str->Option Value}{base:Heap}
abbrev nBH:List Str:=["plea","fits","cells"]
theorem B3f:(["holder","cells","fits"]:List Str).Nodup:=by decide +kernel
theorem A8t:(["cell","fits","holder"]:List Str).Nodup:=by decide +kernel
theorem A3s:(["land","cell"]:List Str).Nodup:=by decide +kernel
theorem A6r (F:D1 K mg "cells_by_holder" oW ["plea"])(T2:dC mg)(a1:A1 P w K mg base 11 "fits_of_all" A3a)(a2:A1 P w K mg base 6 "cells_of" (eY pos)):A1 P w K mg base 12 "cells_by_holder" rL:=by
 refine F.k nBH ?_;ac_nf
 ·obtain⟨p,g,w',cs,cl,od,rfl,D,q⟩:=h;have hu:(A.deeper (envOfC "cells_by_holder" (bD oW) s.heap.objs.size f cdv)).units<cLine:=by have:=hr.un;omega
  refine⟨_,aU (bK (i:=1) nd rfl (Or.inr rfl) (a1.c hr (aB (pv 0) aA)))<|
   aU (bK (i:=2) nd rfl (Or.inr rfl) (a2.c hr (dZ (bJ bW (pv 0) aM (fun _ _=>rfl)) aA)))<|
   aR (aY (wB (bD oW).names nBH ["holder"] [("cells",2),("fits",1)] rfl (B08 (pv 1)) rfl rfl rfl (by decide +kernel)
    (fun Z=>aJ (i:=0) B3f rfl (Or.inr rfl)) (fun Z=>cA) hu (fun Z=>pv 0)
    (fun Z=>bM [(".0",.local),("holder",.cell),("cells",.cell),("fits",.cell)] ["holder","cells","fits"] ["cell"] [("fits",2),("holder",0)] rfl (cT (pv 1)) rfl rfl rfl (by decide +kernel)
     (fun Z=>aJ (i:=0) A8t rfl (Or.inr rfl)) (fun Z=>eE (bN (bE (mZ rfl) rfl T2.any mT (cJ (bM [(".0",.local),("cell",.cell),("any",.globalImplicit),("fits",.cell),("holder",.cell)] ["cell","fits","holder"] ["land"] [("cell",0)] rfl (cT (yL (lt_of_succ_lt (dI hr)) (pv 1) (pv 2) (fun _ _=>rfl))) rfl rfl rfl (by decide +kernel)
      (fun Z=>nm1 0 A3s) (fun Z=>cA) (fun Z=>cW (mY 1 (dI hr)) (pv 1) (pv 0) rfl)) aA)))) (fun Z=>pv 0)))),?_⟩
  refine⟨_,rfl,p,g,w',cs,cl,od,rfl,D,fun df H1 hdf s1 hF=> ?_⟩;obtain⟨lf,edf,hLf⟩:=hF;obtain⟨m,c,a,hp,hm,hc,ha⟩:=(D.same s1).ex;refine⟨_,rfl,p,_,0,_,rfl,rfl,SqT.of hp,rfl,m,g,w',rfl,hm,D.G,fun H2 lc pc hlc s2 elc hP=> ?_⟩;have hpl:pc.length=(bA pos g).length:=Paired.length hP;have h10:(bA pos g).length<=6:=by rw [fE];exact D.c6
  have edf2:=s2 _ _ edf;have hlf:(hoI cl).length=lf.length:=Paired.length hLf;generalize hkv:((hoI cl).zip lf).map (fun z=>((Sum.inl z.1:Key),V.ref z.2))=kvs at edf edf2;have hkl:kvs.length=(hoI cl).length:=by rw [←hkv,length_map,length_zip,←hlf,Nat.min_self]
  have kat:∀{i:Nat}{k:Key}{x:V},kvs[i]?=some (k,x)->∃h lh,(hoI cl)[i]?=some h/\lf[i]?=some lh/\k=Sum.inl h/\x= .ref lh:=by
   intro i k x e;rw [←hkv,getElem?_map]at e;cases ez:((hoI cl).zip lf)[i]? with
   |none=>rw [ez]at e;cases e
   |some z=>
    rw [ez]at e;obtain⟨z1,z2⟩:=z;cases e;obtain⟨y1,y2⟩:=List.getElem?_zip_eq_some.mp ez;exact⟨z1,z2,y1,y2,rfl,rfl⟩
  have knd:(kvs.map (·.1)).Nodup:=by
   have:kvs.map (·.1)=(hoI cl).map fun i=>(Sum.inl i:Key):=by
    rw [←hkv,map_map];have:((fun x:Key×V=>x.1)∘fun z:Int×Addr=>((Sum.inl z.1:Key),V.ref z.2))=(fun i=>(Sum.inl i:Key))∘Prod.fst:=rfl;rw [this,←map_map,List.map_fst_zip (by omega)]
   rw [this];exact List.Pairwise.map _ (fun a b h e=>h (Sum.inl.inj e)) (lG cl)
  refine⟨_,rfl,df,kvs,rfl,edf2,fun o Z d hd=> ?_⟩;generalize hH3:upd H2 df (.frz o (.dK kvs))=H3 at hd⊢;have e3:H3 df=some (.frz o (.dK kvs)):=by rw [←hH3];exact aD
  have k3:∀b u,b≠df->H2 b=some u->H3 b=some u:=fun b u n e=>by rw [←hH3,aV n];exact e
  have t3:∀b xs,H2 b=some (.tup xs)->H3 b=some (.tup xs):=fun b xs e=>k3 b _ (fun z=>by rw [z,edf2]at e;cases e) e;have l3:∀b xs,H2 b=some (.lst xs)->H3 b=some (.lst xs):=fun b xs e=>k3 b _ (fun z=>by rw [z,edf2]at e;cases e) e;have s3:Same H H3:=fun b u e=>k3 b u (fun z=>by rw [z,hdf]at e;cases e) (s2 _ _ (s1 _ _ e));have elc3:=l3 _ _ elc;have hP3:PlAt H3 pc (bA pos g):=Paired.mapP hP fun _ _ z=>t3 _ _ z;have hLf3:Paired (fun i l=> ∃qs,H3 l=some (.lst ((qs:List Addr).map V.ref))/\LansAt H3 qs (gK g cs cl od i)) (hoI cl) lf:=Paired.mapP hLf fun _ _ ⟨qq,h1,h2⟩=> ⟨qq,l3 _ _ (s2 _ _ h1),Paired.mapP (h2.ext s2.ext) fun _ _ ⟨ps,y1,y2⟩=> ⟨ps,t3 _ _ y1,Paired.mapP y2 fun _ _ z=>t3 _ _ z⟩⟩;have hz4:(hoI cl).length<=4:=jR cl;refine B2e (d:=df) (o:=o) (kvs:=kvs) (fun i σ H'=>(∃o,σ=[o,some (.ref lc),some (.ref df)])/\Same H3 H'/\∃ls:List Addr,H' d=some (.dK ((((hoI cl).take i).zip ls).map fun z=>(Sum.inl z.1,V.ref z.2)))/\Paired (fun i l=> ∃ps,H' l=some (.lst ((ps:List Addr).map V.ref))/\PlAt H' ps (hJ g cs cl od i)) ((hoI cl).take i) ls)
   ⟨⟨_,rfl⟩,aG hd,[],aD,.nil⟩ (fun i σ H' h=>h.2.1 _ _ e3) ?_ ?_
  ·rintro i k x σ H' hx ⟨⟨o',rfl⟩,hs,ls,ed,hPl⟩;obtain⟨hh,lh,hb,hlh,rfl,rfl⟩:=kat hx;have hi:i<(hoI cl).length:=(zjW.mp hb).1;have hvl:=rJ knd hx;have hll:ls.length=i:=by
    have:((hoI cl).take i).length=ls.length:=Paired.length hPl;rw [length_take]at this;omega
   obtain⟨lh',hlh',qs,elh,hqs⟩:=iM hLf3 hb;rw [hlh]at hlh';cases hlh';have h64:(gK g cs cl od hh).length<=64:=le_trans (length_filter_le _ _) (le_trans (length_filter_le _ _) (pX D.c6));have hql:qs.length=(gK g cs cl od hh).length:=Paired.length hqs;refine kX ?_;refine⟨_,rfl,_,rfl,lc,rfl,⟨_,SqL.of (hs _ _ elc3)⟩,fun Z2 l2 hl2=> ?_⟩;refine gL (R:=fun H q c=>PlA H q c) (fun e h=>e.tup _ _ h) (rest:=[some (.ref df),some (.int hh)]) (fun c=>(gK g cs cl od hh).any fun L=>decide (c∈L)) fR (fun H' hs'=>SqL.of (hs' _ _ (hs _ _ elc3))) (hP3.same hs) hl2 (by omega) (fun b c H4 Q' hc hbc hs4 k=> ?_) fun σ H4 qs' hs4 el' hP'=> ?_
   ·refine⟨_,rfl,_,rfl,df,_,rfl,.inl ⟨kvs,Sum.inl hh,.inr ⟨o,hs4 _ _ (hs _ _ e3)⟩,rfl,hvl.symm⟩,lh,rfl,⟨_,SqL.of (hs4 _ _ (hs _ _ elh))⟩,fun Z3 l3 hl3=> ?_⟩;refine fX (K:=K) (a:=lh) (xs:=qs.map V.ref) (fun j σ H5=>(∃o,σ=[o,some (.ref b)])/\Same H4 H5/\H5 l3=some (.lst (((gK g cs cl od hh).take j).map fun L=>V.bl (decide (c∈L))))) ⟨⟨_,rfl⟩,aG hl3,by rw [aD];rfl⟩ (fun j σ H5 _ h=>SqL.of (h.2.1 _ _ (hs4 _ _ (hs _ _ elh)))) ?_ ?_
    ·rintro j y σ H5 hy ⟨⟨o',rfl⟩,hs5,hl5⟩;obtain⟨t,htj,rfl⟩:=gS hy;obtain⟨L,hL,pt,ht,hpt⟩:=iM hqs htj;have hj:j<(gK g cs cl od hh).length:=(zjW.mp hL).1;have sT:=(hs.trans hs4).trans hs5;show cI _ _ _ [some (.ref t),some (.ref b)] H5;refine⟨_,rfl,_,rfl,t,_,_,rfl,.inl (sT _ _ ht),iN (hs5.ext.tup _ _ hbc) (Paired.mapP hpt fun _ _ z=>sT _ _ z),?_⟩;rw [kS];refine⟨_,hl5,cM (by rw [length_map,length_take];omega),⟨_,rfl⟩,fun b' u e'=> ?_,?_⟩
     ·rw [aV (bL e' hl3)];exact hs5 _ _ e'
     ·rw [aD,take_succ,hL,map_append];rfl
    ·rintro σ H5 ⟨_,hs5,hl5⟩;rw [length_map,hql,take_of_length_le (zjQ _)]at hl5;refine⟨l3,(gK g cs cl od hh).map fun L=>decide (c∈L),rfl,SqL.of (by rw [hl5,map_map];rfl),_,rfl,?_⟩;have e:((gK g cs cl od hh).map fun L=>decide (c∈L)).any id=(gK g cs cl od hh).any fun L=>decide (c∈L):=by rw [any_map];rfl
     rw [e];exact k H5 hs5
   ·have ed4:=hs4 _ _ ed;have hne:eD ((((hoI cl).take i).zip ls).map fun z=>((Sum.inl z.1:Key),V.ref z.2)) (Sum.inl hh)=none:=by
     unfold eD;rw [List.find?_eq_none.mpr fun z hz=> ?_];rfl;obtain⟨y,hy,rfl⟩:=mem_map.mp hz;have hy1:y.1∈(hoI cl).take i:=(of_mem_zip hy).1;have hn:y.1≠hh:=fun e=>by
      rw [e]at hy1;obtain⟨j,hj,ej⟩:=List.mem_take_iff_getElem.mp hy1;have:=(zjW.mp hb).2;have hij:j=i:=(getElem_inj (lG cl)).mp (ej.trans this.symm);omega
     simp [hn]
    have et:(hoI cl).take (i+1)=(hoI cl).take i++[hh]:=by rw [take_succ,hb];rfl
    have ez:(((hoI cl).take i++[hh]).zip (ls++[l2])).map (fun z=>((Sum.inl z.1:Key),V.ref z.2))=(((hoI cl).take i).zip ls).map (fun z=>((Sum.inl z.1:Key),V.ref z.2))++[(Sum.inl hh,.ref l2)]:=by
     rw [List.zip_append (by rw [length_take,hll];omega),map_append];rfl
    refine⟨_,Sum.inl hh,rfl,ed4,?_,⟨_,rfl⟩,fun b u e=> ?_,ls++[l2],?_,?_⟩
    ·rw [length_map,length_zip,length_take,sizeLine_eq];omega
    ·rw [aV (bL e hd)];exact hs4 _ _ (hs _ _ e)
    ·rw [aD,xY _ hne,et,ez]
    ·have x4:∀b xs,H4 b=some (.lst xs)->(upd H4 d (.dK (cO ((((hoI cl).take i).zip ls).map fun z=>((Sum.inl z.1:Key),V.ref z.2)) (Sum.inl hh) (.ref l2)))) b=some (.lst xs):=fun b xs e=>by rw [aV (fun z=>by rw [z,ed4]at e;cases e)];exact e
     have x5:∀b xs,H4 b=some (.tup xs)->(upd H4 d (.dK (cO ((((hoI cl).take i).zip ls).map fun z=>((Sum.inl z.1:Key),V.ref z.2)) (Sum.inl hh) (.ref l2)))) b=some (.tup xs):=fun b xs e=>by rw [aV (fun z=>by rw [z,ed4]at e;cases e)];exact e
     have lx:∀{qs:List Addr}{Ls:List Pl},PlAt H4 qs Ls->PlAt (upd H4 d (.dK (cO ((((hoI cl).take i).zip ls).map fun z=>((Sum.inl z.1:Key),V.ref z.2)) (Sum.inl hh) (.ref l2)))) qs Ls:=fun h=>Paired.mapP h fun _ _ z=>x5 _ _ z;rw [et];exact Paired.snoc (Paired.mapP hPl fun _ _ ⟨qq,h1,h2⟩=> ⟨qq,x4 _ _ (hs4 _ _ h1),lx (h2.same hs4)⟩) ⟨qs',x4 _ _ el',lx hP'⟩
  ·rintro σ H' ⟨_,hs,ls,ed,hPl⟩;rw [hkl,take_of_length_le (zjQ _)]at ed hPl;exact q d H' (s3.trans hs) ⟨ls,ed,hPl⟩
end
def nO (g:bF)(R:Int->List Pl)(ks:List Int):List Pl:=(bA pos g).filter fun c=>ks.any fun k=>decide (c∈R k)
def vL:Sp:=fun vs H Q _=> ∃m d t g w hs R ks,vs=[.ref m,.ref d,.ref t]/\GridAt H m g/\dO g w/\RcD H d hs R/\hs.Nodup/\H t=some (.tup ((ks:List Int).map V.int))/\ks.length<=900/\(∀k∈ks,k∈hs)/\∀t' H',H t'=none->Same H H'->SqA H' t' (nO g R ks)->Q (.ref t') H'
section
variable {P:Program}{w:World}{K:W.Frag}{mg:Str->Option Value}{base:Heap}
abbrev nCF:List Str:=["mead","reach","holders"]
theorem B2f:(["cell","holders","reach"]:List Str).Nodup:=by decide +kernel
theorem A54:(["holder","cell","reach"]:List Str).Nodup:=by decide +kernel
theorem B2r (F:D1 K mg "cells_for" sM ["mead","reach","holders"])(T:Txt mg)(T2:dC mg)(a1:A1 P w K mg base 6 "cells_of" (eY pos)):A1 P w K mg base 7 "cells_for" vL:=by
 refine F.k nCF ?_;ac_nf
 ·obtain⟨m,d,t,g,w',hos,R,ks,rfl,hm,G,hR,hnd,ht,hz9,hin,q⟩:=h;refine⟨_,aR (aY (eP kE rfl T.tuple boot_tuple (cJ (bM (bD sM).names nCF ["cell"] [("holders",2),("reach",1)] rfl (cT (a1.c hr (aB (pv 0) aA))) rfl rfl rfl (by decide +kernel)
     (fun Z=>aJ (i:=0) B2f rfl (Or.inr rfl)) (fun Z=>eE (bN (bE (mZ rfl) rfl T2.any mT (cJ (bM [(".0",.local),("cell",.cell),("any",.globalImplicit),("holders",.cell),("reach",.cell)] ["cell","holders","reach"] ["holder"] [("cell",0),("reach",2)] rfl (cP (pv 1)) rfl rfl rfl (by decide +kernel)
      (fun Z=>nm1 0 A54) (fun Z=>cA) (fun Z=>cW (mY 1 (dI hr)) (pv 1) (yL (lt_of_succ_lt (dI hr)) (pv 2) (pv 0) (fun _ _=>rfl)) rfl)) aA)))) (fun Z=>pv 0)) aA))),?_⟩
  refine⟨_,rfl,m,g,w',rfl,hm,G,fun H1 lc pc hlc s1 elc hP=> ?_⟩;have hpl:pc.length=(bA pos g).length:=Paired.length hP;have h10:(bA pos g).length<=10:=by rw [fE];exact G.c10
  obtain⟨ls,ed,hL⟩:=hR;have hll:hos.length=ls.length:=Paired.length hL;refine⟨lc,rfl,⟨_,SqL.of elc⟩,fun Z l hl=> ?_⟩;refine gL (R:=fun H q c=>PlA H q c) (fun e h=>e.tup _ _ h) (rest:=[some (.ref t),some (.ref d)]) (fun c=>ks.any fun k=>decide (c∈R k)) fR (fun H' hs'=>SqL.of (hs' _ _ elc)) hP hl (by omega) (fun b c H4 Q' hc hbc hs4 k=> ?_) fun σ H4 qs' hs4 el' hP'=> ?_
  ·have sT:=s1.trans hs4;refine⟨_,rfl,t,rfl,⟨_,SqT.of (sT _ _ ht)⟩,fun Z3 l3 hl3=> ?_⟩;refine gM (K:=K) (a:=t) (xs:=ks.map V.int) (fun j σ H5=>(∃o,σ=[o,some (.ref b),some (.ref d)])/\Same H4 H5/\H5 l3=some (.lst ((ks.take j).map fun k=>V.bl (decide (c∈R k))))) ⟨⟨_,rfl⟩,aG hl3,by rw [aD];rfl⟩ (fun j σ H5 _ h=>SqT.of (h.2.1 _ _ (sT _ _ ht))) ?_ ?_
   ·rintro j y σ H5 hy ⟨⟨o',rfl⟩,hs5,hl5⟩;rw [getElem?_map]at hy;cases hkj:ks[j]? with
    |none=>rw [hkj]at hy;cases hy
    |some kk=>
     rw [hkj]at hy;cases hy;have hj:j<ks.length:=(zjW.mp hkj).1;obtain⟨i,hi⟩:=mem_iff_getElem?.mp (hin kk (mem_of_getElem? hkj));obtain⟨lh,hlh,ps,elh,hps⟩:=iM hL hi;have sU:=sT.trans hs5;have hv:eD ((hos.zip ls).map fun z=>((Sum.inl z.1:Key),V.ref z.2)) (Sum.inl kk)=some (.ref lh):=by
      refine rJ (i:=i) ?_ ?_
      ·have:((hos.zip ls).map fun z=>((Sum.inl z.1:Key),V.ref z.2)).map (·.1)=hos.map fun i=>(Sum.inl i:Key):=by
        rw [map_map];have:((fun x:Key×V=>x.1)∘fun z:Int×Addr=>((Sum.inl z.1:Key),V.ref z.2))=(fun i=>(Sum.inl i:Key))∘Prod.fst:=rfl;rw [this,←map_map,List.map_fst_zip (by omega)]
       rw [this];exact List.Pairwise.map _ (fun a b h e=>h (Sum.inl.inj e)) hnd
      ·rw [getElem?_map,List.getElem?_zip_eq_some (z:=(kk,lh))|>.mpr ⟨hi,hlh⟩];rfl
     show cI _ _ _ [some (.int kk),some (.ref b),some (.ref d)] H5;refine⟨_,rfl,_,rfl,_,rfl,d,_,rfl,.inl ⟨_,Sum.inl kk,.inl (sU _ _ ed),rfl,hv.symm⟩,lh,_,_,rfl,.inr (sU _ _ elh),iN (hs5.ext.tup _ _ hbc) (hps.same sU),?_⟩;rw [kS];refine⟨_,hl5,cM (by rw [length_map,length_take];omega),⟨_,rfl⟩,fun b' u e'=> ?_,?_⟩
     ·rw [aV (bL e' hl3)];exact hs5 _ _ e'
     ·rw [aD,take_succ,hkj,map_append];rfl
   ·rintro σ H5 ⟨_,hs5,hl5⟩;rw [length_map,take_of_length_le (zjQ _)]at hl5;refine⟨l3,ks.map fun k=>decide (c∈R k),rfl,SqL.of (by rw [hl5,map_map];rfl),_,rfl,?_⟩;have e:(ks.map fun k=>decide (c∈R k)).any id=ks.any fun k=>decide (c∈R k):=by rw [any_map];rfl
    rw [e];exact k H5 hs5
  ·refine⟨l,_,rfl,.inl ⟨SqL.of el',fun t' ht'=> ?_⟩⟩;have sA:=s1.trans hs4;refine q t' _ (sA.free ht') (sA.trans (aG ht')) ⟨qs',aD,?_⟩;exact(show PlAt H4 qs' (nO g R ks)from hP').same (aG ht')
end
end M10
namespace L2
theorem A1i (i:Int)(ks:List Int):inV (.int i) (ks.map V.int)=decide (i∈ks):=by
 unfold inV;rw [any_map]
 induction ks with
 |nil=>rfl
 |cons k ks ih=>
  rw [any_cons,ih];show(k==i||decide (i∈ks))=_;by_cases h:k=i
  ·subst h;simp
  ·have h':¬i=k:=fun e=>h e.symm;simp [h,h']
theorem tQ:∀ks:List Int,(ks.map V.int).all iS=true
 | []=>rfl
 |_::ks=>by rw [map_cons,all_cons,tQ ks];rfl
end L2
namespace M10
open PySem L2 PyProof.Rows Grd Wlk Cyc Srt Set4
def ofL (cl:List C3)(ks:List Int):List C3:=cl.filter fun c=>decide (c.1∈ks)
theorem Fine.subL (h:Fine cs cl)(ks:List Int):Fine cs (ofL cl ks):=⟨le_trans (length_filter_le _ _) h.1,fun c hc=>h.2 c (mem_filter.mp hc).1⟩
def kH (g:bF)(cs:List Int)(cl:List C3)(od:Int)(ks:List Int)(L:List Pl):Bool:=decide (L.length<ks.length)||decide (cH g L*bG cs cl<bP g*bG cs (ofL cl ks) - od*bG cs cl*ks.length)
def qT:Sp:=fun vs H Q _=> ∃p t u g w cs cl od ks L,vs=[.ref p,.ref t,.ref u]/\PleA H p g w cs cl od/\H t=some (.tup ((ks:List Int).map V.int))/\ks.length<=900/\SqA H u L/\LandOf g L/\∀H',Same H H'->Q (.bl (kH g cs cl od ks L)) H'
section
variable {P:Program}{w:World}{K:W.Frag}{mg:Str->Option Value}{base:Heap}
abbrev nTL:List Str:=["plea","holders","cells","mead","custom","claims","odd","whole_count","count","must_have"]
theorem A8n:(["claim","holders"]:List Str).Nodup:=by decide +kernel
theorem B1d (F:D1 K mg "is_too_little" tG ["plea","holders","cells"])(T:Txt mg)(a1:A1 P w K mg base 1 "count_together" oQ)(a2:A1 P w K mg base 7 "whole_worth" tW)(a3:A1 P w K mg base 1 "worth_together" qH):A1 P w K mg base 8 "is_too_little" qT:=by
 refine F.k nTL ?_;ac_nf
 ·obtain⟨p,t,u,g,w',cs,cl,od,ks,L,rfl,D,ht,hk9,⟨pu,hu,hpu⟩,hL,q⟩:=h;obtain⟨m,c,a,hp,hm,hc,ha⟩:=D.ex;refine⟨_,aU (dP (pv 0) (bU rfl (aW (nm1 3 nd) (aW (nm1 4 nd) (aW (nm1 5 nd) (aW (nm1 6 nd) bT))))))<|
   aU (bR (cB jM (bE dM rfl T.len PySem.boot_len (aB (pv 2) aA)) (bE dM rfl T.len PySem.boot_len (aB (pv 1) aA)) (nomark _)) (aR (aY cZ)) bQ)<|
   aU (bK (i:=7) nd rfl (Or.inl rfl) (a1.c hr (aB (pv 4) (aB (pv 5) aA))))<|
   aU (bK (i:=8) nd rfl (Or.inl rfl) (a1.c hr (aB (pv 4) (cJ (bM (bD tG).names nTL ["claim"] [("holders",1)] rfl (cP (pv 5)) rfl rfl rfl (by decide +kernel)
    (fun Z=>nm1 0 A8n) (fun Z=>eE (cB A7p (bJ bW (pv 0) aM (fun _ _=>rfl)) (pv 1) rfl)) (fun Z=>pv 0)) aA))))<|
   aU (bK (i:=9) nd rfl (Or.inl rfl) (bB gU (bB dQ (a2.c hr (aB (pv 3) aA)) (pv 8)) (bB dQ (bB dQ (pv 6) (pv 7)) (bE dM rfl T.len PySem.boot_len (aB (pv 1) aA)))))<|
   aR (aY (cW jM (bB dQ (a3.c hr (aB (pv 3) (aB (pv 2) aA))) (pv 7)) (pv 9) (nomark _))),?_⟩
  refine⟨_,rfl,p,_,rfl,SqT.of hp,rfl,_,_,rfl,_,_,rfl,_,_,rfl,_,_,rfl,rfl,?_⟩;refine⟨_,rfl,u,_,rfl,.inr (SqT.of hu),_,rfl,t,_,rfl,.inr (SqT.of ht),?_⟩;have hul:pu.length=L.length:=Paired.length hpu;refine⟨_,_,rfl,rfl,_,rfl,fI (fun z=> ?_) fun z=> ?_⟩
  ·rw [length_map,length_map,hul]at z;have e:kH g cs cl od ks L=true:=by
    unfold kH;rw [zjV (show L.length<ks.length by omega),Bool.true_or]
   rw [e]at q;exact q H (Same.refl _)
  ·rw [length_map,length_map,hul]at z;obtain⟨bs,ha,hC⟩:=ha;have hbl:bs.length=cl.length:=Paired.length hC;have h12:=D.ck.l12;refine⟨_,rfl,_,rfl,c,a,cs,bs,cl,rfl,hc,D.cu,.inl ha,hC,iT D.ck D.un,fun H1 s1=> ?_⟩;refine⟨_,rfl,_,rfl,a,rfl,⟨_,SqT.of (s1 _ _ ha)⟩,fun Z l hl=> ?_⟩;refine gL (R:=fun H q (c:C3)=>H q=some (.tup [.int c.1,.int c.2.1,.int c.2.2])) (fun e h=>e.tup _ _ h) (rest:=[some (.ref t)]) (fun c=>decide (c.1∈ks)) iV (fun H' hs=>SqT.of (hs _ _ (s1 _ _ ha))) (hC.ext s1.ext) hl (by omega) (fun b x H' Q' hx hb hs k=> ?_) fun σ H2 qs' s2 el' hP'=> ?_
   ·refine⟨_,rfl,b,_,0,.int x.1,rfl,rfl,SqT.of hb,cK (j:=0) rfl,_,rfl,t,_,rfl,.inr (SqT.of (hs _ _ (s1 _ _ ht))),rfl,tQ ks,_,rfl,?_⟩;have:=k H' (Same.refl _);rw [←A1i]at this;exact this
   ·refine⟨c,l,cs,qs',ofL cl ks,rfl,s2 _ _ (s1 _ _ hc),D.cu,.inr el',hP',(iT D.ck D.un).subL ks,fun H3 s3=> ?_⟩;have s13:=(s1.trans s2).trans s3;refine⟨_,rfl,m,g,w',rfl,hm.same s13,D.G,fun H4 s4=> ?_⟩;have s14:=s13.trans s4;have tb:=rX D.G D.c6;have wb:=lJ D.G (fun c hc=>hL.subset hc) (LandOf.len D.G hL);refine⟨_,rfl,_,_,rfl,rfl,.inl ⟨by omega,by omega⟩,_,rfl,_,rfl,_,_,rfl,rfl,.inl ⟨by have:=D.o9;omega,by have:=D.o9;omega⟩,?_⟩;refine⟨_,rfl,t,_,rfl,.inr (SqT.of (s14 _ _ ht)),_,_,rfl,rfl,.inr ⟨by rw [length_map];omega,by rw [length_map];omega⟩,_,_,rfl,rfl,?_⟩;refine⟨_,rfl,_,rfl,m,u,g,w',L,rfl,hm.same s14,D.G,⟨pu,s14 _ _ hu,hpu.same s14⟩,hL,fun H5 s5=> ?_⟩;refine⟨_,rfl,_,_,rfl,rfl,.inl ⟨by omega,by omega⟩,_,rfl,_,_,rfl,rfl,?_⟩;have e:kH g cs cl od ks L=decide (cH g L*bG cs cl<bP g*bG cs (ofL cl ks) - od*bG cs cl*ks.length):=by
     unfold kH;rw [zjU (show¬L.length<ks.length by omega),Bool.false_or]
    have:=q H5 (s14.trans s5);rw [e]at this;simpa only [length_map]using this
end
noncomputable def dF (g:bF)(cs:List Int)(cl:List C3)(od:Int)(ks:List Int):List Pl:=nO g (hJ g cs cl od) ks
noncomputable def gN (g:bF)(cs:List Int)(cl:List C3)(od:Int)(ks:List Int):Bool:=kH g cs cl od ks (dF g cs cl od ks)
def dH (cl:List C3):List (List Int):=(rtV (hoI cl)).tail
noncomputable def jU (g:bF)(cs:List Int)(cl:List C3)(od:Int):Option (List Int):=(dH cl).find? (gN g cs cl od)
def LackA (H:Hp)(v:V)(F:List Int->List Pl)(r:Option (List Int)):Prop:=match r with
 |none=>v= .non
 |some ks=> ∃p t u,v= .ref p/\H p=some (.tup [.ref t,.ref u])/\H t=some (.tup (ks.map V.int))/\SqA H u (F ks)
def uH:Sp:=fun vs H Q _=> ∃p g w cs cl od,vs=[.ref p]/\PleA H p g w cs cl od/\∀v H',Same H H'->LackA H' v (dF g cs cl od) (jU g cs cl od)->Q v H'
theorem A3d (h:ks∈dH cl):ks.Sublist (hoI cl):=iC (List.mem_of_mem_tail h)
theorem jJ (g:bF)(cs:List Int)(cl:List C3)(od:Int)(ks:List Int):LandOf g (dF g cs cl od ks):=List.filter_sublist
section
variable {P:Program}{w:World}{K:W.Frag}{mg:Str->Option Value}{base:Heap}
abbrev nFL:List Str:=["plea","mead","custom","claims","odd","reach","holders","cells"]
theorem B31 (F:D1 K mg "first_lack" A0d ["plea"])(a1:A1 P w K mg base 6 "check_plea" (jY .non))(a2:A1 P w K mg base 12 "cells_by_holder" rL)(a3:A1 P w K mg base 1 "rising_tuples" uU)(a4:A1 P w K mg base 6 "holders_of" jO)(a5:A1 P w K mg base 7 "cells_for" vL)(a6:A1 P w K mg base 8 "is_too_little" qT):A1 P w K mg base 13 "first_lack" uH:=by
  refine F.k nFL ?_;ac_nf
  · obtain⟨p,g,w',cs,cl,od,rfl,D,q⟩:=h
    refine⟨_,aU (eF (a1.c hr (aB (pv 0) aA)))<|
      aU (dP (pv 0) (bU rfl (aW (nm1 1 nd) (aW (nm1 2 nd) (aW (nm1 3 nd) (aW (nm1 4 nd) bT))))))<|
      aU (bK (i:=5) nd rfl (Or.inl rfl) (a2.c hr (aB (pv 0) aA)))<|
      aU (eG PassesOwn.never rfl (cT (eQ mU (a3.c hr (bV (a4.c hr (aB (pv 3) aA)) aA)) (eJ aM) fD)) (nm1 6 nd)
        (aU (bK (i:=7) nd rfl (Or.inl rfl) (a5.c hr (aB (pv 1) (aB (pv 5) (aB (pv 6) aA)))))<|
         aR (bR (bN (a6.c hr (aB (pv 0) (aB (pv 6) (aB (pv 7) aA))))) (aR (aY (cD (aB (pv 6) (aB (pv 7) aA))))) bQ)))<|
      aR (aY pR),?_⟩
    refine⟨_,rfl,p,g,w',cs,cl,od,rfl,D,fun H1 s1=> ?_⟩;obtain⟨m,c,a,hp,hm,hc,ha⟩:=(D.same s1).ex;refine⟨_,rfl,p,_,rfl,SqT.of hp,rfl,_,_,rfl,_,_,rfl,_,_,rfl,_,_,rfl,rfl,?_⟩;refine⟨_,rfl,p,g,w',cs,cl,od,rfl,D.same s1,fun d H2 s2 hR=> ?_⟩;refine⟨_,rfl,a,cl,rfl,ha.ext s2.ext,D.ck,fun lh H3 hlh s3 elh=> ?_⟩;have eho:((aX (holdS cl)).map fun k:Nat=>V.int (k:Int))=(hoI cl).map V.int:=by unfold hoI;rw [map_map];rfl
    rw [eho]at elh;have hz4:(hoI cl).length<=4:=jR cl;refine⟨lh,_,rfl,elh,by rw [length_map];omega,fun lt qs H4 hlt s4 elt hT=> ?_⟩;rw [qC]at hT;have hql:qs.length=((rtV (hoI cl)).map (List.map V.int)).length:=Paired.length hT;have hq1:1<=qs.length:=by
      obtain⟨R',eR⟩:=nR (hoI cl);rw [hql,length_map,eR];simp
    have s34:=s3.trans s4;have hR4:RcD H4 d (hoI cl) (hJ g cs cl od):=by
      obtain⟨ls,e1,e2⟩:=hR;exact⟨ls,s34 _ _ e1,Paired.mapP e2 fun _ _ ⟨ps,y1,y2⟩=> ⟨ps,s34 _ _ y1,y2.same s34⟩⟩
    have hTt:TusAt H4 (qs.drop 1) ((dH cl).map (List.map V.int)):=by
      have:=sG hT;unfold dH;rw [map_tail];exact this
    refine⟨_,rfl,lt,_,rfl,SqL.of elt,fun lz hlz=> ?_⟩;have ec:cC (qs.map V.ref) (some 1) none=(qs.drop 1).map V.ref:=by
      rw [mB _ (by rw [length_map];exact hq1),map_drop]
    have sz:=aG (o:=.lst (cC (qs.map V.ref) (some 1) none)) hlz;have ez:(upd H4 lz (.lst (cC (qs.map V.ref) (some 1) none))) lz=some (.lst ((qs.drop 1).map V.ref)):=by rw [aD,ec]
    generalize upd H4 lz (.lst (cC (qs.map V.ref) (some 1) none))=H5 at sz ez⊢;have s15:=(s2.trans s34).trans sz;have D5:=(D.same s1).same s15;have hR5:RcD H5 d (hoI cl) (hJ g cs cl od):=by
      obtain⟨ls,e1,e2⟩:=hR4;exact⟨ls,sz _ _ e1,Paired.mapP e2 fun _ _ ⟨ps,y1,y2⟩=> ⟨ps,sz _ _ y1,y2.same sz⟩⟩
    have hT5:=hTt.same sz;have hlen:(qs.drop 1).length=(dH cl).length:=by have:(qs.drop 1).length=((dH cl).map (List.map V.int)).length:=Paired.length hTt;rw [this,length_map]
    refine⟨lz,rfl,⟨_,SqL.of ez⟩,?_⟩;refine fX (K:=K) (a:=lz) (xs:=(qs.drop 1).map V.ref) (fun i σ H'=>(∃o1 o2,σ=[some (.ref p),some (.ref m),some (.ref c),some (.ref a),some (.int od),some (.ref d),o1,o2])/\Same H5 H'/\jU g cs cl od=((dH cl).drop i).find? (gN g cs cl od))
      ⟨⟨_,_,rfl⟩,Same.refl _,rfl⟩ (fun i σ H' _ h=>SqL.of (h.2.1 _ _ ez)) ?_ ?_
    · rintro i x σ H' hx ⟨⟨o1,o2,rfl⟩,hs,hfi⟩
      obtain⟨t,htj,rfl⟩:=gS hx;obtain⟨xs,hxs,et⟩:=iM hT5 htj;rw [getElem?_map]at hxs;cases hki:(dH cl)[i]? with
      |none=>rw [hki]at hxs;cases hxs
      |some ks=>
        rw [hki]at hxs;cases hxs;have hsub:=A3d (mem_of_getElem? hki);have hk4:=hsub.length_le;have ed:(dH cl).drop i=ks::(dH cl).drop (i+1):=by
          exact List.drop_eq_getElem?_toList_append ..|>.trans (by rw [hki];rfl)
        show mQ _ _ _ [some (.ref p),some (.ref m),some (.ref c),some (.ref a),some (.int od),some (.ref d),some (.ref t),o2] H';have hR6:RcD H' d (hoI cl) (hJ g cs cl od):=by
          obtain⟨ls,e1,e2⟩:=hR5;exact⟨ls,hs _ _ e1,Paired.mapP e2 fun _ _ ⟨ps,y1,y2⟩=> ⟨ps,hs _ _ y1,y2.same hs⟩⟩
        refine⟨_,rfl,_,rfl,_,rfl,m,d,t,g,w',hoI cl,hJ g cs cl od,ks,rfl,(hm.same s15).same hs,D.G,hR6,lG cl,hs _ _ et,by omega,fun k hk=>hsub.subset hk,fun u H6 hu s6 hU=> ?_⟩;refine⟨_,rfl,_,rfl,_,rfl,p,t,u,g,w',cs,cl,od,ks,dF g cs cl od ks,rfl,(D5.same hs).same s6,s6 _ _ (hs _ _ et),by omega,hU,jJ g cs cl od ks,fun H7 s7=> ⟨_,rfl,cF (fun e=> ?_) fun e=> ?_⟩⟩
        · refine⟨_,rfl,_,rfl,by show 2<=sizeLine;decide,fun z hz=> ?_⟩
          have sA:=((((s1.trans s15).trans hs).trans s6).trans s7).trans (aG (o:=.tup [.ref t,.ref u]) hz);refine q _ _ sA ?_;rw [hfi,ed,List.find?_cons_of_pos (show gN g cs cl od ks=true from e)];have s67:=s7.trans (aG (o:=.tup [.ref t,.ref u]) hz);exact⟨z,t,u,rfl,aD,s67 _ _ (s6 _ _ (hs _ _ et)),SqA.ext hU s67.ext⟩
        · refine⟨⟨_,_,rfl⟩,(hs.trans s6).trans s7,?_⟩
          rw [hfi,ed,List.find?_cons_of_neg (by rw [show gN g cs cl od ks=false from e];decide)]
    · rintro σ H' ⟨⟨o1,o2,rfl⟩,hs,hfi⟩
      rw [length_map,hlen,List.drop_length]at hfi;refine q _ _ ((s1.trans s15).trans hs) ?_;rw [hfi];rfl
end
def sW:Sp:=fun vs H Q _=> ∃p q c d,vs=[.ref p,.ref q]/\PlA H p c/\PlA H q d/\Q (.bl (eK c d)) H
section
variable {P:Program}{w:World}{K:W.Frag}{mg:Str->Option Value}{base:Heap}
theorem A4w (F:D1 K mg "_law_next_to" A1z ["_law_one","_law_other_here"])(T2:dC mg):A1 P w K mg base 1 "_law_next_to" sW:=by
 refine F.k ["_law_one","_law_other_here"] ?_;ac_nf
 ·obtain⟨p,q,c,d,rfl,hp,hq,k⟩:=h;refine⟨_,aR (aY (cW fY (bB dU (bE nM rfl T2.abs nY (eU (bB gU (bJ bW (pv 0) aM (fun _ _=>rfl)) (bJ bW (pv 1) aM (fun _ _=>rfl))) aA)) (bE nM rfl T2.abs nY (eU (bB gU (bJ bW (pv 0) aM (fun _ _=>rfl)) (bJ bW (pv 1) aM (fun _ _=>rfl))) aA))) aM (nomark _))),?_⟩;refine⟨_,rfl,p,_,0,_,rfl,rfl,SqT.of hp,cK (j:=0) rfl,_,rfl,q,_,0,_,rfl,rfl,SqT.of hq,cK (j:=0) rfl,_,_,rfl,rfl,_,rfl,?_⟩;refine⟨_,rfl,p,_,1,_,rfl,rfl,SqT.of hp,cK (j:=1) rfl,_,rfl,q,_,1,_,rfl,rfl,SqT.of hq,cK (j:=1) rfl,_,_,rfl,rfl,_,rfl,_,_,rfl,rfl,rfl,?_⟩;have e:decide (V.int ((if c.1 - d.1<0 then -(c.1 - d.1)else c.1 - d.1)+(if c.2 - d.2<0 then -(c.2 - d.2)else c.2 - d.2))=V.int 1)=eK c d:=by
   unfold eK;rw [decide_eq_decide];constructor
   ·intro z;have:=V.int.inj z;split at this<;>split at this<;>omega
   ·intro z;congr 1;split<;>split<;>omega
  rw [e];exact k
end
def lhangs (cs:List Pl):Bool:=match cs with| []=>false|c0::tl=>decide ((hit (tl.length+1) ([c0],tl)).2=[])
def A2b:Sp:=fun vs H Q _=> ∃t cs,vs=[.ref t]/\SqA H t cs/\cs.length<=10/\∀H',Same H H'->Q (.bl (lhangs cs)) H'
theorem A3h (c0:Pl)(tl:List Pl):∀i,(hit i ([c0],tl)).1.length<=1+tl.length*i/\(hit i ([c0],tl)).2.length<=tl.length
 |0=> ⟨by simp [hit],by simp [hit]⟩
 |i+1=>by
  have ih:=A3h c0 tl i;have h1:(fC (hit i ([c0],tl)).1 (hit i ([c0],tl)).2).length<=(hit i ([c0],tl)).2.length:=length_filter_le _ _;refine⟨?_,le_trans (length_filter_le _ _) ih.2⟩;show((hit i ([c0],tl)).1++fC (hit i ([c0],tl)).1 (hit i ([c0],tl)).2).length<=_;rw [length_append,Nat.mul_succ];omega
section
variable {P:Program}{w:World}{K:W.Frag}{mg:Str->Option Value}{base:Heap}
abbrev nLH:List Str:=["_law_land","_law_met","_law_rest","_law_turn","_law_more"]
theorem A72:(["_law_place","_law_met"]:List Str).Nodup:=by decide +kernel
theorem A6x:(["_law_one","_law_place"]:List Str).Nodup:=by decide +kernel
theorem A6g:(["_law_place","_law_more"]:List Str).Nodup:=by decide +kernel
theorem B14 (F:D1 K mg "_law_hangs" pC ["_law_land"])(T3:TxC mg)(a1:A1 P w K mg base 1 "_law_next_to" sW):A1 P w K mg base 2 "_law_hangs" A2b:=by
  refine F.k nLH ?_;ac_nf
  · obtain⟨t,cs,rfl,hA,h10,q⟩:=h
    refine⟨_,aU (bR (cB (A3i (dI hr)) (pv 0) (cD aA) (nomark _)) (aR (aY cZ)) bQ)<|
      aU (dP (cD (sR (dR (dZ (bJ bW (pv 0) aM (fun _ _=>rfl)) aA)) (bV (eP nU rfl T3.list boot_list (dZ (eQ gF (pv 0) (eJ aM) fD) aA)) aA))) (bU rfl (aW (aJ (i:=1) nd rfl (Or.inr rfl)) (aW (nm1 2 nd) bT))))<|
      aU (eG PassesOwn.never rfl (cP (pv 0)) (nm1 3 nd)
        (aU (bK (i:=4) nd rfl (Or.inr rfl) (bM (bD pC).names nLH ["_law_place"] [("_law_met",1)] rfl (cT (pv 2)) rfl rfl rfl (by decide +kernel)
          (fun Z=>aJ (i:=0) A72 rfl (Or.inr rfl)) (fun Z=>eE (cB (uG 1 (dI hr)) (bM [(".0",.local),("_law_place",.cell),("_law_met",.cell)] ["_law_place","_law_met"] ["_law_one"] [("_law_place",0)] rfl (cT (pv 1)) rfl rfl rfl (by decide +kernel)
            (fun Z=>nm1 0 A6x) (fun Z=>eE (bN (a1.c hr (aB (pv 0) (aB (pv 1) aA))))) (fun Z=>pv 0)) (dR aA) (nomark _))) (fun Z=>pv 0)))<|
         aR (dP (cD (eU (bB gX (pv 1) (pv 4)) (cJ (bM (bD pC).names nLH ["_law_place"] [("_law_more",4)] rfl (cT (pv 2)) rfl rfl rfl (by decide +kernel)
          (fun Z=>nm1 0 A6g) (fun Z=>eE (cB (qQ 1 (dI hr)) (pv 0) (pv 1) rfl)) (fun Z=>pv 0)) aA))) (bU rfl (aW (aJ (i:=1) nd rfl (Or.inr rfl)) (aW (nm1 2 nd) bT))))))<|
      aR (aY (cW (A0u 1 (dI hr)) (pv 2) (dR aA) (nomark _))),?_⟩
    refine⟨_,rfl,by show 0<=sizeLine;decide,fun t0 ht0=> ?_⟩;have u0:=aG (o:=.tup []) ht0;refine⟨t,t0,cs,[],rfl,rfl,SqA.ext hA u0.ext,⟨[],aD,.nil⟩,_,rfl,fI (fun z=> ?_) fun z=> ?_⟩
    · subst z
      exact q _ u0
    generalize upd H t0 (.tup [])=H1 at u0⊢;obtain⟨c0,tl,rfl⟩:=exists_cons_of_ne_nil z;obtain⟨ps,ht,hP⟩:=SqA.ext hA u0.ext;obtain⟨p0,pt,rfl,hp0,hpt⟩:∃p0 pt,ps=p0::pt/\PlA H1 p0 c0/\PlAt H1 pt tl:=by
      cases hP with
      |cons r t=>exact⟨_,_,rfl,r,t⟩
    have hptl:pt.length=tl.length:=Paired.length hpt;have htl:tl.length+1<=10:=h10;refine⟨_,rfl,t,_,0,_,rfl,rfl,SqT.of ht,cK (j:=0) rfl,by show 1<=sizeLine;decide,fun lm hlm=> ?_⟩;have u1:=aG (o:=.lst [.ref p0]) hlm;refine⟨_,rfl,_,rfl,t,_,rfl,u1 _ _ ht,fun ts H2 s2 ets=> ?_⟩;rw [mB _ (by simp)]at ets;have ets':H2 ts=some (.tup (pt.map V.ref)):=ets;have elm:=s2 _ _ (aD (H:=H1) (a:=lm) (o:=.lst [.ref p0]));have s12:=u1.trans s2;generalize upd H1 lm (.lst [.ref p0])=H1' at*;refine⟨ts,_,rfl,.inr (SqT.of ets),fun lr hlr=> ?_⟩;have u3:=aG (o:=.lst (List.drop 1 (List.map V.ref (p0::pt)))) hlr;have elr:(upd H2 lr (.lst (List.drop 1 (List.map V.ref (p0::pt))))) lr=some (.lst (pt.map V.ref)):=by rw [aD];rfl
    generalize upd H2 lr (.lst (List.drop 1 (List.map V.ref (p0::pt))))=H3 at u3 elr⊢;refine⟨by show 2<=sizeLine;decide,fun tt htt=> ?_⟩;have u4:=aG (o:=.tup [V.ref lm,V.ref lr]) htt;refine⟨tt,_,rfl,SqT.of aD,rfl,_,_,rfl,_,_,rfl,rfl,?_⟩;generalize upd H3 tt (.tup [V.ref lm,V.ref lr])=H4 at u4⊢;have s14:=(s12.trans u3).trans u4;have s04:=u0.trans s14;refine⟨_,rfl,t,rfl,⟨_,SqT.of (s14 _ _ ht)⟩,?_⟩;refine gM (K:=K) (a:=t) (xs:=(p0::pt).map V.ref) (fun i σ H'=>Same H4 H'/\∃lm lr o3 o4 pm pr,σ=[some (.ref t),some (.ref lm),some (.ref lr),o3,o4]/\H' lm=some (.lst ((pm:List Addr).map V.ref))/\PlAt H' pm (hit i ([c0],tl)).1/\H' lr=some (.lst ((pr:List Addr).map V.ref))/\PlAt H' pr (hit i ([c0],tl)).2)
      ⟨Same.refl _,lm,lr,_,_,[p0],pt,rfl,u4 _ _ (u3 _ _ elm),.cons (s14 _ _ hp0) .nil,u4 _ _ elr,hpt.same s14⟩ (fun i σ H' _ h=>SqT.of (h.1 _ _ (s14 _ _ ht))) ?_ ?_
    · rintro i x σ H' hx ⟨hs,lm,lr,o3,o4,pm,pr,rfl,elm,hM,elr,hR⟩
      have hi:i<(p0::pt).length:=by
        have:=(zjW.mp hx).1;rw [length_map]at this;exact this
      have hi10:i<10:=by rw [length_cons]at hi;omega
      have hl:=A3h c0 tl i;have hm1:(hit i ([c0],tl)).1.length<=100:=by
        have:tl.length*i<=9*9:=Nat.mul_le_mul (by omega) (by omega);omega
      have hpm:pm.length=_:=Paired.length hM;have hpr:pr.length=_:=Paired.length hR;have e1:hit (i+1) ([c0],tl)=hstep (hit i ([c0],tl)):=rfl;rw [e1];generalize hit i ([c0],tl)=mr at*;obtain⟨met,rst⟩:=mr;show mQ _ _ _ [some (.ref t),some (.ref lm),some (.ref lr),some x,o4] H';refine⟨_,rfl,lr,rfl,⟨_,SqL.of elr⟩,fun Z l hl'=> ?_⟩;refine gL (R:=fun H q c=>PlA H q c) (fun e h=>e.tup _ _ h) (rest:=[some (.ref lm)]) (fun p=>met.any fun o=>eK o p) fR (fun H' hs'=>SqL.of (hs' _ _ elr)) hR hl' (by omega) (fun b c H5 Q' hc hbc hs5 k=> ?_) fun σ H5 qm hs5 el5 hP5=> ?_
      · refine⟨_,rfl,lm,rfl,⟨_,SqL.of (hs5 _ _ elm)⟩,fun Z3 l3 hl3=> ?_⟩
        refine gL (R:=fun H q c=>PlA H q c) (fun e h=>e.tup _ _ h) (rest:=[some (.ref b)]) (fun o=>eK o c) fR (fun H' hs'=>SqL.of (hs' _ _ (hs5 _ _ elm))) (hM.same hs5) hl3 (by omega) (fun b2 c2 H6 Q2 hc2 hb2 hs6 k2=> ?_) fun σ H6 q6 hs6 el6 hP6=> ?_
        · exact⟨_,rfl,_,rfl,b2,b,c2,c,rfl,hb2,hs6.ext.tup _ _ hbc,_,rfl,k2 _ (Same.refl _)⟩
        · refine⟨by show 0<=sizeLine;decide,fun l0 hl0=> ?_⟩
          have u6:=aG (o:=.lst []) hl0;have hq6:q6.length=_:=Paired.length hP6;refine⟨l3,l0,_,[],rfl,rfl,u6 _ _ el6,aD,?_⟩;have kk:=k _ (hs6.trans u6);by_cases ze:met.filter (fun o=>eK o c)=[]
          · right
            rw [ze]at hq6;have:q6=[]:=eq_nil_of_length_eq_zero hq6;subst this;have ea:(met.any fun o=>eK o c)=false:=by
              rw [any_eq_false];intro o ho z;have:o∈met.filter (fun o=>eK o c):=mem_filter.mpr ⟨ho,z⟩;rw [ze]at this;cases this
            rw [ea]at kk;exact⟨[],trivial,_,rfl,kk⟩
          · left
            have ea:(met.any fun o=>eK o c)=true:=by
              obtain⟨o,os,eo⟩:=exists_cons_of_ne_nil ze;have:o∈met.filter (fun o=>eK o c):=by rw [eo];exact zjR
              exact any_eq_true.mpr ⟨o,(mem_filter.mp this).1,(mem_filter.mp this).2⟩
            rw [ea]at kk;refine⟨?_,_,rfl,kk⟩;rw [length_map,hq6];intro z0;exact ze (eq_nil_of_length_eq_zero z0)
      · have hq5:qm.length<=rst.length:=by have:qm.length=_:=Paired.length hP5;rw [this];exact length_filter_le _ _
        have hP5':PlAt H5 qm (fC met rst):=hP5;dsimp only at hl hm1 hpm hpr;refine⟨_,rfl,_,rfl,lm,l,_,_,rfl,rfl,hs5 _ _ elm,el5,?_,fun la hla=> ?_⟩
        · rw [length_map,length_map,sizeLine_eq];omega
        have u7:=aG (o:=.lst (pm.map V.ref++qm.map V.ref)) hla;have ela:(upd H5 la (.lst (pm.map V.ref++qm.map V.ref))) la=some (.lst ((pm++qm).map V.ref)):=by rw [aD,map_append]
        generalize upd H5 la (.lst (pm.map V.ref++qm.map V.ref))=H7 at u7 ela⊢;have s57:=hs5.trans u7;refine⟨_,rfl,lr,rfl,⟨_,SqL.of (s57 _ _ elr)⟩,fun Z2 l2 hl2=> ?_⟩;refine gL (R:=fun H q c=>PlA H q c) (fun e h=>e.tup _ _ h) (rest:=[some (.ref l)]) (fun p=> !decide (p∈fC met rst)) fR (fun H' hs'=>SqL.of (hs' _ _ (s57 _ _ elr))) (hR.same s57) hl2 (by omega) (fun b2 c2 H8 Q2 hc2 hb2 hs8 k2=> ?_) fun σ H8 q8 hs8 el8 hP8=> ?_
        · refine⟨_,rfl,_,rfl,l,_,_,rfl,.inr (hs8 _ _ (u7 _ _ el5)),iN hb2 ((hP5'.same u7).same hs8),_,rfl,?_⟩
          rw [kS];exact k2 _ (Same.refl _)
        · refine⟨by show 2<=sizeLine;decide,fun tt htt=> ?_⟩
          have u9:=aG (o:=.tup [V.ref la,V.ref l2]) htt;refine⟨tt,_,rfl,SqT.of aD,rfl,_,_,rfl,_,_,rfl,rfl,?_⟩;generalize upd H8 tt (.tup [V.ref la,V.ref l2])=H9 at u9⊢;have s79:=hs8.trans u9;refine⟨((hs.trans s57).trans s79),la,l2,_,_,pm++qm,q8,rfl,s79 _ _ ela,?_,u9 _ _ el8,?_⟩
          · exact iO ((hM.same s57).same s79) ((hP5'.same u7).same s79)
          · exact PlAt.same hP8 u9
    · rintro σ H' ⟨hs,lm,lr,o3,o4,pm,pr,rfl,elm,hM,elr,hR⟩
      rw [length_map,length_cons,hptl]at hR hM;have hpr:pr.length=_:=Paired.length hR;refine⟨_,rfl,by show 0<=sizeLine;decide,fun l0 hl0=> ?_⟩;have u6:=aG (o:=.lst []) hl0;have qq:=q _ ((s04.trans hs).trans u6);refine⟨lr,l0,_,[],rfl,rfl,u6 _ _ elr,aD,?_⟩;have el:lhangs (c0::tl)=decide ((hit (tl.length+1) ([c0],tl)).2=[]):=rfl;by_cases ze:(hit (tl.length+1) ([c0],tl)).2=[]
      · right
        rw [el,zjV ze]at qq;rw [ze]at hpr;have:pr=[]:=eq_nil_of_length_eq_zero hpr;subst this;exact⟨[],trivial,qq⟩
      · left
        rw [el,zjU ze]at qq;refine⟨?_,qq⟩;rw [length_map,hpr];intro z0;exact ze (eq_nil_of_length_eq_zero z0)
end
def sX:Sp:=fun vs H Q _=> ∃a t g ps cs,vs=[.ref a,.ref t]/\GridAt H a g/\(H t=some (.tup ((ps:List Addr).map V.ref))\/H t=some (.lst (ps.map V.ref)))/\PlAt H ps cs/\(∀c∈cs,c∈bA pos g)/\Q (.int (cH g cs)) H
section
variable {P:Program}{w:World}{K:W.Frag}{mg:Str->Option Value}{base:Heap}
abbrev nLW:List Str:=["_law_mead_here","_law_land","_law_total_here","_law_place"]
theorem A3o (F:D1 K mg "_law_worth" zS ["_law_mead_here","_law_land"]):A1 P w K mg base 1 "_law_worth" sX:=by
 refine F.k nLW ?_;ac_nf
 ·obtain⟨a,t,g,ps,cs,rfl,hA,ht,hP,hin,q⟩:=h;refine⟨_,aU (bK (i:=2) nd rfl (Or.inl rfl) aM)<|
   aU (eG PassesOwn.never rfl (PI.or (cP (pv 1)) (cT (pv 1))) (nm1 3 nd)
    (aR (bK (i:=2) nd rfl (Or.inl rfl) (bB dU (pv 2) (bJ bW (bJ bW (pv 0) (bJ bW (pv 3) aM (fun _ _=>rfl)) (fun _ _=>rfl)) (bJ bW (pv 3) aM (fun _ _=>rfl)) (fun _ _=>rfl))))))<|
   aR (aY (pv 2)),?_⟩
  have hpl:ps.length=cs.length:=Paired.length hP;have W:∀{J:It}{S:Hp->Prop}(_:Wk J (ps.map V.ref) S)(_:S H),cX J (dD 3) (iE (tOp (rI0 fun i j=>V.int (i+j)) (cY 2) (tOp (jI K) (tOp (jI K) (cY 0) (tOp (jI K) (cY 3) (tC (.int 0)))) (tOp (jI K) (cY 3) (tC (.int 1))))) (dD 2)) {nx:=nF (cY 2) {nx:=fun _ H'=>Q .non H',rt:=Q},rt:=Q} [some (.ref a),some (.ref t),some (.int 0),none] H:=by
   intro J S Wk0 hS;refine Wk0 (fun i σ H'=>H'=H/\∃o,σ=[some (.ref a),some (.ref t),some (.int (cH g (cs.take i))),o]) ⟨rfl,_,rfl⟩ (fun i σ H' _ h=>by rw [h.1];exact hS) ?_ ?_
   ·rintro i x σ H' hx ⟨rfl,o,rfl⟩;obtain⟨p,hpi,rfl⟩:=gS hx;obtain⟨cc,hci,hpc⟩:=hP.at hpi;obtain⟨i',j',xs,n,rfl,hg,hxx,hf⟩:=mem_gridF.mp (hin _ (mem_of_getElem? hci));obtain⟨bs,b,h1,h2,h3,h4⟩:=hA.ix hg hxx;show iE _ _ _ [some (.ref a),some (.ref t),some (.int (cH g (cs.take i))),some (.ref p)] H';refine⟨_,rfl,_,rfl,_,rfl,p,_,0,_,rfl,rfl,SqT.of hpc,cK (j:=0) rfl,a,_,_,_,rfl,rfl,SqT.of h1,h2,_,rfl,p,_,1,_,rfl,rfl,SqT.of hpc,cK (j:=1) rfl,b,_,_,_,rfl,rfl,SqT.of h3,h4,_,_,rfl,rfl,rfl,some (.ref p),?_⟩;have e:cH g (cs.take (i+1))=cH g (cs.take i)+n:=by
     unfold cH;rw [take_succ,hci,map_append,sum_append];show _+([atG g ((i':Int),(j':Int))]).sum=_;rw [lC hg hxx];simp
    rw [e];rfl
   ·rintro σ H' ⟨rfl,o,rfl⟩;rw [length_map,hpl,take_of_length_le (zjQ _)];exact⟨_,rfl,q⟩
  rcases ht with ht|ht
  ·exact .inl ⟨_,rfl,t,rfl,⟨_,SqT.of ht⟩,W iV (SqT.of ht)⟩
  ·exact .inr ⟨_,rfl,t,rfl,⟨_,SqL.of ht⟩,W fR (SqL.of ht)⟩
end
section
variable {P:Program}{w:World}{K:W.Frag}{mg:Str->Option Value}{base:Heap}
abbrev nLC:List Str:=["_law_mead_here","_law_places","_law_row"]
theorem A5o:(["_law_column","_law_mead_here","_law_row"]:List Str).Nodup:=by decide +kernel
theorem B00 (F:D1 K mg "_law_cells" qG ["_law_mead_here"])(T:Txt mg)(T2:dC mg):A1 P w K mg base 1 "_law_cells" (eY pos):=by
 refine F.k nLC ?_;ac_nf
 ·obtain⟨a,g,w',rfl,hA,G,q⟩:=h;refine⟨_,aU (bK (i:=1) nd rfl (Or.inl rfl) (dR aA))<|
   aU (eG PassesOwn.never rfl (iZ rfl T2.range (bV (bE dM rfl T.len PySem.boot_len (aB (pv 0) aA)) aA)) (aJ (i:=2) nd rfl (Or.inr rfl))
    (aR (eF (mN PySem.F.plainAttrs_list PySem.F.slot_list_extend PySem.F.type_list_extend uI (pv 1) (cJ (bM (bD qG).names nLC ["_law_column"] [("_law_mead_here",0),("_law_row",2)] rfl (iZ rfl T2.range (bV (bE dM rfl T.len PySem.boot_len (dZ (bJ bW (pv 0) aM (fun _ _=>rfl)) aA)) aA)) rfl rfl rfl (by decide +kernel)
      (fun Z=>nm1 0 A5o) (fun Z=>eE (cB mG (bJ bW (bJ bW (pv 1) (pv 2) (fun _ _=>rfl)) (pv 0) (fun _ _=>rfl)) aM (nomark _))) (fun Z=>cD (aB (pv 2) (aB (pv 0) aA)))) aA)))))<|
   aR (aY (pv 1)),?_⟩
  obtain⟨bs,ha,hB⟩:=hA;have hbl:bs.length=g.length:=Paired.length hB;refine⟨by show 0<=sizeLine;decide,fun l hl=> ?_⟩;have u0:=aG (o:=.lst []) hl;refine⟨_,rfl,a,_,rfl,.inr (SqT.of (u0 _ _ ha)),?_⟩;have hA0:GridAt H a g:=⟨bs,ha,hB⟩;have h14:g.length<=4:=G.h4;have h11:1<=g.length:=G.h1;obtain⟨xs0,hx0⟩:∃xs0,g[0]?=some xs0:=⟨g[0],getElem?_eq_getElem (by omega)⟩;have hxl0:xs0.length=w':=G.len xs0 (mem_of_getElem? hx0);have hw5:=G.w5;have hw1:=G.w1;obtain⟨b0,hb0,eb0⟩:=hB.get hx0;refine⟨((bs.map V.ref).length:Int),rfl,by omega,by rw [length_map];omega,?_⟩;refine jE (lo:=0) (n:=((bs.map V.ref).length:Int).toNat) (fun i σ H'=>(∃o,σ=[some (.ref a),some (.ref l),o])/\Same H H'/\∃ps:List Addr,H' l=some (.lst (ps.map V.ref))/\PlAt H' ps (bA pos (g.take i))/\ps.length<=6*i) ⟨⟨_,rfl⟩,u0,[],by rw [aD];rfl,.nil,zjQ _⟩ ?_ ?_
  ·rintro i σ H' hi ⟨⟨o,rfl⟩,hs,ps,el,hP,hpi⟩;rw [Int.toNat_natCast,length_map,hbl]at hi;rw [Int.zero_add];obtain⟨xs,hx⟩:∃xs,g[i]?=some xs:=⟨g[i],getElem?_eq_getElem hi⟩;have hxl:xs.length=w':=G.len xs (mem_of_getElem? hx);show qI _ _ [some (.ref a),some (.ref l),some (.int i)] H';refine⟨_,rfl,.inl ⟨rfl,_,SqL.of el⟩,?_⟩;refine⟨_,rfl,a,_,0,.ref b0,rfl,rfl,SqT.of (hs _ _ ha),cK (j:=0) (by rw [getElem?_map,hb0];rfl),b0,_,rfl,.inr (SqT.of (hs _ _ eb0)),((xs0.map V.int).length:Int),rfl,by omega,by rw [length_map];omega,fun Z l2 hl2=> ?_⟩;refine jE (lo:=0) (n:=((xs0.map V.int).length:Int).toNat) (fun j σ H5=>(∃o,σ=[o,some (.ref a),some (.int i)])/\Same H' H5/\∃ns:List Addr,H5 l2=some (.lst (ns.map V.ref))/\PlAt H5 ns (eM pos i (xs.take j))) ⟨⟨_,rfl⟩,aG hl2,[],by rw [aD];rfl,.nil⟩ ?_ ?_
   ·rintro j σ H5 hj ⟨⟨o',rfl⟩,hs5,ns,el2,hN⟩;rw [Int.toNat_natCast,length_map,hxl0]at hj;rw [Int.zero_add];obtain⟨n,hn⟩:∃n,xs[j]?=some n:=⟨xs[j],getElem?_eq_getElem (by omega)⟩;obtain⟨bs',b,h1,h2,h3,h4⟩:=((hA0.same hs).same hs5).ix hx hn;have et:=rowF_succ pos (i:Int) xs j n hn;have hnl:ns.length<=6:=by
     have e1:ns.length=_:=Paired.length hN;have e2:(eM pos (i:Int) (xs.take j)).length<=(xs.take j).zipIdx.length:=List.length_filterMap_le _ _;rw [List.length_zipIdx,length_take]at e2;omega
    show cI _ _ _ [some (.int j),some (.ref a),some (.int i)] H5;refine⟨_,rfl,_,rfl,a,_,_,_,rfl,rfl,SqT.of h1,h2,_,rfl,b,_,_,_,rfl,rfl,SqT.of h3,h4,_,_,rfl,rfl,_,rfl,?_⟩;have ep:decide ((0:Int)<=n)=pos n:=rfl;refine cF (fun z=> ?_) fun z=> ?_
    ·refine⟨_,rfl,_,rfl,by show 2<=sizeLine;decide,fun t ht=> ?_⟩;have u5:=aG (o:=.tup [.int (i:Int),.int (j:Int)]) ht;refine⟨_,u5 _ _ el2,cM (by rw [length_map];omega),⟨_,rfl⟩,fun b' u e'=> ?_,ns++[t],?_,?_⟩
     ·rw [aV (bL e' hl2)];exact u5 _ _ (hs5 _ _ e')
     ·rw [aD,map_append];rfl
     ·rw [et,if_pos (by rw [←ep];exact z)];exact PlAt.snoc (Paired.mapP (hN.same u5) fun _ _ z=>PlA.put (u5 _ _ el2) z) (PlA.put (u5 _ _ el2) aD)
    ·rw [et,if_neg (by rw [←ep,z];decide),append_nil];exact⟨⟨_,rfl⟩,hs5,ns,el2,hN⟩
   ·rintro σ H5 ⟨_,hs5,ns,el2,hN⟩;rw [Int.toNat_natCast,length_map,hxl0,take_of_length_le (by omega)]at hN;have hnl:ns.length<=6:=by
     have e1:ns.length=_:=Paired.length hN;have e2:(eM pos (i:Int) xs).length<=xs.zipIdx.length:=List.length_filterMap_le _ _;rw [List.length_zipIdx]at e2;omega
    have el5:=hs5 _ _ el;refine⟨l,l2,_,_,rfl,rfl,el5,el2,by rw [length_map,length_map,sizeLine_eq];omega,⟨_,rfl⟩,fun b u e=> ?_,ps++ns,?_,?_,by rw [length_append];omega⟩
    ·rw [aV (bL e hl)];exact hs5 _ _ (hs _ _ e)
    ·rw [aD,map_append]
    ·rw [gridF_succ pos g i xs hx];exact iO (Paired.mapP (hP.same hs5) fun _ _ z=>PlA.put el5 z) (Paired.mapP hN fun _ _ z=>PlA.put el5 z)
  ·rintro σ H' ⟨⟨o,rfl⟩,hs,ps,el,hP,hpi⟩;rw [Int.toNat_natCast,length_map,hbl,take_of_length_le (zjQ _)]at hP;exact⟨_,rfl,q H' l ps hl hs el hP⟩
end
def llS {α:Type}(acc:List (List α))(x:α):List (List α):=acc++acc.map (· ++[x])
def llG {α:Type}(xs:List α):List (List α):=xs.foldl llS [[]]
theorem qK (xs:List α)(x:α):llG (xs++[x])=llG xs++(llG xs).map (· ++[x]):=by unfold llG;rw [List.foldl_append];rfl
theorem mW (xs:List α):(llG xs).length=2^xs.length:=by
 have:∀(xs:List α)(acc:List (List α)),(xs.foldl llS acc).length=acc.length*2^xs.length:=by
  intro xs
  induction xs with
  |nil=>intro acc;simp
  |cons x xs ih=>
   intro acc;rw [foldl_cons,ih,llS,length_append,length_map,length_cons,Nat.pow_succ,mul_comm (2^xs.length) 2,←Nat.mul_assoc]
   congr 1
   omega
 have h:=this xs [[]];rw [length_singleton,Nat.one_mul]at h;exact h
theorem nZ:∀{ys:List α},ys∈llG xs->ys.length<=xs.length:=by
 have:∀(xs:List α)(acc:List (List α))(n:Nat),(∀ys∈acc,ys.length<=n)->∀ys∈xs.foldl llS acc,ys.length<=n+xs.length:=by
  intro xs
  induction xs with
  |nil=>intro acc n h ys hy;exact h ys hy
  |cons x xs ih=>
   intro acc n h ys hy;have:=ih (llS acc x) (n+1) (fun zs hz=>by
    rcases mem_append.mp hz with z|z
    ·have:=h zs z;omega
    ·obtain⟨y,hy',rfl⟩:=mem_map.mp z;have:=h y hy';rw [length_append,length_singleton];omega) ys hy
   rw [length_cons];omega
 intro ys hy;have:=this xs [[]] 0 (fun ys h=>by rw [mem_singleton.mp h];exact zjQ _) ys hy;omega
theorem B1q (h:TusAt H qs (llG (ps.map V.ref)))(hP:PlAt H ps A):LansAt H qs (llG A):=by
 have em:∀(ps:List Addr)(acc:List (List Addr)),(ps.map V.ref).foldl llS (acc.map (List.map V.ref))=(ps.foldl llS acc).map (List.map V.ref):=by
  intro ps
  induction ps with
  |nil=>intro acc;rfl
  |cons p ps ih=>
   intro acc;rw [map_cons,foldl_cons,foldl_cons,←ih]
   congr 1
   unfold llS;rw [map_append,map_map,map_map]
   congr 1
   refine map_congr_left fun a _=> ?_;show _=List.map V.ref (a++[p]);rw [map_append];rfl
 have ep:∀{ps:List Addr}{A:List Pl},PlAt H ps A->∀{l:List (List Addr)}{m:List (List Pl)},Paired (fun p c=>PlAt H p c) l m->Paired (fun p c=>PlAt H p c) (ps.foldl llS l) (A.foldl llS m):=by
  intro ps A hP
  induction hP with
  |nil=>intro l m h;exact h
  |cons r t ih=>
   intro l m h;refine ih (iO h ?_);clear ih
   induction h with
   |nil=>exact .nil
   |cons r2 t2 ih2=>exact .cons (iO r2 (.cons r .nil)) ih2
 have e0:llG (ps.map V.ref)=(llG ps).map (List.map V.ref):=em ps [[]];rw [e0]at h;have key:∀{qs:List Addr}{l:List (List Addr)}{m:List (List Pl)},TusAt H qs (l.map (List.map V.ref))->Paired (fun p c=>PlAt H p c) l m->LansAt H qs m:=by
  intro qs l m h1 h2
  induction h2 generalizing qs with
  |nil=>cases h1;exact .nil
  |cons r t ih=>
   cases h1 with
   |cons r1 t1=>exact .cons ⟨_,r1,r⟩ (ih t1)
 exact key h (ep hP (.cons .nil .nil))
def xM:Sp:=fun vs H Q _=> ∃a g w,vs=[.ref a]/\GridAt H a g/\dO g w/\dG g<=6/\∀l qs H',H l=none->Same H H'->H' l=some (.lst ((qs:List Addr).map V.ref))->LansAt H' qs (llG (bA pos g))->Q (.ref l) H'
section
variable {P:Program}{w:World}{K:W.Frag}{mg:Str->Option Value}{base:Heap}
abbrev nLL:List Str:=["_law_mead_here","_law_every","_law_cell_here"]
theorem B3w:(["_law_land","_law_cell_here"]:List Str).Nodup:=by decide +kernel
theorem B1p (F:D1 K mg "_law_lands" sP ["_law_mead_here"])(a1:A1 P w K mg base 1 "_law_cells" (eY pos)):A1 P w K mg base 2 "_law_lands" xM:=by
 refine F.k nLL ?_;ac_nf
 ·obtain⟨a,g,w',rfl,hA,G,c6,q⟩:=h;refine⟨_,aU (bK (i:=1) nd rfl (Or.inl rfl) (dR (gW (cD aA) aA)))<|
   aU (eG PassesOwn.never rfl (cT (a1.c hr (aB (pv 0) aA))) (aJ (i:=2) nd rfl (Or.inr rfl))
    (aR (bK (i:=1) nd rfl (Or.inl rfl) (bB gX (pv 1) (bM (bD sP).names nLL ["_law_land"] [("_law_cell_here",2)] rfl (cT (pv 1)) rfl rfl rfl (by decide +kernel)
     (fun Z=>nm1 0 B3w) (fun Z=>cA) (fun Z=>bB gG (pv 0) (cD (aB (pv 1) aA))))))))<|
   aR (aY (pv 1)),?_⟩
  refine⟨by show 0<=sizeLine;decide,fun t0 ht0=> ⟨by show 1<=sizeLine;decide,fun l0 hl0=> ?_⟩⟩;have s0:=aG (o:=.tup []) ht0;have s1:=aG (o:=.lst [.ref t0]) hl0;have s01:=s0.trans s1;have el0:(upd (upd H t0 (.tup [])) l0 (.lst [.ref t0])) l0=some (.lst [.ref t0]):=aD;have et0:(upd (upd H t0 (.tup [])) l0 (.lst [.ref t0])) t0=some (.tup []):=s1 _ _ aD;have n0:H l0=none:=s0.free hl0;generalize upd (upd H t0 (.tup [])) l0 (.lst [.ref t0])=H1 at s01 el0 et0⊢;refine⟨_,rfl,a,g,w',rfl,hA.same s01,G,fun H2 lc pc hlc s2 elc hP=> ?_⟩;have hpl:pc.length=(bA pos g).length:=Paired.length hP;have h6:pc.length<=6:=by rw [hpl,fE];exact c6
  refine⟨lc,rfl,⟨_,SqL.of elc⟩,?_⟩;refine fX (K:=K) (a:=lc) (xs:=pc.map V.ref) (fun i σ H'=>Same H2 H'/\∃lt qs o,σ=[some (.ref a),some (.ref lt),o]/\H lt=none/\H' lt=some (.lst ((qs:List Addr).map V.ref))/\TusAt H' qs (llG ((pc.map V.ref).take i)))
   ⟨Same.refl _,l0,[t0],_,rfl,n0,s2 _ _ el0,.cons (s2 _ _ et0) .nil⟩ (fun i σ H' _ h=>SqL.of (h.1 _ _ elc)) ?_ ?_
  ·rintro i x σ H' hx ⟨hs,lt,qs,o,rfl,nlt,elt,hT⟩;have hi:i<pc.length:=by
    have:=(zjW.mp hx).1;rw [length_map]at this;exact this
   have et:(pc.map V.ref).take (i+1)=(pc.map V.ref).take i++[x]:=by rw [take_succ,hx];rfl
   have hql:qs.length=_:=Paired.length hT;have hq64:qs.length<=64:=by
    rw [hql,mW,length_take,length_map];exact le_trans (pow_le_pow_right (by decide) (show min i pc.length<=6 by omega)) (by decide)
   rw [et,qK];show iE _ _ _ [some (.ref a),some (.ref lt),some x] H';refine⟨_,rfl,_,rfl,lt,rfl,⟨_,SqL.of elt⟩,fun Z l hl=> ?_⟩;refine uR (rest:=[some x]) (fun ys=>ys++[x]) fR (fun H3 s3=>SqL.of (s3 _ _ elt)) hT hl (by omega) (fun qq ys H3 Q' hy hq s3 k=> ?_) fun σ3 H3 qs' s3 hc3 hT3=> ?_
   ·refine⟨_,rfl,_,rfl,by show 1<=sizeLine;decide,fun tx htx=> ?_⟩;have v1:=aG (o:=.tup [x]) htx;refine⟨qq,tx,_,_,rfl,rfl,v1 _ _ hq,aD,?_,fun c H5 s5 e5=>k c H5 (v1.trans s5) e5⟩;have:=nZ hy;rw [length_take,length_map]at this;rw [sizeLine_eq];show _+1<=_;omega
   ·have hq3:qs'.length=_:=Paired.length hT3;rw [length_map]at hq3;refine⟨lt,l,_,_,rfl,rfl,s3 _ _ elt,hc3,?_,fun la hla=> ?_⟩
    ·rw [length_map,length_map,sizeLine_eq];omega
    have v1:=aG (o:=.lst (qs.map V.ref++qs'.map V.ref)) hla;refine⟨(hs.trans s3).trans v1,la,qs++qs',_,rfl,?_,?_,?_⟩
    ·exact((s01.trans s2).trans (hs.trans s3)).free hla
    ·rw [aD,map_append]
    ·exact iO ((hT.same s3).same v1) (hT3.same v1)
  ·rintro σ H' ⟨hs,lt,qs,o,rfl,nlt,elt,hT⟩;rw [take_of_length_le (zjQ _)]at hT;exact⟨_,rfl,q lt qs H' nlt ((s01.trans s2).trans hs) elt (B1q hT (hP.same hs))⟩
end
def kJ (cs:List Pl)(d:Pl):Bool:=cs.any fun c=>eK c d
def iK (g:bF)(cs:List Pl):Bool:=(bA road g).any (kJ cs)
def yF:Sp:=fun vs H Q _=> ∃a t g w cs,vs=[.ref a,.ref t]/\GridAt H a g/\dO g w/\SqA H t cs/\cs.length<=10/\∀H',Same H H'->Q (.bl (iK g cs)) H'
section
variable {P:Program}{w:World}{K:W.Frag}{mg:Str->Option Value}{base:Heap}
abbrev nBR:List Str:=["_law_mead_here","_law_land","_law_row","_law_numbers","_law_column","_law_number_here","_law_near"]
theorem A6w:(["_law_one","_law_column","_law_row"]:List Str).Nodup:=by decide +kernel
theorem B15 (F:D1 K mg "_law_by_road" uJ ["_law_mead_here","_law_land"])(T:Txt mg)(a1:A1 P w K mg base 1 "_law_next_to" sW):A1 P w K mg base 2 "_law_by_road" yF:=by
  refine F.k nBR ?_;ac_nf
  · obtain⟨a,t,g,w',cs,rfl,⟨bs,ha,hB⟩,G,⟨ps,ht,hP⟩,h10,q⟩:=h
    refine⟨_,aU (eG PassesOwn.never rfl (lB rfl rfl T.enumerate (aB (pv 0) aA)) (bU rfl (aW (aJ (i:=2) nd rfl (Or.inr rfl)) (aW (nm1 3 nd) bT)))
        (aR (eG PassesOwn.never rfl (lB rfl rfl T.enumerate (aB (pv 3) aA)) (bU rfl (aW (aJ (i:=4) nd rfl (Or.inr rfl)) (aW (nm1 5 nd) bT)))
          (aU (A2a (i:=6) (bD uJ).names nBR ["_law_one"] [("_law_column",4),("_law_row",2)] rfl nd rfl rfl (cP (pv 1)) rfl rfl rfl (by decide +kernel)
            (fun Z=>nm1 0 A6w) (fun Z=>eE (bN (a1.c hr (aB (pv 0) (gW (cD (aB (pv 2) (aB (pv 1) aA))) aA))))) (fun Z=>pv 0))<|
           aR (bR (PW.pt (uD (cB fY (pv 5) (iQ iG aM) (nomark _)) (rO (cB (uG 1 (dI hr)) (pv 6) (dR aA) (nomark _))))) (aR (aY cZ)) bQ)))))<|
      aR (aY cZ),?_⟩
    have hbl:bs.length=g.length:=Paired.length hB;have hpl:ps.length=cs.length:=Paired.length hP;refine⟨_,rfl,a,_,rfl,SqT.of ha,?_⟩;refine pP (S:=fun H xs=>SqT K H a xs) (xs:=bs.map V.ref) (fun i σ H'=>Same H H'/\(∃o2 o3 o4 o5 o6,σ=[some (.ref a),some (.ref t),o2,o3,o4,o5,o6])/\(bA road (g.take i)).any (kJ cs)=false)
      ⟨Same.refl _,⟨_,_,_,_,_,rfl⟩,rfl⟩ (fun i σ H' _ h=>SqT.of (h.1 _ _ ha)) ?_ ?_
    · rintro i x p σ H' hx ⟨hs,⟨o2,o3,o4,o5,o6,rfl⟩,hno⟩ hp
      obtain⟨b,hbi,rfl⟩:=gS hx;have hi:i<g.length:=by rw [←hbl];exact(zjW.mp hbi).1
      obtain⟨xs,hxs⟩:∃xs,g[i]?=some xs:=⟨g[i],getElem?_eq_getElem hi⟩;obtain⟨b',hb',eb⟩:=hB.get hxs;rw [hbi]at hb';cases hb';have u1:=aG (o:=.tup [.int (i:Int),.ref b]) hp;refine⟨p,_,rfl,SqT.of aD,rfl,_,_,rfl,_,_,rfl,rfl,?_⟩;generalize upd H' p (.tup [.int (i:Int),.ref b])=H1 at u1⊢;have s1:=hs.trans u1;refine⟨_,rfl,b,_,rfl,SqT.of (s1 _ _ eb),?_⟩;refine pP (S:=fun H xs=>SqT K H b xs) (xs:=xs.map V.int) (fun j σ H2=>Same H1 H2/\(∃o4 o5 o6,σ=[some (.ref a),some (.ref t),some (.int (i:Int)),some (.ref b),o4,o5,o6])/\(eM road i (xs.take j)).any (kJ cs)=false)
        ⟨Same.refl _,⟨_,_,_,rfl⟩,rfl⟩ (fun j σ H2 _ h=>SqT.of (h.1 _ _ (s1 _ _ eb))) ?_ ?_
      · rintro j y p2 σ H2 hy ⟨hs2,⟨o4,o5,o6,rfl⟩,hno2⟩ hp2
        rw [getElem?_map]at hy;cases hn:xs[j]? with
        |none=>rw [hn]at hy;cases hy
        |some n=>
          rw [hn]at hy;cases hy;have u2:=aG (o:=.tup [.int (j:Int),.int n]) hp2;refine⟨p2,_,rfl,SqT.of aD,rfl,_,_,rfl,_,_,rfl,rfl,?_⟩;generalize upd H2 p2 (.tup [.int (j:Int),.int n])=H3 at u2⊢;have s3:=(s1.trans hs2).trans u2;refine⟨_,rfl,t,rfl,⟨_,SqT.of (s3 _ _ ht)⟩,fun Z l hl=> ?_⟩;refine gL (R:=fun H q c=>PlA H q c) (fun e h=>e.tup _ _ h) (rest:=[some (.int (j:Int)),some (.int (i:Int))]) (fun c=>eK c ((i:Int),(j:Int))) iV (fun H' hs'=>SqT.of (hs' _ _ (s3 _ _ ht))) (hP.same s3) hl (by omega) (fun b2 c2 H4 Q2 hc2 hb2 hs4 k2=> ?_) fun σ H4 q4 hs4 el4 hP4=> ?_
          · refine⟨_,rfl,_,rfl,_,rfl,by show 2<=sizeLine;decide,fun tp htp=> ?_⟩
            have u4:=aG (o:=.tup [.int (i:Int),.int (j:Int)]) htp;exact⟨b2,tp,c2,((i:Int),(j:Int)),rfl,u4 _ _ hb2,aD,_,rfl,k2 _ u4⟩
          · have et:=rowF_succ road (i:Int) xs j n hn
            have hq4:q4.length=_:=Paired.length hP4;have s4:=hs2.trans (u2.trans hs4);have ed:decide (V.int n=V.int (-1))=road n:=decide_eq_decide.mpr ⟨fun z=>V.int.inj z,fun z=>by rw [z]⟩;refine⟨_,rfl,1,rfl,rfl,_,rfl,?_⟩;rw [ed];refine cF (fun z=> ?_) fun z=> ?_
            · rw [if_pos z]at et
              refine⟨_,rfl,by show 0<=sizeLine;decide,fun l0 hl0=> ?_⟩;have u6:=aG (o:=.lst []) hl0;refine⟨l,l0,_,[],rfl,rfl,u6 _ _ el4,aD,?_⟩;by_cases ze:cs.filter (fun c=>eK c ((i:Int),(j:Int)))=[]
              · right
                rw [ze]at hq4;have:q4=[]:=eq_nil_of_length_eq_zero hq4;subst this;have ea:kJ cs ((i:Int),(j:Int))=false:=by
                  unfold kJ;rw [any_eq_false];intro o ho z;have:o∈cs.filter (fun c=>eK c ((i:Int),(j:Int))):=mem_filter.mpr ⟨ho,z⟩;rw [ze]at this;cases this
                refine⟨[],trivial,_,rfl,bX ⟨s4.trans u6,⟨_,_,_,rfl⟩,?_⟩⟩;rw [et,List.any_append,hno2,any_cons,ea];rfl
              · left
                have ea:kJ cs ((i:Int),(j:Int))=true:=by
                  obtain⟨o,os,eo⟩:=exists_cons_of_ne_nil ze;have:o∈cs.filter (fun c=>eK c ((i:Int),(j:Int))):=by rw [eo];exact zjR
                  exact any_eq_true.mpr ⟨o,(mem_filter.mp this).1,(mem_filter.mp this).2⟩
                refine⟨?_,_,rfl,cV ?_⟩
                · rw [length_map,hq4]
                  intro z0;exact ze (eq_nil_of_length_eq_zero z0)
                · have hby:iK g cs=true:=by
                    unfold iK;refine any_eq_true.mpr ⟨((i:Int),(j:Int)),mem_gridF.mpr ⟨i,j,xs,n,rfl,hxs,hn,z⟩,ea⟩
                  have:=q _ (((s1.trans s4)).trans u6);rw [hby]at this;exact this
            · rw [if_neg (by rw [z];decide),append_nil]at et
              exact⟨s4,⟨_,_,_,rfl⟩,by rw [et];exact hno2⟩
      · rintro σ H2 ⟨hs2,⟨o4,o5,o6,rfl⟩,hno2⟩
        rw [length_map,take_of_length_le (zjQ _)]at hno2;refine⟨s1.trans hs2,⟨_,_,_,_,_,rfl⟩,?_⟩;rw [gridF_succ road g i xs hxs,List.any_append,hno,hno2];rfl
    · rintro σ H' ⟨hs,_,hno⟩
      rw [length_map,hbl,take_of_length_le (zjQ _)]at hno;have:=q H' hs;unfold iK at this;rw [hno]at this;exact this
end
def lfit (g:bF)(cs:List Int)(cl:List C3)(od i:Int)(L:List Pl):Bool:=!decide (od*bG cs cl<ab (cH g L*bG cs cl - cH g (bA pos g)*bO cs cl i))&&(lhangs L&&iK g L)
def xV:Sp:=fun vs H Q _=> ∃p t g w cs cl od i L,vs=[.ref p,.int i,.ref t]/\PleA H p g w cs cl od/\SqA H t L/\(∀c∈L,c∈bA pos g)/\L.length<=10/\∀H',Same H H'->Q (.bl (lfit g cs cl od i L)) H'
section
variable {P:Program}{w:World}{K:W.Frag}{mg:Str->Option Value}{base:Heap}
abbrev nFi:List Str:=["_law_plea_here","_law_holder","_law_land","_law_mead_here","_law_custom_here","_law_claims_here","_law_odd_here","_law_total_here","_law_due"]
theorem B24 (F:D1 K mg "_law_fits" wE ["_law_plea_here","_law_holder","_law_land"])(T2:dC mg)(a1:A1 P w K mg base 1 "_law_total" uQ)(a2:A1 P w K mg base 1 "_law_worth" sX)(a3:A1 P w K mg base 1 "_law_cells" (eY pos))(a4:A1 P w K mg base 1 "_law_count" uE)(a5:A1 P w K mg base 2 "_law_hangs" A2b)(a6:A1 P w K mg base 2 "_law_by_road" yF):A1 P w K mg base 3 "_law_fits" xV:=by
 refine F.k nFi ?_;ac_nf
 ·obtain⟨p,t,g,w',cs,cl,od,i,L,rfl,D,⟨pt,ht,hpt⟩,hin,h10,q⟩:=h;obtain⟨m,c,a,hp,hm,hc,ha⟩:=D.ex;refine⟨_,aU (dP (pv 0) (bU rfl (aW (nm1 3 nd) (aW (nm1 4 nd) (aW (nm1 5 nd) (aW (nm1 6 nd) bT))))))<|
   aU (bK (i:=7) nd rfl (Or.inl rfl) (a1.c hr (aB (pv 4) (aB (pv 5) aA))))<|
   aU (bK (i:=8) nd rfl (Or.inl rfl) (bB dQ (a2.c hr (aB (pv 3) (bV (a3.c hr (aB (pv 3) aA)) aA))) (a4.c hr (aB (pv 4) (aB (pv 5) (aB (pv 1) aA))))))<|
   aU (bR (cB A0i (bE nM rfl T2.abs nY (eU (bB gU (bB dQ (a2.c hr (aB (pv 3) (aB (pv 2) aA))) (pv 7)) (pv 8)) aA)) (bB dQ (pv 6) (pv 7)) (nomark _)) (aR (aY cZ)) bQ)<|
   aR (aY (fP (a5.c hr (aB (pv 2) aA)) (fO (a6.c hr (aB (pv 3) (aB (pv 2) aA)))))),?_⟩
  refine⟨_,rfl,p,_,rfl,SqT.of hp,rfl,_,_,rfl,_,_,rfl,_,_,rfl,_,_,rfl,rfl,?_⟩;refine⟨_,rfl,_,rfl,c,a,cs,cl,rfl,hc,D.cu,ha,iT D.ck D.un,fun H1 s1=> ?_⟩;refine⟨_,rfl,_,rfl,m,g,w',rfl,hm.same s1,D.G,fun H2 lc pc hlc s2 elc hP=> ?_⟩;have s12:=s1.trans s2;have wb0:=lJ D.G (L:=bA pos g) (fun c hc=>hc) (by rw [fE];exact D.G.c10);have wb:=lJ D.G hin h10;refine⟨m,lc,g,pc,bA pos g,rfl,hm.same s12,.inr elc,hP,fun c hc=>hc,?_⟩;refine⟨_,rfl,_,rfl,_,rfl,c,a,cs,cl,i,rfl,s12 _ _ hc,D.cu,ha.ext s12.ext,iT D.ck D.un,?_⟩;refine⟨_,_,rfl,rfl,.inl ⟨by omega,by omega⟩,?_⟩;refine⟨_,rfl,_,rfl,m,t,g,pt,L,rfl,hm.same s12,.inl (s12 _ _ ht),hpt.same s12,hin,?_⟩;refine⟨_,rfl,_,_,rfl,rfl,.inl ⟨by omega,by omega⟩,_,rfl,_,_,rfl,rfl,_,rfl,_,rfl,_,rfl,_,_,rfl,rfl,.inl ⟨by have:=D.o9;omega,by have:=D.o9;omega⟩,_,_,rfl,rfl,_,rfl,?_⟩;have el:lfit g cs cl od i L=(!decide (od*bG cs cl<ab (cH g L*bG cs cl - cH g (bA pos g)*bO cs cl i))&&(lhangs L&&iK g L)):=rfl;refine fI (fun z=> ?_) fun z=> ?_
  ·rw [zjV (show od*bG cs cl<ab (cH g L*bG cs cl - cH g (bA pos g)*bO cs cl i)from z)]at el;have:=q H2 s12;rw [el]at this;exact this
  ·rw [zjU (show¬od*bG cs cl<ab (cH g L*bG cs cl - cH g (bA pos g)*bO cs cl i)from z)]at el;refine⟨_,rfl,t,L,rfl,⟨pt,s12 _ _ ht,hpt.same s12⟩,h10,fun H3 s3=> ⟨_,rfl,cF (fun e=> ?_) fun e=> ?_⟩⟩
   ·have s13:=s12.trans s3;refine⟨_,rfl,_,rfl,m,t,g,w',L,rfl,hm.same s13,D.G,⟨pt,s13 _ _ ht,hpt.same s13⟩,h10,fun H4 s4=> ?_⟩;have:=q H4 (s13.trans s4);rw [el,e]at this;exact this
   ·have:=q H3 (s12.trans s3);rw [el,e]at this;exact this
end
open Classical in
theorem B3i {L:List Pl}(nd:L.Nodup):lhangs L=mX L:=by
 unfold mX;cases L with
 |nil=>exact(zjU fun z=>z.1 rfl).symm
 |cons c0 tl=>
  have h:=B1a nd;rw [Bool.eq_iff_iff,decide_eq_true_eq];show decide ((hit (tl.length+1) ([c0],tl)).2=[])=true↔_;rw [decide_eq_true_eq];exact h
theorem B1i {g:bF}{L:List Pl}(hin:∀c∈L,c∈bA pos g):iK g L=L.any fun c=>decide (c∈(bA pos g).filter (fW g)):=by
 unfold iK kJ fW;rw [Bool.eq_iff_iff,any_eq_true,any_eq_true];constructor
 ·rintro⟨d,hd,h⟩;obtain⟨c,hc,hn⟩:=any_eq_true.mp h;refine⟨c,hc,zjV (mem_filter.mpr ⟨hin c hc,any_eq_true.mpr ⟨d,kZ (next_iff.mp hn),zjV hd⟩⟩)⟩
 ·rintro⟨c,hc,h⟩;have h1:=(mem_filter.mp (of_decide_eq_true h)).2;obtain⟨d,hd,he⟩:=any_eq_true.mp h1;exact⟨d,of_decide_eq_true he,any_eq_true.mpr ⟨c,hc,next_iff.mpr (kZ hd)⟩⟩
theorem A66 {g:bF}{L:List Pl}(nd:L.Nodup)(hin:∀c∈L,c∈bA pos g):(lhangs L&&iK g L)=iX g L:=by unfold iX;rw [B3i nd,B1i hin,Bool.and_comm]
theorem zG:ab x<=k↔ -k<=x/\x<=k:=by
 unfold ab
 split<;>constructor<;>intro h<;>(try constructor)<;>omega
theorem jF {b x y:Int}(hb:1<=b):b*x<=b*y↔x<=y:=
 ⟨fun h=>Int.le_of_mul_le_mul_left h (by omega),fun h=>Int.mul_le_mul_of_nonneg_left h (by omega)⟩
theorem B0b {W b t N D od:Int}(hb:1<=b)(hN:1<=N)(e:t*N=D*b):ab (W*b - t)<=od*b↔ab (W*N - D)<=od*N:=by
 rw [zG,zG];have k1:N*(W*b - t)=b*(W*N - D):=by
  rw [Int.mul_sub,Int.mul_sub,Int.mul_comm N t,e,Int.mul_comm D b]
  congr 1
  rw [←Int.mul_assoc,Int.mul_comm N W,Int.mul_comm (W*N) b]
 have k2:N*(od*b)=b*(od*N):=by rw [←Int.mul_assoc,Int.mul_comm N od,Int.mul_comm (od*N) b]
 have k3:N* -(od*b)=b* -(od*N):=by rw [Int.mul_neg,Int.mul_neg,k2]
 constructor
 ·rintro⟨h1,h2⟩;have h1':=(jF hN).mpr h1;have h2':=(jF hN).mpr h2;rw [k3,k1]at h1';rw [k1,k2]at h2';exact⟨(jF hb).mp h1',(jF hb).mp h2'⟩
 ·rintro⟨h1,h2⟩;have h1':=(jF hb).mpr h1;have h2':=(jF hb).mpr h2;rw [←k3,←k1]at h1';rw [←k1,←k2]at h2';exact⟨(jF hN).mp h1',(jF hN).mp h2'⟩
theorem B3m (hT:0<=bP g)(hC:0<=bO cs cl i)(hN:1<=bG cs cl):1<=kN g cs cl i/\nI g cs cl i*bG cs cl=(bP g*bO cs cl i)*kN g cs cl i:=by
 obtain⟨s0,s1,_,_,s4⟩:=vS hC hN;have hs0:0<=bP g*frTop (bO cs cl i) (bG cs cl):=Int.mul_nonneg hT s0;obtain⟨d0,d1,_,_,d4⟩:=vS hs0 s1;refine⟨d1,?_⟩;show frTop (bP g*frTop (bO cs cl i) (bG cs cl)) (frBot (bO cs cl i) (bG cs cl))*bG cs cl=bP g*bO cs cl i*frBot (bP g*frTop (bO cs cl i) (bG cs cl)) (frBot (bO cs cl i) (bG cs cl));generalize frTop (bO cs cl i) (bG cs cl)=sT at*;generalize frBot (bO cs cl i) (bG cs cl)=sB at*;generalize frTop (bP g*sT) sB=dT at*;generalize frBot (bP g*sT) sB=dB at*;have hne:sB≠0:=by omega
 refine Int.eq_of_mul_eq_mul_left hne ?_
 calc sB*(dT*bG cs cl)=dT*sB*bG cs cl:=by rw [←Int.mul_assoc,Int.mul_comm sB dT]
  _=bP g*sT*dB*bG cs cl:=by rw [d4]
  _=bP g*(sT*bG cs cl)*dB:=by rw [Int.mul_assoc (bP g*sT) dB,Int.mul_comm dB,←Int.mul_assoc,Int.mul_assoc (bP g)]
  _=bP g*(bO cs cl i*sB)*dB:=by rw [s4]
  _=sB*(bP g*bO cs cl i*dB):=by rw [←Int.mul_assoc (bP g),Int.mul_comm _ sB,Int.mul_assoc sB]
theorem B2a {g:bF}{cs:List Int}{cl:List C3}{od i:Int}{L:List Pl}(hT:0<=bP g)(hC:0<=bO cs cl i)(hN:1<=bG cs cl):kC g cs cl od i L= !decide (od*bG cs cl<ab (cH g L*bG cs cl - bP g*bO cs cl i)):=by obtain⟨h1,h2⟩:=B3m (g:=g) hT hC hN;have:=B0b (W:=cH g L) (od:=od) h1 hN h2;unfold kC;rw [Bool.eq_iff_iff,decide_eq_true_eq,this];simp
theorem A0n (g:bF):cH g (bA pos g)=bP g:=A2o g
theorem A8c {g:bF}{cs:List Int}{cl:List C3}{od i:Int}{L:List Pl}(nd:L.Nodup)(hin:∀c∈L,c∈bA pos g)(hT:0<=bP g)(hC:0<=bO cs cl i)(hN:1<=bG cs cl):lfit g cs cl od i L=(kC g cs cl od i L&&iX g L):=by unfold lfit;rw [A66 nd hin,A0n,B2a hT hC hN]
theorem uA {α:Type}{xs ys:List α}(h:ys∈llG xs):∀c∈ys,c∈xs:=by
 have:∀(xs:List α)(acc:List (List α))(S:α->Prop),(∀ys∈acc,∀c∈ys,S c)->(∀c∈xs,S c)->∀ys∈xs.foldl llS acc,∀c∈ys,S c:=by
  intro xs
  induction xs with
  |nil=>intro acc S h _ ys hy;exact h ys hy
  |cons x xs ih=>
   intro acc S h hx ys hy;refine ih (llS acc x) S (fun zs hz=> ?_) (fun c hc=>hx c (zjS _ hc)) ys hy;rcases mem_append.mp hz with z|z
   ·exact h zs z
   ·obtain⟨y,hy',rfl⟩:=mem_map.mp z;intro c hc;rcases mem_append.mp hc with hc|hc
    ·exact h y hy' c hc
    ·rw [mem_singleton.mp hc];exact hx x zjR
 exact this xs [[]] (· ∈xs) (fun ys h c hc=>by rw [mem_singleton.mp h]at hc;cases hc) (fun c hc=>hc) ys h
theorem B0v (xs:List α):([]:List α)∈llG xs:=by
 have:∀(xs:List α)(acc:List (List α)),[]∈acc->[]∈xs.foldl llS acc:=by
  intro xs
  induction xs with
  |nil=>intro acc h;exact h
  |cons x xs ih=>intro acc h;exact ih _ (mem_append_left _ h)
 exact this xs [[]] zjR
theorem wW (g:bF)(cs:List Int)(cl:List C3)(od i:Int):lfit g cs cl od i []=false:=by unfold lfit lhangs;simp
theorem A5k (cs:List Int)(cl:List C3)(od i:Int)(h6:dG g<=6):((llG (bA pos g)).filter (lfit g cs cl od i)).length<64:=by
 have h1:((llG (bA pos g)).filter (lfit g cs cl od i)).length<(llG (bA pos g)).length:=tY (B0v _) (wW g cs cl od i);have h2:(llG (bA pos g)).length<=64:=by
  rw [mW,fE];exact le_trans (pow_le_pow_right (by decide) h6) (by decide)
 omega
theorem B20 {R:Addr->List Pl->Prop}:∀{qs:List Addr}{ts:List (List Pl)},Paired R qs ts->((qs.zip ts).map fun z=>V.ref z.1)=qs.map V.ref/\(qs.zip ts).map (·.2)=ts/\(∀z∈qs.zip ts,R z.1 z.2):=by
 intro qs ts h
 induction h with
 |nil=>exact⟨rfl,rfl,fun z hz=>by cases hz⟩
 |cons r t ih=>
  refine⟨?_,?_,fun z hz=> ?_⟩
  ·rw [zip_cons_cons,map_cons,map_cons,ih.1]
  ·rw [zip_cons_cons,map_cons,ih.2.1]
  ·rw [zip_cons_cons]at hz;rcases mem_cons.mp hz with e|hz
   ·rw [e];exact r
   ·exact ih.2.2 z hz
def A24:Sp:=fun vs H Q _=> ∃p g w cs cl od i,vs=[.ref p,.int i]/\PleA H p g w cs cl od/\∀l zs zs' H',H l=none->Same H H'->H' l=some (.lst ((zs':List (Addr×List Pl)).map fun z=>V.ref z.1))->(∀z∈zs,SqA H' z.1 z.2)->zs.map (·.2)=(llG (bA pos g)).filter (lfit g cs cl od i)->A09 zs zs'->Q (.ref l) H'
section
variable {P:Program}{w:World}{K:W.Frag}{mg:Str->Option Value}{base:Heap}
abbrev nFt:List Str:=["_law_plea_here","_law_holder"]
theorem A73:(["_law_land","_law_plea_here","_law_holder"]:List Str).Nodup:=by decide +kernel
theorem A9y (F:D1 K mg "_law_fit_lands" vH ["_law_plea_here","_law_holder"])(T2:dC mg)(a1:A1 P w K mg base 2 "_law_lands" xM)(a2:A1 P w K mg base 3 "_law_fits" xV):A1 P w K mg base 4 "_law_fit_lands" A24:=by
 refine F.k nFt ?_;ac_nf
 ·obtain⟨p,g,w',cs,cl,od,i,rfl,D,q⟩:=h;obtain⟨m,c,a,hp,hm,hc,ha⟩:=D.ex;refine⟨_,aR (aY (bE (A8x (dI hr)) rfl T2.sorted boot_sorted (cJ (bM (bD vH).names nFt ["_law_land"] [("_law_plea_here",0),("_law_holder",1)] rfl (cT (a1.c hr (dZ (bJ bW (pv 0) aM (fun _ _=>rfl)) aA))) rfl rfl rfl (by decide +kernel)
   (fun Z=>nm1 0 A73) (fun Z=>eE (bN (a2.c hr (aB (pv 1) (aB (pv 2) (aB (pv 0) aA)))))) (fun Z=>pv 0)) aA))),?_⟩
  refine⟨_,rfl,p,_,0,_,rfl,rfl,SqT.of hp,rfl,m,g,w',rfl,hm,D.G,D.c6,fun ll qs H1 hll s1 ell hL=> ?_⟩;have hql:qs.length=_:=Paired.length hL;have h64:qs.length<=64:=by
   rw [hql,mW,fE];exact le_trans (pow_le_pow_right (by decide) D.c6) (by decide)
  refine⟨ll,rfl,⟨_,SqL.of ell⟩,fun Z l hl=> ?_⟩;refine gL (R:=fun H q cs=>SqA H q cs) (fun e h=>SqA.ext h e) (rest:=[some (.ref p),some (.int i)]) (lfit g cs cl od i) fR (fun H' hs=>SqL.of (hs _ _ ell)) hL hl (by omega) (fun b L H' Q' hc hb hs k=> ?_) fun σ H' qs' hs el' hP'=> ?_
  ·refine⟨_,rfl,_,rfl,_,rfl,p,b,g,w',cs,cl,od,i,L,rfl,(D.same s1).same hs,hb,uA hc,?_,fun H2 s2=> ⟨_,rfl,k H2 s2⟩⟩;have:=nZ hc;rw [fE]at this;have:=D.c6;omega
  ·obtain⟨z1,z2,z3⟩:=B20 hP';refine⟨l,qs'.zip _,rfl,by rw [el',z1],fun z hz=> ⟨z3 z hz,fun e=> ?_⟩,?_,fun lz zs' hlz hS=> ?_⟩
   ·have:z.2∈(qs'.zip ((llG (bA pos g)).filter (lfit g cs cl od i))).map (·.2):=mem_map.mpr ⟨z,hz,rfl⟩;rw [z2]at this;have:=(mem_filter.mp this).2;rw [e,wW]at this;cases this
   ·have:(qs'.zip ((llG (bA pos g)).filter (lfit g cs cl od i))).length=((qs'.zip ((llG (bA pos g)).filter (lfit g cs cl od i))).map (·.2)).length:=by rw [length_map]
    rw [this,z2];exact A5k cs cl od i D.c6
   ·have uz:=aG (o:=.lst (zs'.map fun z=>V.ref z.1)) hlz;exact q lz _ zs' _ ((s1.trans hs).free hlz) ((s1.trans hs).trans uz) aD (fun z hz=>SqA.ext (z3 z hz) uz.ext) z2 hS
end
theorem A2u (v:Int)(x:Int):∀{ks:List Int},ks.Nodup->(ks.map fun k=>if x=k then v else 0).sum=if x∈ks then v else 0
 | [],_=>by simp
 |k::ks,h=>by
  have hk:=nodup_cons.mp h;rw [map_cons,sum_cons,A2u v x hk.2];by_cases e:x=k
  ·subst e;simp [hk.1]
  ·simp [e]
theorem zP (f h:Int->Int):∀ks:List Int,(ks.map fun k=>f k+h k).sum=(ks.map f).sum+(ks.map h).sum
 | []=>by simp
 |k::ks=>by
  rw [map_cons,sum_cons,zP f h ks,map_cons,sum_cons,map_cons,sum_cons];omega
theorem wU (cs:List Int)(nd:ks.Nodup):∀cl:List C3,(ks.map (bO cs cl)).sum=bG cs (ofL cl ks)
 | []=>by
  have:ks.map (bO cs [])=ks.map fun _=>0:=map_congr_left fun k _=>rfl;rw [this];have z:∀l:List Int,(l.map fun _=>(0:Int)).sum=0:=fun l=>by induction l with|nil=>rfl|cons a l ih=>rw [map_cons,sum_cons,ih];rfl
  rw [z];rfl
 |c::cl=>by
  have ih:=wU cs nd cl;have e:ks.map (bO cs (c::cl))=ks.map fun k=>(if c.1=k then cw cs c else 0)+bO cs cl k:=map_congr_left fun k _=>by
   unfold bO ofH;by_cases z:c.1=k
   ·rw [filter_cons_of_pos (by simp [z]),if_pos z];unfold bG;rw [map_cons,sum_cons]
   ·rw [filter_cons_of_neg (by simp [z]),if_neg z,Int.zero_add]
  rw [e,zP,A2u _ _ nd,ih];unfold ofL;by_cases z:c.1∈ks
  ·rw [filter_cons_of_pos (by simp [z]),if_pos z];unfold bG;rw [map_cons,sum_cons]
  ·rw [filter_cons_of_neg (by simp [z]),if_neg z,Int.zero_add]
theorem xE:∀(n:Nat){xs ys:List α},xs.length=n->(ys∈llG xs↔ys.Sublist xs)
 |0,xs,ys,h=>by
  have:xs=[]:=eq_nil_of_length_eq_zero h;subst this;rw [sublist_nil];exact mem_singleton
 |n+1,xs,ys,h=>by
  rcases List.eq_nil_or_concat xs with e| ⟨zs,x,e⟩
  ·rw [e]at h;cases h
  ·rw [List.concat_eq_append]at e;subst e;rw [length_append,length_singleton]at h;have ih:∀{ys:List α},ys∈llG zs↔ys.Sublist zs:=xE n (by omega);rw [qK,mem_append];constructor
   ·rintro(hz|hz)
    ·exact(ih.mp hz).trans (List.sublist_append_left _ _)
    ·obtain⟨y,hy,rfl⟩:=mem_map.mp hz;exact(ih.mp hy).append (List.Sublist.refl _)
   ·intro hs;obtain⟨l1,l2,rfl,h1,h2⟩:=List.sublist_append_iff.mp hs;cases h2 with
    |cons _ h3=>
     rw [sublist_nil.mp h3,append_nil];exact .inl (ih.mpr h1)
    |cons_cons _ h3=>
     rw [sublist_nil.mp h3];exact .inr (mem_map.mpr ⟨l1,ih.mpr h1,rfl⟩)
theorem llG_rtV:ys∈llG xs↔ys∈rtV xs:=(xE _ rfl).trans ⟨sQ,iC⟩
theorem A30 {P:List Pl}(hnd:P.Nodup)(hs:P.Pairwise fun a b=>HT.lexLt [b.1,b.2] [a.1,a.2]=false):P.Pairwise ltP:=by
 refine(hs.and (List.nodup_iff_pairwise_ne.mp hnd)).imp fun{a b} z=> ?_;by_cases e:ltP a b
 ·exact e
 ·refine absurd (A9u e fun y=> ?_) z.2;unfold ltP at y;rw [z.1]at y;cases y
def inF (g:bF)(cs:List Int)(cl:List C3)(od k:Int)(c:Pl):Prop:=∃L∈llG (bA pos g),lfit g cs cl od k L=true/\c∈L
theorem wI (D:PleA H p g w cs cl od):inF g cs cl od k c↔c∈hJ g cs cl od k:=by
 obtain⟨⟨h0,_⟩,h1,_⟩:=oM D.cu D.ck D.un k;have hT:=(rX D.G D.c6).1;have key:∀L∈llG (bA pos g),lfit g cs cl od k L=(kC g cs cl od k L&&iX g L):=fun L hL=>
  have hs:=iC (llG_rtV.mp hL)
  A8c ((A1s (oD pos g)).sublist hs) (fun c hc=>hs.subset hc) hT h0 h1
 unfold inF hJ;rw [mem_filter,any_eq_true];constructor
 ·rintro⟨L,hL,hf,hc⟩;rw [key L hL,Bool.and_eq_true]at hf;exact⟨(iC (llG_rtV.mp hL)).subset hc,L,mem_filter.mpr ⟨mem_filter.mpr ⟨llG_rtV.mp hL,hf.2⟩,hf.1⟩,zjV hc⟩
 ·rintro⟨_,L,hL,hc⟩;obtain⟨h1',h2⟩:=mem_filter.mp hL;obtain⟨h3,h4⟩:=mem_filter.mp h1';have hl:=llG_rtV.mpr h3;exact⟨L,hl,by rw [key L hl,h2,h4];rfl,of_decide_eq_true hc⟩
theorem uK (h:inF g cs cl od k c):c∈bA pos g:=let ⟨_,hL,_,hc⟩:=h;uA hL _ hc
theorem B01 {H:Hp}{p:Addr}{g:bF}{w:Nat}{cs:List Int}{cl:List C3}{od:Int}(D:PleA H p g w cs cl od){ks:List Int}{M P:List Pl}(nd:M.Nodup)(hm:∀c,c∈M↔ ∃k∈ks,inF g cs cl od k c)(hp:P.Perm M)(hs:P.Pairwise fun a b=>HT.lexLt [b.1,b.2] [a.1,a.2]=false):P=dF g cs cl od ks:=by
 refine wH (A30 (hp.nodup_iff.mpr nd) hs) (LandOf.up (jJ g cs cl od ks)) fun c=> ?_;rw [hp.mem_iff,hm];unfold dF nO;rw [mem_filter,any_eq_true];constructor
 ·rintro⟨k,hk,h⟩;exact⟨uK h,k,hk,zjV ((wI D).mp h)⟩
 ·rintro⟨_,k,hk,h⟩;exact⟨k,hk,(wI D).mpr (of_decide_eq_true h)⟩
def jZ:Sp:=fun vs H Q _=> ∃p t g w cs cl od ks,vs=[.ref p,.ref t]/\PleA H p g w cs cl od/\H t=some (.tup ((ks:List Int).map V.int))/\∀t' H',H t'=none->Same H H'->SqA H' t' (dF g cs cl od ks)->Q (.ref t') H'
section
variable {P:Program}{w:World}{K:W.Frag}{mg:Str->Option Value}{base:Heap}
abbrev nFd:List Str:=["_law_plea_here","_law_holders_here","_law_met","_law_holder","_law_land"]
theorem B02:(["_law_place","_law_met"]:List Str).Nodup:=by decide +kernel
theorem B2o (F:D1 K mg "_law_field" nK ["_law_plea_here","_law_holders_here"])(T:Txt mg)(T2:dC mg)(a1:A1 P w K mg base 4 "_law_fit_lands" A24):A1 P w K mg base 5 "_law_field" jZ:=by
 refine F.k nFd ?_;ac_nf
 ·obtain⟨p,t,g,w',cs,cl,od,ks,rfl,D,ht,q⟩:=h;refine⟨_,aU (bK (i:=2) nd rfl (Or.inr rfl) (dR aA))<|
   aU (eG PassesOwn.never rfl (cP (pv 1)) (nm1 3 nd)
    (aR (eG PassesOwn.never rfl (cT (a1.c hr (aB (pv 0) (aB (pv 3) aA)))) (nm1 4 nd)
     (aR (eF (mN PySem.F.plainAttrs_list PySem.F.slot_list_extend PySem.F.type_list_extend uI (pv 2) (cJ (bM (bD nK).names nFd ["_law_place"] [("_law_met",2)] rfl (cP (pv 4)) rfl rfl rfl (by decide +kernel)
      (fun Z=>nm1 0 B02) (fun Z=>eE (cB (qQ 1 (dI hr)) (pv 0) (pv 1) rfl)) (fun Z=>pv 0)) aA)))))))<|
   aR (aY (eP kE rfl T.tuple boot_tuple (bV (bE tM rfl T2.sorted boot_sorted (aB (pv 2) aA)) aA))),?_⟩
  refine⟨by show 0<=sizeLine;decide,fun l hl=> ?_⟩;have u0:=aG (o:=.lst []) hl;have h6:(bA pos g).length<=6:=by rw [fE];exact D.c6
  refine⟨_,rfl,t,rfl,⟨_,SqT.of (u0 _ _ ht)⟩,?_⟩;refine gM (K:=K) (a:=t) (xs:=ks.map V.int) (fun i σ H'=>(∃o3 o4,σ=[some (.ref p),some (.ref t),some (.ref l),o3,o4])/\Same H H'/\∃ms M,H' l=some (.lst ((ms:List Addr).map V.ref))/\PlAt H' ms M/\M.Nodup/\∀c,c∈M↔ ∃k∈ks.take i,inF g cs cl od k c)
   ⟨⟨_,_,rfl⟩,u0,[],[],by rw [aD];rfl,.nil,nodup_nil,fun c=>by simp⟩ (fun i σ H' _ h=>SqT.of (h.2.1 _ _ ht)) ?_ ?_
  ·rintro i x σ H' hx ⟨⟨o3,o4,rfl⟩,hs,ms,M,el,hM,hnd,hmem⟩;rw [getElem?_map]at hx;cases hk:ks[i]? with
   |none=>rw [hk]at hx;cases hx
   |some k=>
    rw [hk]at hx;cases hx;have et:ks.take (i+1)=ks.take i++[k]:=by rw [take_succ,hk];rfl
    show A29 _ _ _ _ [some (.ref p),some (.ref t),some (.ref l),some (.int k),o4] H';refine⟨_,rfl,_,rfl,p,g,w',cs,cl,od,k,rfl,D.same hs,fun lf zs zs' H1 hlf s1 elf hzs ezs so=> ?_⟩;have hsq:∀z∈zs',SqA H1 z.1 z.2:=fun z hz=>hzs z (so.1.mem_iff.mp hz);have hll:∀z∈zs',z.2∈(llG (bA pos g)).filter (lfit g cs cl od k):=fun z hz=>by rw [←ezs];exact mem_map_of_mem (so.1.mem_iff.mp hz)
    have el1:=s1 _ _ el;refine⟨lf,rfl,⟨_,SqL.of elf⟩,?_⟩;refine fX (K:=K) (a:=lf) (xs:=zs'.map fun z=>V.ref z.1) (fun j σ H2=>(∃o4,σ=[some (.ref p),some (.ref t),some (.ref l),some (.int k),o4])/\Same H H2/\(∀b u,b≠l->H1 b=some u->H2 b=some u)/\∃ms M,H2 l=some (.lst ((ms:List Addr).map V.ref))/\PlAt H2 ms M/\M.Nodup/\∀c,c∈M↔(∃k∈ks.take i,inF g cs cl od k c)\/ ∃z∈zs'.take j,c∈z.2)
     ⟨⟨_,rfl⟩,hs.trans s1,fun _ _ _ e=>e,ms,M,el1,hM.same s1,hnd,fun c=>by rw [hmem];simp⟩ (fun j σ H2 _ h=>SqL.of (h.2.2.1 _ _ (fun z=>by rw [z,el]at hlf;cases hlf) elf)) ?_ ?_
    ·rintro j y σ H2 hy ⟨⟨o4,rfl⟩,hs2,kp,ms2,M2,el2,hM2,hnd2,hmem2⟩;rw [getElem?_map]at hy;cases hz:zs'[j]? with
     |none=>rw [hz]at hy;cases hy
     |some z=>
      rw [hz]at hy;cases hy;have zm:=mem_of_getElem? hz;obtain⟨pz,ez,hPz⟩:=hsq z zm;have kt:∀b xs,H1 b=some (.tup xs)->H2 b=some (.tup xs):=fun b xs e=>kp b _ (fun y=>by rw [y,el1]at e;cases e) e;have ez2:=kt _ _ ez;have hPz2:PlAt H2 pz z.2:=Paired.mapP hPz fun _ _ y=>kt _ _ y;have hzl:z.2.length<=6:=le_trans (nZ (mem_filter.mp (hll z zm)).1) h6;have hpz:pz.length=z.2.length:=Paired.length hPz;have hM6:M2.length<=6:=by
       refine le_trans (lV hnd2 fun c hc=> ?_) h6;rcases(hmem2 c).mp hc with⟨k',_,h⟩| ⟨z',hz',h⟩
       ·exact uK h
       ·exact uA (mem_filter.mp (hll z' (mem_of_mem_take hz'))).1 _ h
      have hml:ms2.length=M2.length:=Paired.length hM2;have ezt:zs'.take (j+1)=zs'.take j++[z]:=by rw [take_succ,hz];rfl
      show qI _ _ [some (.ref p),some (.ref t),some (.ref l),some (.int k),some (.ref z.1)] H2;refine⟨_,rfl,.inl ⟨rfl,_,SqL.of el2⟩,?_⟩;refine⟨_,rfl,z.1,rfl,⟨_,SqT.of ez2⟩,fun Z ln hln=> ?_⟩;refine gL (R:=fun H q c=>PlA H q c) (fun e h=>e.tup _ _ h) (rest:=[some (.ref l)]) (fun c=> !decide (c∈M2)) iV (fun H' hs'=>SqT.of (hs' _ _ ez2)) hPz2 hln (by omega) (fun b c H3 Q3 hc hb hs3 k3=> ?_) fun σ H3 q3 hs3 el3 hP3=> ?_
      ·refine⟨_,rfl,_,rfl,l,_,_,rfl,.inr (hs3 _ _ el2),iN hb (hM2.same hs3),_,rfl,?_⟩;rw [kS];exact k3 _ (Same.refl _)
      ·have hq3:q3.length<=6:=by
        have:q3.length=_:=Paired.length hP3;have:=length_filter_le (fun c=> !decide (c∈M2)) z.2;omega
       have ell:=hs3 _ _ el2;refine⟨l,ln,_,_,rfl,rfl,ell,el3,by rw [length_map,length_map,sizeLine_eq];omega,⟨_,rfl⟩,fun b u e=> ?_,fun b u n e=> ?_,ms2++q3,M2++z.2.filter (fun c=> !decide (c∈M2)),?_,?_,?_,fun c=> ?_⟩
       ·rw [aV (bL e hl)];exact hs3 _ _ (hs2 _ _ e)
       ·rw [aV n];exact hs3 _ _ (kp b u n e)
       ·rw [aD,map_append]
       ·exact iO (Paired.mapP (hM2.same hs3) fun _ _ y=>PlA.put ell y) (Paired.mapP hP3 fun _ _ y=>PlA.put ell y)
       ·rw [nodup_append];refine⟨hnd2,List.Nodup.sublist List.filter_sublist ((A1s (oD pos g)).sublist (iC (llG_rtV.mp (mem_filter.mp (hll z zm)).1))),fun a ha b hb e=> ?_⟩;subst e;have:=(mem_filter.mp hb).2;rw [zjV ha]at this;cases this
       ·rw [ezt,mem_append,hmem2 c,mem_filter];have e2:(∃z'∈zs'.take j++[z],c∈z'.2)↔(∃z'∈zs'.take j,c∈z'.2)\/c∈z.2:=by
         constructor
         ·rintro⟨z',h1,h2⟩;rcases mem_append.mp h1 with h1|h1
          ·exact .inl ⟨z',h1,h2⟩
          ·rw [mem_singleton.mp h1]at h2;exact .inr h2
         ·rintro(⟨z',h1,h2⟩|h2)
          ·exact⟨z',mem_append_left _ h1,h2⟩
          ·exact⟨z,mem_append_right _ (mem_singleton.mpr rfl),h2⟩
        rw [e2];by_cases hc:c∈M2
        ·have:=(hmem2 c).mp hc;exact⟨fun _=>by rcases this with h|h;exact .inl h;exact .inr (.inl h),fun _=> .inl this⟩
        ·have hn:¬((∃k∈ks.take i,inF g cs cl od k c)\/ ∃z∈zs'.take j,c∈z.2):=fun y=>hc ((hmem2 c).mpr y);constructor
         ·rintro(y|y)
          ·exact absurd y hn
          ·exact .inr (.inr y.1)
         ·rintro(y|y|y)
          ·exact absurd (.inl y) hn
          ·exact absurd (.inr y) hn
          ·exact .inr ⟨y,by rw [zjU hc];rfl⟩
    ·rintro σ H2 ⟨⟨o4,rfl⟩,hs2,kp,ms2,M2,el2,hM2,hnd2,hmem2⟩;rw [length_map,take_of_length_le (zjQ _)]at hmem2;refine⟨⟨_,_,rfl⟩,hs2,ms2,M2,el2,hM2,hnd2,fun c=> ?_⟩;rw [hmem2,et];have e3:(∃z∈zs',c∈z.2)↔inF g cs cl od k c:=by
      constructor
      ·rintro⟨z,h1,h2⟩;obtain⟨y1,y2⟩:=mem_filter.mp (hll z h1);exact⟨z.2,y1,y2,h2⟩
      ·rintro⟨L,y1,y2,h2⟩;have:L∈zs.map (·.2):=by rw [ezs];exact mem_filter.mpr ⟨y1,y2⟩
       obtain⟨z,hz,rfl⟩:=mem_map.mp this;exact⟨z,so.1.mem_iff.mpr hz,h2⟩
     rw [e3];constructor
     ·rintro(⟨k',h1,h2⟩|h2)
      ·exact⟨k',mem_append_left _ h1,h2⟩
      ·exact⟨k,mem_append_right _ (mem_singleton.mpr rfl),h2⟩
     ·rintro⟨k',h1,h2⟩;rcases mem_append.mp h1 with h1|h1
      ·exact .inl ⟨k',h1,h2⟩
      ·rw [mem_singleton.mp h1]at h2;exact .inr h2
  ·rintro σ H' ⟨⟨o3,o4,rfl⟩,hs,ms,M,el,hM,hnd,hmem⟩;rw [length_map,take_of_length_le (zjQ _)]at hmem;refine⟨_,rfl,?_⟩;have hM6:M.length<=6:=by
    refine le_trans (lV hnd fun c hc=> ?_) h6;obtain⟨k',_,h⟩:=(hmem c).mp hc;exact uK h
   refine A1b (X:=(eX CX0 P w K mg base nFd (Str.ofString "_law_field") (bD nK) f cdv A outer s H E).nox) (Q:=fun v H1=> ∃p ys,[v]=[V.ref p]/\((SqL K H1 p ys/\∀l,H1 l=none->Q (.ref l) (upd H1 l (.tup ys)))\/(SqT K H1 p ys/\Q (.ref p) H1))) el hM (by omega) fun l9 qs' R' H9 h9 s9 hl9 hR9 pm up=> ?_;refine⟨l9,_,rfl,.inl ⟨SqL.of hl9,fun t' ht'=> ?_⟩⟩;have s10:=aG (o:=.tup (qs'.map V.ref)) ht';have e:=B01 D hnd hmem pm up;subst e;exact q t' _ ((hs.trans s9).free ht') ((hs.trans s9).trans s10) ⟨qs',aD,hR9.same s10⟩
end
theorem A26 (T q:Int)(f:Int->Int):∀ks:List Int,(ks.map fun k=>T*f k - q).sum=T*(ks.map f).sum - q*ks.length
 | []=>by simp
 |k::ks=>by
  rw [map_cons,sum_cons,A26 T q f ks,map_cons,sum_cons,length_cons,Int.mul_add,Int.natCast_add,Int.mul_add,show((1:Nat):Int)=1 from rfl,Int.mul_one];omega
def jS (g:bF)(cs:List Int)(cl:List C3)(od:Int)(ks:List Int):Int:=(ks.map fun k=>cH g (bA pos g)*bO cs cl k - od*bG cs cl).sum
theorem B3h (g:bF)(cs:List Int)(cl:List C3)(od:Int)(nd:ks.Nodup):jS g cs cl od ks=bP g*bG cs (ofL cl ks) - od*bG cs cl*ks.length:=by unfold jS;rw [A26,A0n,wU cs nd cl]
def oV:Sp:=fun vs H Q _=> ∃p t g w cs cl od ks,vs=[.ref p,.ref t]/\PleA H p g w cs cl od/\H t=some (.tup ((ks:List Int).map V.int))/\ks.Nodup/\∀H',Same H H'->Q (.bl (gN g cs cl od ks)) H'
section
variable {P:Program}{w:World}{K:W.Frag}{mg:Str->Option Value}{base:Heap}
abbrev nLk:List Str:=["_law_plea_here","_law_holders_here","_law_mead_here","_law_custom_here","_law_claims_here","_law_odd_here","_law_met","_law_total_here","_law_least","_law_holder"]
theorem A3v (F:D1 K mg "_law_lacks" A1q ["_law_plea_here","_law_holders_here"])(T:Txt mg)(a1:A1 P w K mg base 1 "_law_total" uQ)(a2:A1 P w K mg base 1 "_law_worth" sX)(a3:A1 P w K mg base 1 "_law_cells" (eY pos))(a4:A1 P w K mg base 1 "_law_count" uE)(a5:A1 P w K mg base 5 "_law_field" jZ):A1 P w K mg base 6 "_law_lacks" oV:=by
 refine F.k nLk ?_;ac_nf
 ·obtain⟨p,t,g,w',cs,cl,od,ks,rfl,D,ht,hnd,q⟩:=h;obtain⟨m,c,a,hp,hm,hc,ha⟩:=D.ex;refine⟨_,aU (dP (pv 0) (bU rfl (aW (nm1 2 nd) (aW (nm1 3 nd) (aW (nm1 4 nd) (aW (nm1 5 nd) bT))))))<|
   aU (lH (i:=6) (j:=7) rfl nd rfl rfl (by decide) rfl rfl (bV (a5.c hr (aB (pv 0) (aB (pv 1) aA))) (bV (a1.c hr (aB (pv 3) (aB (pv 4) aA))) aA)) rfl)<|
   aU (bK (i:=8) nd rfl (Or.inl rfl) aM)<|
   aU (eG PassesOwn.never rfl (cP (pv 1)) (nm1 9 nd)
    (aR (bK (i:=8) nd rfl (Or.inl rfl) (bB gU (bB dU (pv 8) (bB dQ (a2.c hr (aB (pv 2) (bV (a3.c hr (aB (pv 2) aA)) aA))) (a4.c hr (aB (pv 3) (aB (pv 4) (aB (pv 9) aA)))))) (bB dQ (pv 5) (pv 7))))))<|
   aR (aY (B1f (cW jM (bE dM rfl T.len PySem.boot_len (aB (pv 6) aA)) (bE dM rfl T.len PySem.boot_len (aB (pv 1) aA)) (nomark _)) (fO (cW jM (bB dQ (a2.c hr (aB (pv 2) (aB (pv 6) aA))) (pv 7)) (pv 8) (nomark _))))),?_⟩
  refine⟨_,rfl,p,_,rfl,SqT.of hp,rfl,_,_,rfl,_,_,rfl,_,_,rfl,_,_,rfl,rfl,?_⟩;refine⟨_,rfl,_,rfl,p,t,g,w',cs,cl,od,ks,rfl,D,ht,fun u H1 hu s1 hU=> ?_⟩;refine⟨_,rfl,_,rfl,c,a,cs,cl,rfl,s1 _ _ hc,D.cu,ha.ext s1.ext,iT D.ck D.un,fun H2 s2=> ?_⟩;have s12:=s1.trans s2;obtain⟨pu,eu,hPu⟩:=SqA.ext hU s2.ext;refine⟨_,_,rfl,?_⟩;have wb0:=lJ D.G (L:=bA pos g) (fun c hc=>hc) (by rw [fE];exact D.G.c10);have hnb:=(oM D.cu D.ck D.un 0).2;refine⟨_,rfl,t,rfl,⟨_,SqT.of (s12 _ _ ht)⟩,?_⟩;refine gM (K:=K) (a:=t) (xs:=ks.map V.int) (fun i σ H'=>(∃o,σ=[some (.ref p),some (.ref t),some (.ref m),some (.ref c),some (.ref a),some (.int od),some (.ref u),some (.int (bG cs cl)),some (.int (jS g cs cl od (ks.take i))),o])/\Same H2 H')
   ⟨⟨_,rfl⟩,Same.refl _⟩ (fun i σ H' _ h=>SqT.of (h.2 _ _ (s12 _ _ ht))) ?_ ?_
  ·rintro i x σ H' hx ⟨⟨o,rfl⟩,hs⟩;rw [getElem?_map]at hx;cases hk:ks[i]? with
   |none=>rw [hk]at hx;cases hx
   |some k=>
    rw [hk]at hx;cases hx;have et:ks.take (i+1)=ks.take i++[k]:=by rw [take_succ,hk];rfl
    have s3:=s12.trans hs;show iE _ _ _ [some (.ref p),some (.ref t),some (.ref m),some (.ref c),some (.ref a),some (.int od),some (.ref u),some (.int (bG cs cl)),some (.int (jS g cs cl od (ks.take i))),some (.int k)] H';refine⟨_,rfl,_,rfl,_,rfl,m,g,w',rfl,hm.same s3,D.G,fun H4 lc pc hlc s4 elc hP=> ?_⟩;have s34:=s3.trans s4;refine⟨m,lc,g,pc,bA pos g,rfl,hm.same s34,.inr elc,hP,fun c hc=>hc,?_⟩;refine⟨_,rfl,_,rfl,_,rfl,c,a,cs,cl,k,rfl,s34 _ _ hc,D.cu,ha.ext s34.ext,iT D.ck D.un,?_⟩;refine⟨_,_,rfl,rfl,.inl ⟨by omega,by omega⟩,_,_,rfl,rfl,_,rfl,_,rfl,_,_,rfl,rfl,.inl ⟨by have:=D.o9;omega,by have:=D.o9;omega⟩,_,_,rfl,rfl,?_⟩;refine⟨⟨some (.int k),?_⟩,hs.trans s4⟩;rw [et];have e:jS g cs cl od (ks.take i++[k])=jS g cs cl od (ks.take i)+cH g (bA pos g)*bO cs cl k - od*bG cs cl:=by
     unfold jS;rw [map_append,sum_append,List.map_singleton,List.sum_singleton];omega
    rw [e];rfl
  ·rintro σ H' ⟨⟨o,rfl⟩,hs⟩;rw [length_map,take_of_length_le (zjQ _),B3h g cs cl od hnd];have s3:=s12.trans hs;have hpu:pu.length=_:=Paired.length hPu;have hLd:=jJ g cs cl od ks;have wb:=lJ D.G (fun c hc=>hLd.subset hc) (LandOf.len D.G hLd);refine⟨_,rfl,u,_,rfl,.inr (SqT.of (hs _ _ eu)),_,rfl,t,_,rfl,.inr (SqT.of (s3 _ _ ht)),_,_,rfl,rfl,_,rfl,?_⟩;have qq:=q H' s3;unfold gN kH at qq;refine fI (fun z=> ?_) fun z=> ?_
   ·rw [length_map,length_map,hpu]at z;rw [zjV (show(dF g cs cl od ks).length<ks.length by omega),Bool.true_or]at qq;exact qq
   ·rw [length_map,length_map,hpu]at z;rw [zjU (show¬(dF g cs cl od ks).length<ks.length by omega),Bool.false_or]at qq;refine⟨_,rfl,_,rfl,m,u,g,pu,dF g cs cl od ks,rfl,hm.same s3,.inl (hs _ _ eu),hPu.same hs,fun c hc=>hLd.subset hc,?_⟩;exact⟨_,rfl,_,_,rfl,rfl,.inl ⟨by omega,by omega⟩,_,rfl,_,_,rfl,rfl,qq⟩
end
end M10
namespace L2
open PySem PySem.Spec PyProof.Rows Srt
section
theorem A8y (hl:IsTup s.heap l items)(hb:IsTup s.heap b items2)(hi:IntsAre items.toList ns)(hj:IntsAre items2.toList ms)
  (hu:A.units<cLine)(h:Q (HT.lexLt ns ms) s):wpAny (model prog w) A (oneLt' true (.ref l) (.ref b)) Q E s:=by
 obtain⟨⟨cls,dd,data,sl⟩,ho,hc,n,hd⟩:=id hl;obtain⟨⟨cls2,dd2,data2,sl2⟩,ho2,hc2,n2,hd2⟩:=id hb;simp only at hc hd hc2 hd2;subst hc hd hc2 hd2;rw [oneLt'_eq];simp only [if_true];refine zjZ (wpAny_cRoomFor hu ?_);refine zjZ (wpAny_callSpecialIfBound?_slot (T:="tuple") ⟨_,ho,rfl⟩ PySem.F.slot_tuple_lt (call_meets PySem.F.slot_tuple_lt ⟨_,ho,rfl⟩ PySem.F.entry_tuple_lt (PySem.F.args_tuple_lt_2 _ _) (HT.tuple_lt_ints l b items items2 n n2 dd dd2 sl sl2 ns ms hi hj) ⟨ho,ho2,?_⟩));exact wpAny_truthy_bool h
def nG (h:Heap)(v:Value):Prop:=∃a o xs n,v= .ref a/\h.get? a=some o/\o.cls= .type "tuple"/\o.data= .seq xs n
theorem A4d (h:nG s.heap v):∃r,∀Q:Option Value->Shared->Prop,Q r s->wpAny M A (firstOfTuple' v) Q E s:=by obtain⟨a,o,xs,n,rfl,ho,hc,hd⟩:=h;refine⟨xs[0]?,fun Q hq=> ?_⟩;rw [W.kas_first_eq];refine zjZ (W.Looks.here (show W.Looks M s.heap (typeOf (.ref a)) o.cls from(W.Looks.ld ho).andThen .now) ?_);rw [hc,if_neg (by first|decide|simp)];exact zjZ (listItems_at ho hd (zjY hq))
theorem A2c:∀(vs:List Value){Q:List (Option Value)->Shared->Prop},(∀v∈vs,nG s.heap v)->(∀rs,Q rs s)->wpAny M A (vs.mapM firstOfTuple') Q E s
 | [],_,_,h=>by rw [List.mapM_nil];exact zjY (h _)
 |v::vs,Q,hv,h=>by
  rw [List.mapM_cons];obtain⟨r,hr⟩:=A4d (M:=M) (A:=A) (E:=E) (hv v zjR);exact zjZ (hr _ (zjZ (A2c vs (Q:=fun bs s'=>wpAny M A (pure (r::bs)) Q E s') (fun u hu=>hv u (zjS _ hu)) fun rs=>zjY (h _))))
theorem B18 (ho:s.heap.get? a=some o)(hc:o.cls= .type "tuple")(hd:o.data= .seq #[] n)(hv:∀v∈vs,nG s.heap v)(h:Q oneType' s):
  wpAny M A (keyKind' (Value.ref a::vs).toArray) Q E s:=by
 rw [keyKind'_eq,List.mapM_toArray,map_eq_pure_bind];refine zjZ (zjZ ?_);rw [List.mapM_cons];refine zjZ ?_;rw [W.kas_first_eq];refine zjZ (W.Looks.here (show W.Looks M s.heap (typeOf (.ref a)) o.cls from(W.Looks.ld ho).andThen .now) ?_);rw [hc,if_neg (by first|decide|simp)];refine zjZ (listItems_at ho hd (zjY (zjZ (A2c vs hv fun rs=>zjY (zjY ?_)))));rw [if_neg (by simp),if_neg (by simp)];rw [oneTypeOnly'_eq,List.mapM_toArray,map_eq_pure_bind];refine zjZ (zjZ (zjZ (W.kas_mapM (r:=Value.type "tuple") _ (fun v hv' Q' hq=> ?_) (zjY ?_))))
 ·have:nG s.heap v:=by
   rcases mem_cons.mp hv' with rfl|e
   ·exact⟨a,o,_,n,rfl,ho,hc,hd⟩
   ·exact hv v e
  obtain⟨b,o',xs,n',rfl,ho',hc',_⟩:=this;have:=W.Looks.here (show W.Looks M s.heap (typeOf (.ref b)) o'.cls from(W.Looks.ld ho').andThen .now) (A:=A) (E:=E) (Q:=Q') (by rw [hc'];exact hq);exact this
 ·have hall:((List.map (fun _=>Value.type "tuple") (Value.ref a::vs)).toArray.all fun x=>x==Value.type "tuple")=true:=by
   simp only [List.all_toArray,all_map,all_eq_true];intro _ _;rfl
  have h0:(List.map (fun _=>Value.type "tuple") (Value.ref a::vs)).toArray[0]?=some (Value.type "tuple"):=by simp
  rw [h0];simp only [hall,if_true];exact zjY (zjY h)
end
section
theorem B0f (hu:X.A.units+2<cLine):dW X (.builtin "sorted") (fun xs H Q=> ∃(p z0:Addr)(zs:List (Addr×List Int)),xs=[.ref p]/\SqL X.K H p (((z0,[])::zs).map fun z=>V.ref z.1)/\(∀z∈(z0,[])::zs,H z.1=some (.tup (z.2.map V.int)))/\zs.length<63/\
  ∀l zs',H l=none->oY ((z0,[])::zs) zs'->Q (.ref l) (upd H l (.lst (zs'.map fun z=>V.ref z.1)))):=by
 intro pins s σ H xs us Q I r h;obtain⟨p,z0,zt,rfl,hq,hz,h63,q⟩:=h;obtain⟨u,rfl,rx⟩:=eI r;cases rx;refine tZ [] id (κ:=oneType') I hq (by rw [length_cons];omega) (fun h1 tk k1 h2=> ⟨fun Q2 q2=> ?_,fun z hm z' hm' C hC=> ?_⟩) q
 ·obtain⟨it,rt,o,n,ho,hc,hd⟩:=kA I k1 (hz _ zjR);cases rt;rw [map_cons];refine B18 (s:={s with heap:=h1,toks:=tk}) ho hc hd (fun v hv=> ?_) q2;obtain⟨z,hm,rfl⟩:=mem_map.mp hv;obtain⟨it,rt,o,n,ho,hc,hd⟩:=kA I k1 (hz z (zjS _ hm));exact⟨_,o,_,n,rfl,ho,hc,hd⟩
 ·obtain⟨it,rt,o,n,ho,hc,hd⟩:=kA I k1 (hz z hm);obtain⟨it2,rt2,o2,n2,ho2,hc2,hd2⟩:=kA I k1 (hz z' hm');rw [keyLt'_oneType];have i1:IntsAre it.toArray.toList z.2:=kU rt;have i2:IntsAre it2.toArray.toList z'.2:=kU rt2;exact A8y (s:={s with heap:=h1,toks:=tk}) ⟨o,ho,hc,n,hd⟩ ⟨o2,ho2,hc2,n2,hd2⟩ i1 i2 (show X.A.units+1+1<cLine by omega) hC
end
end L2
namespace M10
open PySem L2 PyProof.Rows Grd Wlk Cyc Srt Set4
theorem A7d (f:α->β)(xs:List α):llG (xs.map f)=(llG xs).map (List.map f):=by
 have em:∀(ps:List α)(acc:List (List α)),(ps.map f).foldl llS (acc.map (List.map f))=(ps.foldl llS acc).map (List.map f):=by
  intro ps
  induction ps with
  |nil=>intro acc;rfl
  |cons p ps ih=>
   intro acc;rw [map_cons,foldl_cons,foldl_cons,←ih]
   congr 1
   unfold llS;rw [map_append,map_map,map_map]
   congr 1
   refine map_congr_left fun a _=> ?_;show _=List.map f (a++[p]);rw [map_append];rfl
 exact em xs [[]]
theorem B3y (xs:List α):∃t,llG xs=[]::t:=by
 have:∀(xs:List α)(acc t:List (List α)),acc=[]::t->∃t,xs.foldl llS acc=[]::t:=by
  intro xs
  induction xs with
  |nil=>intro acc t h;exact⟨t,h⟩
  |cons x xs ih=>intro acc t h;exact ih _ _ (by unfold llS;rw [h];rfl)
 exact this xs [[]] [] rfl
theorem A9e (cl:List C3):(rtV (hoI cl)).Pairwise (fun a b=>HT.lexLt a b=true)/\(llG (hoI cl)).Nodup:=by
 unfold hoI aX;have key:∀b0 b1 b2 b3:Bool,(rtV ((L b0 b1 b2 b3).map fun k:Nat=>(k:Int))).Pairwise (fun a b=>HT.lexLt a b=true)/\(llG ((L b0 b1 b2 b3).map fun k:Nat=>(k:Int))).Nodup:=by decide +kernel
 exact key _ _ _ _
theorem A5b {cl:List C3}{R:List (List Int)}(hp:R.Perm (llG (hoI cl)))(hs:R.Pairwise fun a b=>HT.lexLt b a=false):R=rtV (hoI cl):=by
 obtain⟨h1,h2⟩:=A9e cl;have nr:(rtV (hoI cl)).Nodup:=h1.imp fun{a b} z e=>by rw [e,kD]at z;cases z
 refine List.Perm.eq_of_pairwise (le:=fun a b=>HT.lexLt b a=false) (fun a b _ _ y z=>lU z y) hs (h1.imp fun{a b} z=> ?_) (hp.trans ((List.perm_ext_iff_of_nodup h2 nr).mpr fun a=>llG_rtV));cases e:HT.lexLt b a with
 |false=>rfl
 |true=>have:=jW z e;rw [kD]at this;cases this
def pZ:Sp:=fun vs H Q _=> ∃l cl,vs=[.ref l]/\H l=some (.lst ((hoI cl).map V.int))/\∀l' qs H',H l'=none->Same H H'->H' l'=some (.lst ((qs:List Addr).map V.ref))->TusAt H' qs ((dH cl).map (List.map V.int))->Q (.ref l') H'
section
variable {P:Program}{w:World}{K:W.Frag}{mg:Str->Option Value}{base:Heap}
abbrev nLo:List Str:=["_law_holders_here","_law_lots_here","_law_holder"]
theorem A4a:(["_law_lot","_law_holder"]:List Str).Nodup:=by decide +kernel
theorem B4d (F:D1 K mg "_law_lots" vG ["_law_holders_here"])(T2:dC mg):A1 P w K mg base 1 "_law_lots" pZ:=by
 refine F.k nLo ?_;ac_nf
 ·obtain⟨lh,cl,rfl,elh,q⟩:=h;refine⟨_,aU (bK (i:=1) nd rfl (Or.inl rfl) (dR (gW (cD aA) aA)))<|
   aU (eG PassesOwn.never rfl (cT (pv 0)) (aJ (i:=2) nd rfl (Or.inr rfl))
    (aR (bK (i:=1) nd rfl (Or.inl rfl) (bB gX (pv 1) (bM (bD vG).names nLo ["_law_lot"] [("_law_holder",2)] rfl (cT (pv 1)) rfl rfl rfl (by decide +kernel)
     (fun Z=>nm1 0 A4a) (fun Z=>cA) (fun Z=>bB gG (pv 0) (cD (aB (pv 1) aA))))))))<|
   aR (aY (eQ mU (bE (B0f (dI hr)) rfl T2.sorted boot_sorted (aB (pv 1) aA)) (eJ aM) fD)),?_⟩
  refine⟨by show 0<=sizeLine;decide,fun t0 ht0=> ⟨by show 1<=sizeLine;decide,fun l0 hl0=> ?_⟩⟩;have s0:=aG (o:=.tup []) ht0;have s1:=aG (o:=.lst [.ref t0]) hl0;have s01:=s0.trans s1;have el0:(upd (upd H t0 (.tup [])) l0 (.lst [.ref t0])) l0=some (.lst [.ref t0]):=aD;have et0:(upd (upd H t0 (.tup [])) l0 (.lst [.ref t0])) t0=some (.tup []):=s1 _ _ aD;generalize upd (upd H t0 (.tup [])) l0 (.lst [.ref t0])=H1 at s01 el0 et0⊢;have h4:=jR cl;refine⟨_,rfl,lh,rfl,⟨_,SqL.of (s01 _ _ elh)⟩,?_⟩;refine fX (K:=K) (a:=lh) (xs:=(hoI cl).map V.int) (fun i σ H'=>Same H H'/\∃lt qs o,σ=[some (.ref lh),some (.ref lt),o]/\H' lt=some (.lst ((qs:List Addr).map V.ref))/\TusAt H' qs (llG (((hoI cl).map V.int).take i)))
   ⟨s01,l0,[t0],_,rfl,el0,.cons et0 .nil⟩ (fun i σ H' _ h=>SqL.of (h.1 _ _ elh)) ?_ ?_
  ·rintro i x σ H' hx ⟨hs,lt,qs,o,rfl,elt,hT⟩;have et:((hoI cl).map V.int).take (i+1)=((hoI cl).map V.int).take i++[x]:=by rw [take_succ,hx];rfl
   have hql:qs.length=_:=Paired.length hT;have hq64:qs.length<=16:=by
    rw [hql,mW,length_take,length_map];exact le_trans (pow_le_pow_right (by decide) (show min i (hoI cl).length<=4 by omega)) (by decide)
   rw [et,qK];show iE _ _ _ [some (.ref lh),some (.ref lt),some x] H';refine⟨_,rfl,_,rfl,lt,rfl,⟨_,SqL.of elt⟩,fun Z l hl=> ?_⟩;refine uR (rest:=[some x]) (fun ys=>ys++[x]) fR (fun H3 s3=>SqL.of (s3 _ _ elt)) hT hl (by omega) (fun qq ys H3 Q' hy hq s3 k=> ?_) fun σ3 H3 qs' s3 hc3 hT3=> ?_
   ·refine⟨_,rfl,_,rfl,by show 1<=sizeLine;decide,fun tx htx=> ?_⟩;have v1:=aG (o:=.tup [x]) htx;refine⟨qq,tx,_,_,rfl,rfl,v1 _ _ hq,aD,?_,fun c H5 s5 e5=>k c H5 (v1.trans s5) e5⟩;have:=nZ hy;rw [length_take,length_map]at this;rw [sizeLine_eq];show _+1<=_;omega
   ·have hq3:qs'.length=_:=Paired.length hT3;rw [length_map]at hq3;refine⟨lt,l,_,_,rfl,rfl,s3 _ _ elt,hc3,?_,fun la hla=> ?_⟩
    ·rw [length_map,length_map,sizeLine_eq];omega
    have v1:=aG (o:=.lst (qs.map V.ref++qs'.map V.ref)) hla;refine⟨(hs.trans s3).trans v1,la,qs++qs',_,rfl,?_,?_⟩
    ·rw [aD,map_append]
    ·exact iO ((hT.same s3).same v1) (hT3.same v1)
  ·rintro σ H' ⟨hs,lt,qs,o,rfl,elt,hT⟩;rw [take_of_length_le (zjQ _),A7d]at hT;have zp:∀{qs:List Addr}{ts:List (List Int)},TusAt H' qs (ts.map (List.map V.int))->(qs.zip ts).map (·.1)=qs/\(qs.zip ts).map (·.2)=ts/\∀z∈qs.zip ts,H' z.1=some (.tup (z.2.map V.int)):=by
    intro qs ts h
    induction ts generalizing qs with
    |nil=>cases h;exact⟨rfl,rfl,fun z hz=>by cases hz⟩
    |cons t ts ih=>
     cases h with
     |cons r h=>
      obtain⟨i1,i2,i3⟩:=ih h;refine⟨by rw [zip_cons_cons,map_cons,i1],by rw [zip_cons_cons,map_cons,i2],fun z hz=> ?_⟩;rcases mem_cons.mp (by rw [zip_cons_cons]at hz;exact hz)with e|hz
      ·rw [e];exact r
      ·exact i3 z hz
   obtain⟨z1,z2,z3⟩:=zp hT;obtain⟨tl,etl⟩:=B3y (hoI cl);obtain⟨q0,qt,eq0⟩:∃q0 qt,qs=q0::qt:=by
    rw [etl]at hT;cases hT with
    |cons r h=>exact⟨_,_,rfl⟩
   have ez:qs.zip (llG (hoI cl))=(q0,[])::qt.zip tl:=by rw [eq0,etl];rfl
   have hzl:(qt.zip tl).length<63:=by
    have h1:(llG (hoI cl)).length<=16:=by
     rw [mW];exact le_trans (pow_le_pow_right (by decide) h4) (by decide)
    rw [etl,length_cons]at h1;rw [length_zip];omega
   refine⟨_,rfl,lt,q0,qt.zip tl,rfl,?_,fun z hz=>z3 z (by rw [ez];exact hz),hzl,fun l2 zs' hl2 so=> ?_⟩
   ·rw [←ez];refine SqL.of ?_;rw [elt];have:(qs.zip (llG (hoI cl))).map (fun z=>V.ref z.1)=((qs.zip (llG (hoI cl))).map (·.1)).map V.ref:=by rw [map_map];rfl
    rw [this,z1]
   ·rw [←ez]at so;have u2:=aG (o:=.lst (zs'.map fun z=>V.ref z.1)) hl2;have e2:(upd H' l2 (.lst (zs'.map fun z=>V.ref z.1))) l2=some (.lst ((zs'.map (·.1)).map V.ref)):=by rw [aD,map_map];rfl
    generalize upd H' l2 (.lst (zs'.map fun z=>V.ref z.1))=H2 at u2 e2⊢;have er:zs'.map (·.2)=rtV (hoI cl):=by
     refine A5b ?_ ?_
     ·have:=so.1.map (·.2);rw [z2]at this;exact this
     ·rw [pairwise_map];exact so.2
    have hT2:TusAt H2 (zs'.map (·.1)) ((rtV (hoI cl)).map (List.map V.int)):=by
     rw [←er];have key:∀ys:List (Addr×List Int),(∀z∈ys,z∈qs.zip (llG (hoI cl)))->TusAt H2 (ys.map (·.1)) ((ys.map (·.2)).map (List.map V.int)):=fun ys=>by
      induction ys with
      |nil=>intro _;exact .nil
      |cons z ys ih=>intro hm;exact .cons (u2 _ _ (z3 z (hm z zjR))) (ih fun y hy=>hm y (zjS _ hy))
     exact key zs' fun z hz=>so.1.mem_iff.mp hz
    have hl1:1<=(zs'.map (·.1)).length:=by
     rw [length_map,so.1.length_eq,ez,length_cons];omega
    refine⟨_,rfl,l2,_,rfl,SqL.of e2,fun lz hlz=> ?_⟩;have u3:=aG (o:=.lst (cC ((zs'.map (·.1)).map V.ref) (some 1) none)) hlz;refine q lz ((zs'.map (·.1)).drop 1) _ ((hs.trans u2).free hlz) ((hs.trans u2).trans u3) ?_ ?_
    ·rw [aD,mB _ (by rw [length_map];exact hl1),map_drop]
    ·unfold dH;rw [map_tail];exact(show TusAt H2 _ _ from sG hT2).same u3
end
end M10
namespace L2
open PySem PySem.Spec PyProof.Rows Srt
section
theorem A55 (hu:X.A.units+2<cLine):OpR X (compareOp .NotEq) (fun x y H Q=> ∃p q cs ds,x= .ref p/\y= .ref q/\SqA H p cs/\SqA H q ds/\Q (.bl (!decide (cs=ds))) H):=by
 intro pins s σ H x y v u Q I rx ry h;obtain⟨p,q,cs,ds,rfl,rfl,⟨ps,h1,hP⟩,⟨qs,h2,hQ⟩,hq⟩:=h;cases rx;cases ry;obtain⟨us,r1,p1,_⟩:=I.tuple (SqT.of (K:=X.K) h1);obtain⟨ws,r2,p2,_⟩:=I.tuple (SqT.of (K:=X.K) h2);have e1:=iP r1;have e2:=iP r2;subst e1 e2;have l1:ps.length=cs.length:=Paired.length hP;have l2:qs.length=ds.length:=Paired.length hQ;have k:=SeqAt.RcNeAt.tuples (A:=X.A) (s:=s) (e:=fun j=>decide (cs.getD j (0,0)=ds.getD j (0,0))) p1 p2 (by omega) (fun j g1 g2=>by
  rw [size_toArray,length_map]at g1 g2;obtain⟨c,hc,he⟩:=hP.at (getElem?_eq_getElem g1);obtain⟨d,hd,he2⟩:=hQ.at (getElem?_eq_getElem g2);have ec:cs.getD j (0,0)=c:=by rw [getD_eq_getElem?_getD,hc];rfl
  have ed:ds.getD j (0,0)=d:=by rw [getD_eq_getElem?_getD,hd];rfl
  rw [ec,ed];have a1:(ps.map Value.ref).toArray[j]'(by rw [size_toArray,length_map];exact g1)=Value.ref ps[j]:=by simp
  have a2:(qs.map Value.ref).toArray[j]'(by rw [size_toArray,length_map];exact g2)=Value.ref qs[j]:=by simp
  rw [a1,a2];exact oK I (show X.A.units+1<cLine by omega) he he2)
 rw [size_toArray,size_toArray,length_map,length_map,l1,l2,wD (0,0) cs ds]at k;exact k X.prog X.w X.xe _ ⟨.bl _,H,I,rfl,hq⟩
theorem A1t (hu:X.A.units+1<cLine):OpR X (compareOp .Eq) (fun x y H Q=> ∃p q xs,x= .ref p/\y= .ref q/\H p=some (.tup xs)/\H q=some (.tup [])/\Q (.bl xs.isEmpty) H):=by
 intro pins s σ H x y v u Q I rx ry h;obtain⟨p,q,xs,rfl,rfl,h1,h2,hq⟩:=h;cases rx;cases ry;obtain⟨us,r1,p1,_⟩:=I.tuple (SqT.of (K:=X.K) h1);obtain⟨ws,r2,p2,_⟩:=I.tuple (SqT.of (K:=X.K) h2);have e2:ws=[]:=by cases r2;rfl
 subst e2;have l1:=r1.length;have k:=SeqAt.RcAt.tuples (A:=X.A) (s:=s) (e:=fun _=>true) p1 p2 (by omega) (fun j _ h2=>absurd h2 (by simp));have e:((List.range (min us.toArray.size ([]:List Value).toArray.size)).all (fun _=>true)&&us.toArray.size==([]:List Value).toArray.size)=xs.isEmpty:=by
  cases xs with
  |nil=>cases us with|nil=>rfl|cons _ _=>simp at l1
  |cons _ _=>cases us with|nil=>simp at l1|cons _ _=>simp
 rw [e]at k;exact k X.prog X.w X.xe _ ⟨.bl _,H,I,rfl,hq⟩
end
end L2
namespace M10
open PySem L2 PyProof.Rows Grd Wlk Cyc Srt Set4
def upI (ks:List Int):Bool:=((ks.zip (ks.drop 1)).map fun p=>decide (p.1<p.2)).all id
theorem oI:∀ks:List Int,upI ks=true↔ks.Pairwise (· < ·)
 | []=>by simp [upI]
 | [a]=>by simp [upI]
 |a::b::ks=>by
  have e:upI (a::b::ks)=(decide (a<b)&&upI (b::ks)):=rfl;rw [e,Bool.and_eq_true,oI (b::ks),decide_eq_true_eq,pairwise_cons (a:=a)];constructor
  ·rintro⟨h1,h2⟩;refine⟨fun x hx=> ?_,h2⟩;rcases mem_cons.mp hx with rfl|hx
   ·exact h1
   ·have:=(pairwise_cons.mp h2).1 x hx;omega
  ·rintro⟨h1,h2⟩;exact⟨h1 b zjR,h2⟩
def yA:Sp:=fun vs H Q _=> ∃a ks,vs=[.ref a]/\H a=some (.tup ((ks:List Int).map V.int))/\ks≠[]/\ks.length<=1000/\∀H',Same H H'->Q (.bl (upI ks)) H'
def intsOf (xs:List V):List Int:=xs.filterMap fun| .int i=>some i|_=>none
def lotOf (H:Hp)(cl:List C3)(v:V):Option (List Int):=match tupOf H v with
 |some xs=>if (!xs.isEmpty&&(xs.all (dL cl)&&upI (intsOf xs)))=true then some (intsOf xs)else none
 |none=>none
def wJ:Sp:=fun vs H Q _=> ∃a cl v,vs=[.ref a,v]/\ClT H a cl/\cl.length<=12/\Kn H 2 v/\∀H',Same H H'->Q (.bl (lotOf H cl v).isSome) H'
theorem nD:∀{xs:List V},xs.all (dL cl)=true->xs=(intsOf xs).map V.int/\∀k∈intsOf xs,eN cl k=true
 | [],_=> ⟨rfl,fun k hk=>by cases hk⟩
 |x::xs,h=>by
  rw [all_cons,Bool.and_eq_true]at h;obtain⟨e,hk⟩:=nD h.2;obtain⟨i,rfl⟩:∃i,x= .int i:=by
   have h1:=h.1;cases x<;>first|exact⟨_,rfl⟩|cases h1
  have e2:intsOf (.int i::xs)=i::intsOf xs:=rfl;rw [e2];refine⟨by rw [map_cons,←e],fun k hk'=> ?_⟩;rcases mem_cons.mp hk' with rfl|hk'
  ·exact h.1
  ·exact hk k hk'
theorem A80 (h:lotOf H cl v=some ks):∃t,v= .ref t/\H t=some (.tup (ks.map V.int))/\ks≠[]/\(∀k∈ks,eN cl k=true)/\ks.Pairwise (· < ·):=by
 unfold lotOf at h;cases z:tupOf H v with
 |none=>rw [z]at h;cases h
 |some xs=>
  rw [z]at h;dsimp only at h
  split at h
  ·rename_i y;cases h;rw [Bool.and_eq_true,Bool.and_eq_true]at y;obtain⟨t,rfl,ht⟩:=eZ z;obtain⟨e,hk⟩:=nD y.2.1;refine⟨t,rfl,by rw [←e];exact ht,fun e0=> ?_,hk,(oI _).mp y.2.2⟩;rw [e0]at e;rw [e]at y;exact absurd y.1 (by decide)
  ·cases h
theorem zW (s:Same H H')(k:Kn H 1 v):lotOf H' cl v=lotOf H cl v:=by unfold lotOf;rw [s.tupOf k]
section
variable {P:Program}{w:World}{K:W.Frag}{mg:Str->Option Value}{base:Heap}
theorem B0x (F:D1 K mg "is_rising" kG ["things"])(T:Txt mg)(T2:dC mg):A1 P w K mg base 1 "is_rising" yA:=by
 refine F.k ["things"] ?_;ac_nf
 ·obtain⟨a,ks,rfl,ha,hne,hz,q⟩:=h;have h1:1<=ks.length:=List.length_pos_iff.mpr hne;refine⟨_,aR (aY (bE (fU rfl) rfl T.all boot_all (cJ (bM (bD kG).names ["things"] ["one","other"] [] rfl (lX rQ rfl T2.zip (aB (pv 0) (dZ (eQ gF (pv 0) (eJ aM) fD) aA))) rfl rfl rfl (by decide +kernel)
   (fun Z=>bU rfl (aW (nm1 0 lK) (aW (nm1 1 lK) bT))) (fun Z=>cA) (fun Z=>cW jM (pv 0) (pv 1) (nomark _))) aA))),?_⟩
  refine⟨_,rfl,_,rfl,_,rfl,a,_,rfl,ha,fun t H1 s1 ht=> ?_⟩;rw [mB _ (by rw [length_map];exact h1),←map_drop]at ht;refine⟨a,t,ks.map V.int,(ks.drop 1).map V.int,rfl,SqT.of (s1 _ _ ha),SqT.of ht,fun Z r hr'=> ?_⟩;refine oC (xs:=ks.map V.int) (ys:=(ks.drop 1).map V.int) (by rw [length_map,length_map,length_drop];omega) (fun i σ H'=>σ.length=2/\Same H1 H'/\H' r=some (.lst ((((ks.zip (ks.drop 1)).map fun p=>decide (p.1<p.2)).take i).map V.bl))) ⟨rfl,aG hr',by rw [aD];rfl⟩
   (fun i σ H' h=> ⟨SqT.of (h.2.1 _ _ (s1 _ _ ha)),SqT.of (h.2.1 _ _ ht)⟩) ?_ ?_
  ·rintro i x y p3 σ H' hx hy ⟨hσ,hs,hl'⟩ hp3
   match σ,hσ with
   | [x0,x1],_=>
   rw [getElem?_map]at hx hy;cases hb:ks[i]? with
   |none=>rw [hb]at hx;cases hx
   |some b=>
   cases hb2:(ks.drop 1)[i]? with
   |none=>rw [hb2]at hy;cases hy
   |some b2=>
   rw [hb]at hx;cases hx;rw [hb2]at hy;cases hy;have s3:=aG (o:=.tup [.int b,.int b2]) hp3;refine⟨p3,_,rfl,SqT.of aD,rfl,_,_,rfl,_,_,rfl,rfl,?_⟩;refine gZ ?_;have hz1:(ks.zip (ks.drop 1))[i]?=some (b,b2):=List.getElem?_zip_eq_some.mpr ⟨hb,hb2⟩;have hi:i<ks.length:=(zjW.mp hb).1;refine⟨_,rfl,_,rfl,_,_,rfl,rfl,?_⟩;refine⟨_,s3 _ _ hl',cM (by rw [length_map,length_take];omega),rfl,fun b' u e'=> ?_,?_⟩
   ·rw [aV (bL e' hr')];exact s3 _ _ (hs _ _ e')
   ·rw [aD,take_succ,getElem?_map,hz1,map_append];rfl
  ·rintro σ H' ⟨_,hs,hl'⟩;rw [take_of_length_le (by rw [length_map,length_zip,length_drop,length_map,length_drop];omega)]at hl';exact⟨r,_,rfl,SqL.of hl',q H' (s1.trans hs)⟩
theorem A64:(["holder","claims"]:List Str).Nodup:=by decide +kernel
theorem B34 (F:D1 K mg "is_lot" sY ["claims","thing"])(T:Txt mg)(a1:A1 P w K mg base 2 "is_holder" oP)(a2:A1 P w K mg base 1 "is_rising" yA):A1 P w K mg base 3 "is_lot" wJ:=by
 refine F.k ["claims","thing"] ?_;ac_nf
 ·obtain⟨a,cl,v,rfl,hA,h12,k,q⟩:=h;refine⟨_,aU (bR (PW.pt (fS (cE (bN (bE fZ rfl T.isinstance boot_isinstance (aB (pv 1) (aB (eO (v:=.ty "tuple") rfl T.tuple boot_tuple rfl) aA))))) (fS (cB (A1t (lt_of_succ_lt (dI hr))) (pv 1) (cD aA) (nomark _)) (iA (cE (bN (bE (fU rfl) rfl T.all boot_all (cJ (bM (bD sY).names ["claims","thing"] ["holder"] [("claims",0)] rfl (cP (pv 1)) rfl rfl rfl (by decide +kernel)
    (fun Z=>nm1 0 A64) (fun Z=>cA) (fun Z=>a1.c hr (aB (pv 1) (aB (pv 0) aA)))) aA)))))))) (aR (aY cZ)) bQ)<|
   aR (aY (a2.c hr (aB (pv 1) aA))),?_⟩
  obtain⟨ty,hty,_,_,k3⟩:=kM (K:=K) (k.le (show 1<=2 by decide));refine⟨_,rfl,_,"tuple",ty,_,rfl,hty,k3,_,rfl,cF (fun e=> ?_) fun e=> ?_⟩
  ·refine cV ?_;have:lotOf H cl v=none:=by
    unfold lotOf;cases z:tupOf H v with
    |none=>rfl
    |some xs=>rw [z]at e;cases e
   have q':=q H (Same.refl _);rw [this]at q';exact q'
  ·cases z:tupOf H v with
   |none=>rw [z]at e;cases e
   |some xs=>
   obtain⟨t,rfl,ht⟩:=eZ z;obtain⟨hz,hk⟩:=k.items ht;have hV:lotOf H cl (.ref t)=if (!xs.isEmpty&&(xs.all (dL cl)&&upI (intsOf xs)))=true then some (intsOf xs)else none:=by unfold lotOf;rw [z]
   refine⟨_,rfl,by show 0<=sizeLine;decide,fun t0 ht0=> ?_⟩;have u0:=aG (o:=.tup []) ht0;refine⟨t,t0,xs,rfl,rfl,u0 _ _ ht,aD,_,rfl,cF (fun e1=> ?_) fun e1=> ?_⟩
   ·refine cV ?_;have q':=q _ u0;rw [hV,e1]at q';exact q'
   rw [e1]at hV;generalize upd H t0 (.tup [])=H1 at u0⊢;have ht1:=u0 _ _ ht;refine⟨_,rfl,t,rfl,⟨xs,SqT.of ht1⟩,fun Z l hl=> ?_⟩;refine jC (fun x=> .bl (dL cl x)) ht1 hl hz (fun x H' Q' hm hs hq=> ?_) fun σ H2 s2 hl2=> ?_
   ·exact⟨_,rfl,_,rfl,a,cl,x,rfl,(hA.ext u0.ext).ext hs.ext,h12,((hk x hm).ext u0.ext).ext hs.ext,fun H3 s3=>hq H3 s3⟩
   ·refine⟨l,xs.map (dL cl),rfl,SqL.of (by rw [hl2,map_map];rfl),_,rfl,?_⟩;have ea:(xs.map (dL cl)).all id=xs.all (dL cl):=by rw [all_map];rfl
    rw [ea];have s02:=u0.trans s2;refine cF (fun e2=> ?_) fun e2=> ?_
    ·have q':=q H2 s02;have e2':xs.all (dL cl)=false:=by simpa using e2
     rw [hV,e2']at q';exact q'
    ·have e2':xs.all (dL cl)=true:=by simpa using e2
     obtain⟨ex,_⟩:=nD e2';refine⟨_,rfl,t,intsOf xs,rfl,by rw [←ex];exact s02 _ _ ht,fun e0=> ?_,?_,fun H3 s3=> ?_⟩
     ·rw [e0]at ex;rw [ex]at e1;cases e1
     ·have:=congrArg List.length ex;rw [length_map]at this;omega
     ·have q':=q H3 (s02.trans s3);rw [hV,e2']at q';cases eu:upI (intsOf xs)with
      |true=>rw [eu]at q';exact q'
      |false=>rw [eu]at q';exact q'
end
open Classical in
noncomputable def sqB (H:Hp)(b:V)(L:List Pl):Bool:=decide (∃t,b= .ref t/\SqA H t L)
open Classical in
theorem oJ {H:Hp}{b:V}{L:List Pl}(h:∃t,b= .ref t/\SqA H t L):sqB H b L=true:=by unfold sqB;exact zjV h
open Classical in
theorem mV {H:Hp}{b:V}{L:List Pl}(h:¬ ∃t,b= .ref t/\SqA H t L):sqB H b L=false:=by unfold sqB;exact zjU h
noncomputable def eA (H:Hp)(g:bF)(cs:List Int)(cl:List C3)(od:Int)(v:V):Bool:=match tupOf H v with
 |some [a,b]=>(match lotOf H cl a with
  |some ks=>sqB H b (dF g cs cl od ks)&&gN g cs cl od ks
  |none=>false)
 |_=>false
theorem SqA.func {H:Hp}{t:Addr}{L M:List Pl}(h1:SqA H t L)(h2:SqA H t M):L=M:=by
 obtain⟨ps,e1,p1⟩:=h1;obtain⟨qs,e2,p2⟩:=h2;rw [e1]at e2;have e:ps.map V.ref=qs.map V.ref:=HO.tup.inj (Option.some.inj e2);have e':ps=qs:=List.map_inj_right (fun a b z=>by cases z;rfl)|>.mp e;subst e';clear e e1 e2
 induction p1 generalizing M with
 |nil=>cases p2;rfl
 |cons r t ih=>
  cases p2 with
  |cons r2 t2=>
   rw [ih t2];have:some (HO.tup _)=some (HO.tup _):=r.symm.trans r2;injection this with this
   injection this with this;injection this with h1 h2;injection h2 with h2 _;rw [Prod.ext (V.int.inj h1) (V.int.inj h2)]
theorem A8a {H:Hp}{g:bF}{t:Addr}{L:List Pl}(h:SqA H t L)(hl:LandOf g L):landV H g (.ref t)=true:=by
 obtain⟨ps,ht,hP⟩:=h;have key:∀{ps:List Addr}{L:List Pl},PlAt H ps L->(∀c∈L,c∈bA pos g)->(ps.map V.ref).all (isCell H g)=true/\fH H (ps.map V.ref)=L:=by
  intro ps L h
  induction h with
  |nil=>exact fun _=> ⟨rfl,rfl⟩
  |cons r t ih=>
   intro hc;obtain⟨i1,i2⟩:=ih fun c h=>hc c (zjS _ h);have e:=A47 r;refine⟨?_,?_⟩
   ·rw [map_cons,all_cons,i1,Bool.and_true];unfold isCell;rw [e];exact zjV (hc _ zjR)
   ·rw [map_cons];unfold fH at i2⊢;rw [filterMap_cons,e,i2]
 obtain⟨k1,k2⟩:=key hP fun c hc=>hl.subset hc;unfold landV;rw [iF ht];dsimp only
 rw [k1,k2,Bool.true_and];exact zjV (LandOf.up hl)
theorem nH (G:fL cl)(h:eN cl k=true):k∈hoI cl:=by
 obtain⟨c,hc,e⟩:=any_eq_true.mp h;have e:=of_decide_eq_true e;have hn:=(G.num c hc).1;obtain⟨n,rfl⟩:=Int.eq_ofNat_of_zero_le (show 0<=k by omega);have hn4:n<4:=by omega
 unfold hoI aX;have h':holdS cl n=true:=h;generalize holdS cl=S at h';refine mem_map.mpr ⟨n,?_,rfl⟩;have key:∀b0 b1 b2 b3:Bool,(b0=true->0∈L b0 b1 b2 b3)/\(b1=true->1∈L b0 b1 b2 b3)/\(b2=true->2∈L b0 b1 b2 b3)/\(b3=true->3∈L b0 b1 b2 b3):=by decide
 obtain⟨k0,k1,k2,k3⟩:=key (S 0) (S 1) (S 2) (S 3)
 match n,hn4,h' with
 |0,_,h'=>exact k0 h'
 |1,_,h'=>exact k1 h'
 |2,_,h'=>exact k2 h'
 |3,_,h'=>exact k3 h'
theorem A17 {cl:List C3}(G:fL cl){ks:List Int}(h:∀k∈ks,eN cl k=true)(hu:ks.Pairwise (· < ·)):ks.Nodup/\ks.length<=4:=by
 have nd:ks.Nodup:=hu.imp fun{a b} z e=>by omega
 exact⟨nd,le_trans (lV nd fun k hk=>nH G (h k hk)) (jR cl)⟩
def lP:Sp:=fun vs H Q _=> ∃p v g w cs cl od,vs=[.ref p,v]/\PleA H p g w cs cl od/\Kn H 4 v/\∀H',Same H H'->Q (.bl (eA H g cs cl od v)) H'
section
variable {P:Program}{w:World}{K:W.Frag}{mg:Str->Option Value}{base:Heap}
abbrev nIL:List Str:=["plea","thing","mead","custom","claims","odd","holders","cells"]
theorem A5g (F:D1 K mg "is_lack" xJ ["plea","thing"])(a1:A1 P w K mg base 6 "check_plea" (jY .non))(a2:A1 P w K mg base 1 "is_tuple_within" iW)(a3:A1 P w K mg base 3 "is_lot" wJ)(a4:A1 P w K mg base 6 "is_land" yZ)(a5:A1 P w K mg base 7 "cells_for" vL)(a6:A1 P w K mg base 12 "cells_by_holder" rL)(a7:A1 P w K mg base 8 "is_too_little" qT):A1 P w K mg base 13 "is_lack" lP:=by
 refine F.k nIL ?_;ac_nf
 ·obtain⟨p,v,g,w',cs,cl,od,rfl,D,kv,q⟩:=h;refine⟨_,aU (eF (a1.c hr (aB (pv 0) aA)))<|
   aU (dP (pv 0) (bU rfl (aW (nm1 2 nd) (aW (nm1 3 nd) (aW (nm1 4 nd) (aW (nm1 5 nd) bT))))))<|
   aU (bR (cE (bN (a2.c hr (aB (pv 1) (cN aM (cN aM aA)))))) (aR (aY cZ)) bQ)<|
   aU (dP (pv 1) (bU rfl (aW (nm1 6 nd) (aW (nm1 7 nd) bT))))<|
   aU (bR (PW.pt (fS (cE (bN (a3.c hr (aB (pv 4) (aB (pv 6) aA))))) (iA (cE (bN (a4.c hr (aB (pv 2) (aB (pv 7) aA)))))))) (aR (aY cZ)) bQ)<|
   aU (bR (cB (A55 (dI hr)) (pv 7) (a5.c hr (aB (pv 2) (bV (a6.c hr (aB (pv 0) aA)) (aB (pv 6) aA)))) (nomark _)) (aR (aY cZ)) bQ)<|
   aR (aY (a7.c hr (aB (pv 0) (aB (pv 6) (aB (pv 7) aA))))),?_⟩
  refine⟨_,rfl,p,g,w',cs,cl,od,rfl,D,fun H1 s1=> ?_⟩;have D1:=D.same s1;obtain⟨m,c,a,hp,hm,hc,ha⟩:=D1.ex;refine⟨_,rfl,p,_,rfl,SqT.of hp,rfl,_,_,rfl,_,_,rfl,_,_,rfl,_,_,rfl,rfl,?_⟩;have e1:=s1.tupOf (kv.le (show 1<=4 by decide));refine⟨_,rfl,_,2,2,rfl,(kv.ext s1.ext).le (by decide),_,rfl,?_⟩;have ef:∀{r:Bool},eA H g cs cl od v=r->∀H',Same H1 H'->Q (.bl r) H':=fun e H' s'=>by rw [←e];exact q H' (s1.trans s')
  unfold dX;rw [e1];cases z:tupOf H v with
  |none=>
   refine cV (ef ?_ _ (Same.refl _));unfold eA;rw [z]
  |some xs=>
   match xs,z with
   | [],z=>refine cV (ef ?_ _ (Same.refl _));unfold eA;rw [z]
   | [_],z=>refine cV (ef ?_ _ (Same.refl _));unfold eA;rw [z]
   |x1::x2::x3::xs,z=>
    have:(decide ((2:Int)<=(x1::x2::x3::xs).length)&&decide (((x1::x2::x3::xs).length:Int)<=2))=false:=by
     rw [zjU (show¬(((x1::x2::x3::xs).length:Int)<=2) by rw [length_cons,length_cons,length_cons];omega),Bool.and_false]
    dsimp only
    rw [this];refine cV (ef ?_ _ (Same.refl _));unfold eA;rw [z]
   | [x,y],z=>
    refine bX ?_;have eV:eA H g cs cl od v=(match lotOf H cl x with|some ks=>sqB H y (dF g cs cl od ks)&&gN g cs cl od ks|none=>false):=by unfold eA;rw [z]
    obtain⟨t,rfl,ht⟩:=eZ z;obtain⟨_,hk⟩:=kv.items ht;have kx:=hk x zjR;have ky:=hk y (zjS _ zjR);refine⟨_,rfl,t,_,rfl,SqT.of (s1 _ _ ht),rfl,_,_,rfl,_,_,rfl,rfl,?_⟩;refine⟨_,rfl,_,rfl,a,cl,x,rfl,ha,D.ck.l12,(kx.ext s1.ext).le (by decide),fun H2 s2=> ⟨_,rfl,?_⟩⟩;rw [zW s1 (kx.le (by decide))];cases el:lotOf H cl x with
    |none=>
     refine cV (ef ?_ _ s2);rw [eV,el]
    |some ks=>
     rw [el]at eV;dsimp only at eV;refine bX ?_;have s12:=s1.trans s2;refine⟨_,rfl,_,rfl,m,g,w',y,rfl,hm.same s2,D.G,ky.ext s12.ext,fun H3 s3=> ⟨_,rfl,?_⟩⟩;rw [Same.landV s12 (ky.le (by decide))];have s23:=s2.trans s3;cases eL:landV H g y with
     |false=>
      refine cV (ef ?_ _ s23);have:sqB H y (dF g cs cl od ks)=false:=mV fun⟨t',e,h⟩=>by
       subst e;rw [A8a h (jJ g cs cl od ks)]at eL;cases eL
      rw [eV,this];rfl
     |true=>
      refine bX ?_;obtain⟨tx,rfl,htx,hne,hks,hup⟩:=A80 el;obtain⟨ty,L,rfl,hty,hLd⟩:=A9l eL;obtain⟨hnd,hk4⟩:=A17 D.ck hks hup;have s13:=s1.trans s23;refine⟨_,rfl,_,rfl,_,rfl,p,g,w',cs,cl,od,rfl,D1.same s23,fun d H4 s4 hR=> ?_⟩;have s14:=s13.trans s4;have s24:=s23.trans s4;refine⟨_,rfl,m,d,tx,g,w',hoI cl,hJ g cs cl od,ks,rfl,hm.same s24,D.G,hR,lG cl,s14 _ _ htx,by omega,fun k hk=>nH D.ck (hks k hk),fun u H5 hu s5 hU=> ?_⟩;have s15:=s14.trans s5;refine⟨ty,u,L,dF g cs cl od ks,rfl,rfl,SqA.ext hty s15.ext,hU,_,rfl,?_⟩;by_cases eq:L=dF g cs cl od ks
      ·subst eq;rw [zjV rfl];refine bX ?_;refine⟨_,rfl,_,rfl,_,rfl,p,tx,ty,g,w',cs,cl,od,ks,_,rfl,D.same s15,s15 _ _ htx,by omega,SqA.ext hty s15.ext,hLd,fun H6 s6=> ?_⟩;have:sqB H (.ref ty) (dF g cs cl od ks)=true:=oJ ⟨ty,rfl,hty⟩;refine ef ?_ H6 ((s24.trans s5).trans s6);rw [eV,this];rfl
      ·rw [zjU eq];refine cV (ef ?_ _ (s24.trans s5));have:sqB H (.ref ty) (dF g cs cl od ks)=false:=mV fun⟨t',e,h⟩=>by
        cases e;exact eq (SqA.func hty h)
       rw [eV,this];rfl
end
end M10
namespace L2
open PySem PySem.Spec PyProof.Rows
mutual
def RdA (H:Hp):PyData->V->Prop
 | .none,v=>v= .non
 | .bool b,v=>v= .bl b
 | .int i,v=>v= .int i
 | .str x,v=>v= .str x
 | .list ds,v=> ∃a xs,v= .ref a/\H a=some (.lst xs)/\RdAs H ds xs
 | .tuple ds,v=> ∃a xs,v= .ref a/\H a=some (.tup xs)/\RdAs H ds xs
 | .dict kvs,v=> ∃a ks,v= .ref a/\H a=some (.dK ks)/\RdKv H kvs ks
def RdAs (H:Hp):List PyData->List V->Prop
 | [],xs=>xs=[]
 |d::ds,xs=> ∃y ys,xs=y::ys/\RdA H d y/\RdAs H ds ys
def RdKv (H:Hp):List (PyData×PyData)->List (Key×V)->Prop
 | [],xs=>xs=[]
 | (k,d)::r,xs=> ∃j y ys,xs=(j,y)::ys/\RdA H k (kV j)/\RdA H d y/\RdKv H r ys
end
mutual
theorem RdA.same (s:Same H H'):∀{d:PyData}{v:V},RdA H d v->RdA H' d v
 | .none,_,h=>h
 | .bool _,_,h=>h
 | .int _,_,h=>h
 | .str _,_,h=>h
 | .list ds,_,h=>by
  simp only [RdA]at h⊢;obtain⟨a,xs,e,ha,hx⟩:=h;exact⟨a,xs,e,s _ _ ha,RdAs.same s hx⟩
 | .tuple ds,_,h=>by
  simp only [RdA]at h⊢;obtain⟨a,xs,e,ha,hx⟩:=h;exact⟨a,xs,e,s _ _ ha,RdAs.same s hx⟩
 | .dict kvs,_,h=>by
  simp only [RdA]at h⊢;obtain⟨a,xs,e,ha,hx⟩:=h;exact⟨a,xs,e,s _ _ ha,RdKv.same s hx⟩
theorem RdAs.same (s:Same H H'):∀{ds:List PyData}{xs:List V},RdAs H ds xs->RdAs H' ds xs
 | [],_,h=>h
 |d::ds,_,h=>by
  simp only [RdAs]at h⊢;obtain⟨y,ys,e,h1,h2⟩:=h;exact⟨y,ys,e,RdA.same s h1,RdAs.same s h2⟩
theorem RdKv.same (s:Same H H'):∀{ds:List (PyData×PyData)}{xs:List (Key×V)},RdKv H ds xs->RdKv H' ds xs
 | [],_,h=>h
 | (k,d)::ds,_,h=>by
  simp only [RdKv]at h⊢;obtain⟨j,y,ys,e,h0,h1,h2⟩:=h;exact⟨j,y,ys,e,RdA.same s h0,RdA.same s h1,RdKv.same s h2⟩
end
mutual
def dJ:PyData->Bool
 | .none| .bool _| .int _| .str _=>false
 | .list _=>true
 | .tuple xs=>fB xs
 | .dict kvs=>kR kvs
def fB:List PyData->Bool
 | []=>false
 |x::xs=>dJ x||fB xs
def kR:List (PyData×PyData)->Bool
 | []=>false
 | (k,v)::r=>dJ k||dJ v||kR r
end
section
theorem A0h:∀{ks:List (Key×V)}{vs:List (Key×Value)}{es:List DictEntry},KV ks vs->Pairs (dN P w) es vs->Paired (fun(p:Key×V) (e:DictEntry)=>RelV (kV p.1) e.key/\RelV p.2 e.val) ks es
 | [],_,_,.nil,.nil=> .nil
 |_::_,_,_,.cons r t,.cons p q s=>by
  refine .cons ⟨?_,?_⟩ (A0h t s)
  ·rw [r.1];rcases keyIs_shape p with⟨i,t',e1,e2⟩| ⟨x,t',e1,e2⟩
   ·rw [e1,e2];exact⟨t',rfl⟩
   ·rw [e1,e2];exact⟨t',rfl⟩
  ·rw [q];exact r.2
mutual
theorem nT (ok:HOk P w H h):∀(d:PyData)(v:V)(u:Value),RdA H d v->RelV v u->∃as,Reads h u d as/\(dJ d=false->sysModules∉as)
 | .none,_,_,e,r=>by
  simp only [RdA]at e;subst e;cases (show _=Value.none from r);exact⟨[],.none,fun _=>by simp⟩
 | .bool b,_,_,e,r=>by
  simp only [RdA]at e;subst e;cases (show _=Value.bool b from r);exact⟨[],.bool b,fun _=>by simp⟩
 | .int i,_,_,e,r=>by
  simp only [RdA]at e;subst e;obtain⟨t,rfl⟩:=(show∃t,_=Value.int i t from r);exact⟨[],.int i t,fun _=>by simp⟩
 | .str x,_,_,e,r=>by
  simp only [RdA]at e;subst e;obtain⟨t,rfl⟩:=(show∃t,_=Value.str x t from r);exact⟨[],.str x t,fun _=>by simp⟩
 | .list ds,_,_,e,r=>by
  simp only [RdA]at e;obtain⟨a,xs,rfl,ha,hx⟩:=e;cases (show _=Value.ref a from r);obtain⟨_,its,n,rv,ho⟩:=(show ObjOk P w H h a (.lst xs)from ok _ _ ha);obtain⟨as,h1,h2⟩:=uF ok ds xs its hx rv;exact⟨a::as,.list ho rfl rfl h1,fun z=>by simp [dJ]at z⟩
 | .tuple ds,_,_,e,r=>by
  simp only [RdA]at e;obtain⟨a,xs,rfl,ha,hx⟩:=e;cases (show _=Value.ref a from r);obtain⟨_,its,rv,o,ho,hc,n,hd⟩:=(show ObjOk P w H h a (.tup xs)from ok _ _ ha);obtain⟨as,h1,h2⟩:=uF ok ds xs its hx rv;exact⟨as,.tuple ho hc hd h1,fun z=>h2 (by simpa only [dJ]using z)⟩
 | .dict kvs,_,_,e,r=>by
  simp only [RdA]at e;obtain⟨a,ks,rfl,ha,hx⟩:=e;cases (show _=Value.ref a from r);obtain⟨_,hs,vs,hk,o,es,ep,ho,hex,hd,_,hp,_⟩:=(show ObjOk P w H h a (.dK ks)from ok _ _ ha);obtain⟨as,bs,h1,h2,h3⟩:=xI ok kvs ks es.toList hx (A0h hk hp);refine⟨a::as++bs,.dict ho hex.1 hd h1 h2,fun z=> ?_⟩;obtain⟨z1,z2⟩:=h3 (by simpa only [dJ]using z);rw [cons_append,mem_cons,mem_append];rintro(q|q|q)
  ·rw [←q]at hs;simp at hs
  ·exact z1 q
  ·exact z2 q
theorem uF (ok:HOk P w H h):∀(ds:List PyData)(xs:List V)(us:List Value),RdAs H ds xs->Vals xs us->∃as,ReadsAll h us ds as/\(fB ds=false->sysModules∉as)
 | [],_,_,e,r=>by
  simp only [RdAs]at e;subst e;cases r;exact⟨[],.nil,fun _=>by simp⟩
 |d::ds,_,_,e,r=>by
  simp only [RdAs]at e;obtain⟨y,ys,rfl,h1,h2⟩:=e;cases r with
  |cons r1 r2=>
   obtain⟨as,g1,g2⟩:=nT ok d y _ h1 r1;obtain⟨bs,g3,g4⟩:=uF ok ds ys _ h2 r2;refine⟨as++bs,.cons g1 g3,fun z=> ?_⟩;simp only [fB,Bool.or_eq_false_iff]at z;rw [mem_append];rintro(q|q)
   ·exact g2 z.1 q
   ·exact g4 z.2 q
theorem xI (ok:HOk P w H h):∀(ds:List (PyData×PyData))(xs:List (Key×V))(es:List DictEntry),RdKv H ds xs->Paired (fun(p:Key×V) (e:DictEntry)=>RelV (kV p.1) e.key/\RelV p.2 e.val) xs es->
  ∃as bs,ReadsAll h (es.map (·.key)) (ds.map (·.1)) as/\ReadsAll h (es.map (·.val)) (ds.map (·.2)) bs/\(kR ds=false->sysModules∉as/\sysModules∉bs)
 | [],_,_,e,r=>by
  simp only [RdKv]at e;subst e;cases r;exact⟨[],[],.nil,.nil,fun _=>by simp⟩
 | (k,d)::ds,_,_,e,r=>by
  simp only [RdKv]at e;obtain⟨j,y,ys,rfl,h0,h1,h2⟩:=e;cases r with
  |cons r1 r2=>
   obtain⟨as,g1,g2⟩:=nT ok k _ _ h0 r1.1;obtain⟨bs,g3,g4⟩:=nT ok d y _ h1 r1.2;obtain⟨as',bs',g5,g6,g7⟩:=xI ok ds ys _ h2 r2;refine⟨as++as',bs++bs',.cons g1 g5,.cons g3 g6,fun z=> ?_⟩;simp only [kR,Bool.or_eq_false_iff]at z;obtain⟨q1,q2⟩:=g7 z.2;constructor
   ·rw [mem_append];rintro(q|q)
    ·exact g2 z.1.1 q
    ·exact q1 q
   ·rw [mem_append];rintro(q|q)
    ·exact g4 z.1.2 q
    ·exact q2 q
end
end
mutual
def gC:PyData->Bool
 | .none| .bool _| .int _| .str _| .dict _=>true
 | .list xs=>fK xs
 | .tuple xs=>decide (xs.length<=1000)&&fK xs
def fK:List PyData->Bool
 | []=>true
 |x::xs=>gC x&&fK xs
end
structure Gd (n D:Nat)(d:PyData):Prop where
 sh:d.showable=true
 lv:d.leavesShort 64=true
 wt:d.weight<=n
 dp:d.depth<=D
 ln:gC d=true
theorem Gd.mono (g:Gd n D d)(h:n<=m)(h2:D<=E):Gd m E d:=⟨g.sh,g.lv,le_trans g.wt h,le_trans g.dp h2,g.ln⟩
theorem Gd.all:∀{ds:List PyData},(∀d∈ds,Gd n D d)->PyData.showableAll ds=true/\PyData.leavesShortAll 64 ds=true/\PyData.weightAll ds<=ds.length*(n+1)/\PyData.depthAll ds<=D/\fK ds=true
 | [],_=> ⟨rfl,rfl,by simp [PyData.weightAll],by simp [PyData.depthAll],rfl⟩
 |d::ds,h=>by
  obtain⟨h1,h2,h3,h4,h5⟩:=Gd.all fun d' hd'=>h d' (zjS _ hd');have g:=h d zjR;refine⟨by simp only [PyData.showableAll,g.sh,h1,Bool.and_self],by simp only [PyData.leavesShortAll,g.lv,h2,Bool.and_self],?_,?_,by simp only [fK,g.ln,h5,Bool.and_self]⟩
  ·have:=g.wt;simp only [PyData.weightAll,length_cons,Nat.succ_mul];omega
  ·have:=g.dp;simp only [PyData.depthAll];omega
theorem Gd.fits (g:Gd n D d)(hn:n<=100000):d.shown.length<=sizeLine:=by have h:=PyData.shown_le 64 (by decide) d g.lv;have:=g.wt;have h2:(64+2)*d.weight<=66*100000:=Nat.mul_le_mul (by decide) (by omega);rw [sizeLine_eq];omega
structure Shw (d:PyData):Prop where
 gd:Gd 100000 40 d
 dl:d.hasDict=true->dJ d=false
section
theorem pL (hg:X.A.guards=some [])(hu:X.A.units+64<cLine):dW X (.builtin "repr") (fun xs H Q=> ∃v d,xs=[v]/\RdA H d v/\Shw d/\Q (.str d.shown) H):=by
 intro pins s σ H xs us Q I r h;obtain⟨v,d,rfl,hr,hS,q⟩:=h;obtain⟨u,rfl,rx⟩:=eI r;have hfit:=hS.gd.fits (zjQ _);have hdp:=hS.gd.dp;have ref:∀a,v= .ref a->wpAny (model X.prog X.w) X.A (call (.builtin "repr") [u]) (EP X pins σ Q) X.xe s:=fun a e=>by
  subst e;cases (show _=Value.ref a from rx);obtain⟨as,g1,g2⟩:=nT I.hok d _ _ hr rx;refine repr_of_reads' g1 hS.gd.sh (fun z=>g2 (hS.dl z)) hg (by omega) (fun _ _ e=>e) (fun h' u' tk hk=> ?_) hfit;exact⟨.str d.shown,H,I.kept hk,⟨u',rfl⟩,q⟩
 cases d with
 |none=>
  simp only [RdA]at hr;subst hr;cases (show _=Value.none from rx);exact PySem.P.repr_of_none ⟨.str "None",H,I.tok _,⟨_,rfl⟩,q⟩
 |bool b=>
  simp only [RdA]at hr;subst hr;cases (show _=Value.bool b from rx);refine PySem.P.repr_of_bool ⟨_,H,I.tok _,?_,q⟩;cases b<;>exact⟨_,rfl⟩
 |int i=>
  simp only [RdA]at hr;subst hr;obtain⟨t,rfl⟩:=(show∃t,_=Value.int i t from rx);exact PySem.P.repr_of_int (by simpa only [PyData.showable,decide_eq_true_eq]using hS.gd.sh) ⟨.str (PyData.shown (.int i)),H,I.tok _,⟨_,rfl⟩,q⟩
 |str x=>
  simp only [RdA]at hr;subst hr;obtain⟨t,rfl⟩:=(show∃t,_=Value.str x t from rx);refine PySem.P.repr_of_str ⟨.str (PyData.shown (.str x)),H,I.tok _,⟨_,rfl⟩,q⟩ ?_;simpa only [PyData.shown]using hfit
 |list ds=>
  simp only [RdA]at hr;exact ref _ hr.choose_spec.choose_spec.1
 |tuple ds=>
  simp only [RdA]at hr;exact ref _ hr.choose_spec.choose_spec.1
 |dict kvs=>
  simp only [RdA]at hr;exact ref _ hr.choose_spec.choose_spec.1
end
end L2
namespace Inj
open PySem PyProof.Rows
abbrev S (d:PyData):List Nat:=d.shown.cps.toList
def num (c:Nat):Prop:=c=45\/(48<=c/\c<=57)
theorem mE:(∀c∈S (.int i),num c)/\S (.int i)≠[]:=by
 constructor
 ·intro c hc;refine Classical.byContradiction fun h=> ?_;unfold num at h;exact shown_int_free' (k:=c) ⟨fun z=>h (.inl z),by omega⟩ i hc
 ·intro h;rw [S,PyData.shown,signs_ofString]at h;have e:toString i= "":=by
   have:(toString i).toList=[]:=List.map_eq_nil_iff.mp h;exact String.toList_inj.mp this
  cases i with
  |ofNat n=>exact Nat.repr_ne_empty e
  |negSucc n=>
   have:=congrArg String.length e;rw [show toString (Int.negSucc n)= "-" ++Nat.repr (n+1)from rfl,String.length_append]at this;exact absurd this (by simp)
theorem B09 (h:S (.int i)=S (.int k)):i=k:=by rw [S,S,PyData.shown,PyData.shown,signs_ofString,signs_ofString]at h;refine Int.repr_inj.mp (String.toList_inj.mp ?_);exact List.map_inj_right (fun a b z=>Char.toNat_inj.mp z)|>.mp h
def J:List PyData->List Nat
 | []=> [41]
 | [x]=>S x++[41]
 |x::y::r=>S x++44::32::J (y::r)
theorem A0l:∀ds:List PyData,(Str.join ", " (PyData.shownAll ds)).cps.toList++[41]=J ds
 | []=>by rw [PyData.shownAll];rfl
 | [x]=>by rw [PyData.shownAll,PyData.shownAll];rfl
 |x::y::r=>by
  have ih:=A0l (y::r);rw [PyData.shownAll]at ih;rw [PyData.shownAll,PyData.shownAll,join_cons_cons,cps_toList_append,cps_toList_append,append_assoc,ih,append_assoc];rfl
theorem jP (ds:List PyData):S (.tuple ds)=40::(match ds with| [x]=>S x++[44,41]|_=>J ds):=by
 have hl:∀l:List PyData,(PyData.shownAll l).length=l.length:=fun l=>by
  induction l with
  |nil=>rw [PyData.shownAll];rfl
  |cons x l ih=>rw [PyData.shownAll,length_cons,length_cons,ih]
 rw [S,PyData.shown,tupleText,cps_toList_append,cps_toList_append,hl]
 match ds with
 | []=>rfl
 | [x]=>rw [PyData.shownAll,PyData.shownAll];rfl
 |x::y::r=>
  have:=A0l (x::y::r);rw [append_assoc,show(((if (x::y::r).length==1 then ",)" else ")":String):Str)).cps.toList=[41] by simp;rfl,this];rfl
theorem hd (d:PyData):(∃k,d= .int k)\/(∃ds,d= .tuple ds)\/ ∃c r,S d=c::r/\¬num c/\c≠40:=by
 have app:∀(a b:Str){c:Nat}{r:List Nat},a.cps.toList=c::r->(a++b).cps.toList=c::(r++b.cps.toList):=fun a b c r h=>by rw [cps_toList_append,h];rfl
 have nn:¬num 78/\¬num 84/\¬num 70/\¬num 91/\¬num 123/\¬num 39/\¬num 34:=by unfold num;omega
 cases d with
 |none=>exact .inr (.inr ⟨78,_,rfl,nn.1,by decide⟩)
 |bool b=>
  cases b
  ·exact .inr (.inr ⟨70,_,rfl,nn.2.2.1,by decide⟩)
  ·exact .inr (.inr ⟨84,_,rfl,nn.2.1,by decide⟩)
 |int k=>exact .inl ⟨k,rfl⟩
 |tuple ds=>exact .inr (.inl ⟨ds,rfl⟩)
 |str x=>
  refine .inr (.inr ?_);have key:∀(q:Nat)(l:List Nat)(acc:Array Nat),acc.toList.head?=some q->(l.foldl (fun out c=>out++(Builtin.Str.reprChar (reprQuote x) c).toArray) acc).toList.head?=some q:=fun q l=>by
   induction l with
   |nil=>intro acc h;exact h
   |cons c l ih=>intro acc h;refine ih _ ?_;rw [Array.toList_append,head?_append,h];rfl
  have h1:=key (reprQuote x) x.cps.toList #[reprQuote x] rfl;have h2:(S (.str x)).head?=some (reprQuote x):=by
   rw [S,PyData.shown,reprText];rw [Array.toList_push,head?_append,←Array.foldl_toList,h1];rfl
  cases e:S (.str x)with
  |nil=>rw [e]at h2;cases h2
  |cons c r=>
   rw [e]at h2;injection h2 with h2
   have hq:reprQuote x=39\/reprQuote x=34:=by unfold reprQuote;split<;>simp
   refine⟨c,r,rfl,?_⟩;rw [h2];rcases hq with z|z<;>rw [z]
   ·exact⟨nn.2.2.2.2.2.1,by decide⟩
   ·exact⟨nn.2.2.2.2.2.2,by decide⟩
 |list ds=>
  refine .inr (.inr ?_);have key:∀(ts:List Str)(k:Nat)(acc:Str),acc.cps.toList.head?=some 91->(textFrom k acc ts).cps.toList.head?=some 91:=fun ts=>by
   induction ts with
   |nil=>intro k acc h;exact h
   |cons t ts ih=>
    intro k acc h;unfold textFrom;refine ih _ _ ?_
    split
    all_goals rw [cps_toList_append,cps_toList_append,head?_append,head?_append,h];rfl
  have h2:(S (.list ds)).head?=some 91:=by
   rw [S,PyData.shown,listText,cps_toList_append,head?_append,key _ 0 "[" rfl];rfl
  cases e:S (.list ds)with
  |nil=>rw [e]at h2;cases h2
  |cons c r=>
   rw [e]at h2;injection h2 with h2
   exact⟨c,r,rfl,by rw [h2];exact nn.2.2.2.1,by rw [h2];decide⟩
 |dict kvs=>
  refine .inr (.inr ⟨123,[]++(Str.join ", " (PyData.shownKv kvs)).cps.toList++(("}":String):Str).cps.toList,?_,nn.2.2.2.2.1,by decide⟩);rw [S,PyData.shown,dictText];rw [app _ _ (app _ _ (show(("{":String):Str).cps.toList=123::[]from rfl))]
theorem cut:∀{X Y s t:List Nat}{a b:Nat},(∀c∈X,num c)->(∀c∈Y,num c)->¬num a->¬num b->X++a::s=Y++b::t->X=Y/\a::s=b::t
 | [],[],_,_,_,_,_,_,_,_,h=> ⟨rfl,h⟩
 | [],y::Y,_,_,_,_,_,hY,ha,_,h=>by injection h with h _;exact absurd (h▸hY y zjR) ha
 |x::X,[],_,_,_,_,hX,_,_,hb,h=>by injection h with h _;exact absurd (h▸hX x zjR) hb
 |x::X,y::Y,_,_,_,_,hX,hY,ha,hb,h=>by
  injection h with h1 h2;obtain⟨e1,e2⟩:=cut (fun c hc=>hX c (zjS _ hc)) (fun c hc=>hY c (zjS _ hc)) ha hb h2;exact⟨by rw [h1,e1],e2⟩
theorem n44:¬num 44:=by unfold num;omega
theorem n41:¬num 41:=by unfold num;omega
theorem pF (ha:¬num a)(hb:¬num b)(h:S d++a::s=S (.int i)++b::t):d= .int i/\a::s=b::t:=by
 obtain⟨h1,h2⟩:=mE (i:=i);obtain⟨c,r,e⟩:=exists_cons_of_ne_nil h2;have hc:num c:=h1 c (by rw [e];exact zjR);rcases hd d with⟨k,rfl⟩| ⟨ds,rfl⟩| ⟨c',r',e',n,_⟩
 ·obtain⟨e1,e2⟩:=cut mE.1 h1 ha hb h;rw [B09 e1];exact⟨rfl,e2⟩
 ·rw [jP,e]at h;injection h with h _
  rw [←h]at hc;unfold num at hc;omega
 ·rw [e',e]at h;injection h with h _
  exact absurd (h▸hc) n
def pr (p:Int×Int):PyData:=.tuple [.int p.1,.int p.2]
theorem A5v (p:Int×Int):S (pr p)=40::(S (.int p.1)++44::32::(S (.int p.2)++[41])):=jP _
theorem jX (h:S d++s=S (pr p)++t):d=pr p/\s=t:=by
 rw [A5v,cons_append,append_assoc,cons_append,cons_append,append_assoc]at h;rcases hd d with⟨k,rfl⟩| ⟨ds,rfl⟩| ⟨c',r',e',_,n⟩
 ·obtain⟨h1,h2⟩:=mE (i:=k);obtain⟨c,r,e⟩:=exists_cons_of_ne_nil h2;have hc:num c:=h1 c (by rw [e];exact zjR);rw [e]at h;injection h with h _
  rw [h]at hc;unfold num at hc;omega
 ·rw [jP,cons_append]at h;injection h with _ h
  match ds,h with
  | [],h=>
   obtain⟨h1,h2⟩:=mE (i:=p.1);obtain⟨c,r,e⟩:=exists_cons_of_ne_nil h2;have hc:num c:=h1 c (by rw [e];exact zjR);rw [e]at h;injection (show 41::s=_ from h)with h _
   exact absurd (h▸hc) n41
  | [x],h=>
   obtain⟨_,e⟩:=pF n44 n44 (show S x++44::(41::s)=_ from by rw [←h,append_assoc];rfl);injection e with _ e
   injection e with e _;cases e
  |x::y::r,h=>
   obtain⟨e1,e⟩:=pF n44 n44 (show S x++44::(32::(J (y::r)++s))=_ from by rw [←h];show _=(S x++44::32::J (y::r))++s;rw [append_assoc];rfl);injection e with _ e
   injection e with _ e
   match r,e with
   | [],e=>
    obtain⟨e2,e3⟩:=pF n41 n41 (show S y++41::s=_ from by rw [←show(S y++[41])++s=S y++41::s from by rw [append_assoc];rfl];exact e);injection e3 with _ e3
    exact⟨by rw [e1,e2];rfl,e3⟩
   |z::r,e=>
    obtain⟨_,e3⟩:=pF n44 n41 (show S y++44::(32::(J (z::r)++s))=_ from by rw [←show(S y++44::32::J (z::r))++s=S y++44::(32::(J (z::r)++s))from by rw [append_assoc];rfl];exact e);injection e3 with e3 _
    cases e3
 ·rw [e']at h;injection h with h _
  exact absurd h n
theorem yH:∀{L:List (Int×Int)}{ds:List PyData},ds≠[]->L≠[]->J ds=J (L.map pr)->ds=L.map pr
 | [],_,_,h,_=>absurd rfl h
 |_,[],h,_,_=>absurd rfl h
 | [p],[x],_,_,h=>by rw [(jX h).1];rfl
 | [p],x::y::r,_,_,h=>by have:=(jX h).2;injection this with z _;cases z
 |p::q::L,[x],_,_,h=>by have:=(jX h).2;injection this with z _;cases z
 |p::q::L,x::y::r,_,_,h=>by
  obtain⟨e1,e2⟩:=jX h;injection e2 with _ e2
  injection e2 with _ e2;rw [e1,yH (L:=q::L) (by simp) (by simp) e2];rfl
theorem shown_inj {d:PyData}{L:List (Int×Int)}(h:d.shown=(PyData.tuple (L.map pr)).shown):d= .tuple (L.map pr):=by
 have h':S d=S (.tuple (L.map pr)):=by rw [S,h]
 have h0:S d++[]=S (.tuple (L.map pr)):=by rw [append_nil];exact h'
 rcases hd d with⟨k,rfl⟩| ⟨ds,rfl⟩| ⟨c',r',e',_,n⟩
 ·obtain⟨h1,h2⟩:=mE (i:=k);obtain⟨c,r,e⟩:=exists_cons_of_ne_nil h2;have hc:num c:=h1 c (by rw [e];exact zjR);rw [e,jP]at h';injection h' with h' _
  rw [h']at hc;unfold num at hc;omega
 ·rw [jP,jP]at h';injection h' with _ h'
  congr 1
  match L,ds,h' with
  | [],[],_=>rfl
  | [],[x],h'=>have:=congrArg List.length h';simp [J]at this
  | [],x::y::r,h'=>have:=congrArg List.length h';simp [J]at this;omega
  | [p],[],h'=>have:=congrArg List.length h';simp [J]at this
  | [p],[x],h'=>rw [(jX h').1];rfl
  | [p],x::y::r,h'=>have:=(jX h').2;injection this with _ z;injection z with z _;cases z
  |p::q::L,[],h'=>have:=congrArg List.length h';simp [J]at this;omega
  |p::q::L,[x],h'=>have:=(jX h').2;injection this with _ z;injection z with z _;cases z
  |p::q::L,x::y::r,h'=>exact yH (by simp) (by simp) h'
 ·rw [e',jP]at h';injection h' with h' _
  exact absurd h' n
end Inj
namespace L2
open PySem PySem.Spec PyProof.Rows
def Dt (H:Hp)(n D:Nat)(v:V):Prop:=∃d,RdA H d v/\Gd n D d/\(d.hasDict=true->dJ d=false)
def Dp (H:Hp)(n D:Nat)(v:V):Prop:=∃d,RdA H d v/\Gd n D d/\d.hasDict=false/\dJ d=false
theorem Dp.dt (h:Dp H n D v):Dt H n D v:=let ⟨d,h1,h2,_,h4⟩:=h;⟨d,h1,h2,fun _=>h4⟩
theorem Dt.same (h:Dt H n D v)(s:Same H H'):Dt H' n D v:=let ⟨d,h1,h2⟩:=h;⟨d,h1.same s,h2⟩
theorem Dt.mono (h:Dt H n D v)(h1:n<=m)(h2:D<=E):Dt H m E v:=let ⟨d,a,b,c⟩:=h;⟨d,a,b.mono h1 h2,c⟩
theorem Dp.mono (h:Dp H n D v)(h1:n<=m)(h2:D<=E):Dp H m E v:=let ⟨d,a,b,c⟩:=h;⟨d,a,b.mono h1 h2,c⟩
theorem Gd.atom (h1:d.showable=true)(h2:d.leavesShort 64=true)(h3:d.weight<=n)(h4:d.depth=0)(h5:gC d=true:=by simp only [gC]):Gd n D d:=⟨h1,h2,h3,by omega,h5⟩
theorem Dp.non:Dp H n D .non:=⟨.none,by simp only [RdA],.atom (by simp only [PyData.showable]) (by simp only [PyData.leavesShort]) (by simp only [PyData.weight];omega) (by simp only [PyData.depth]),by simp only [PyData.hasDict],by simp only [dJ]⟩
theorem Dp.bl (b:Bool):Dp H n D (.bl b):=⟨.bool b,by simp only [RdA],.atom (by simp only [PyData.showable]) (by simp only [PyData.leavesShort]) (by simp only [PyData.weight];omega) (by simp only [PyData.depth]),by simp only [PyData.hasDict],by simp only [dJ]⟩
theorem Dp.int (i:Int)(h:i.natAbs<10^40)(hw:i.natAbs<2^n)(h1:1<=n):Dp H n D (.int i):=by
 refine⟨.int i,by simp only [RdA],.atom ?_ ?_ ?_ (by simp only [PyData.depth]),by simp only [PyData.hasDict],by simp only [dJ]⟩
 ·simp only [PyData.showable,decide_eq_true_eq];by_cases z:i.natAbs=0
  ·rw [z];decide
  ·rw [Nat.log2_lt z];exact lt_of_lt_of_le h (by decide +kernel)
 ·simp only [PyData.leavesShort,decide_eq_true_eq];have e:=int_text_length_le10 (k:=40) (by decide) h;show(Str.ofString (toString i)).length<=64;rw [PySem.ofString_length];omega
 ·simp only [PyData.weight]
  split
  ·omega
  ·rename_i z;have z':i.natAbs≠0:=by simpa using z
   have:=(Nat.log2_lt z').mpr hw;omega
theorem Dp.num (i:Int)(h:i.natAbs<128):Dp H 7 D (.int i):=Dp.int i (lt_of_lt_of_le h (by decide +kernel)) h (by decide)
theorem Dp.big (i:Int)(h:i.natAbs<10^40):Dp H 140 D (.int i):=Dp.int i h (lt_of_lt_of_le h (by decide +kernel)) (by decide)
theorem Dp.str (x:Str)(h:x.cps.toList.all (fun c=>decide (c<16^8))=true)(hn:x.cps.size<=n):Dp H n D (.str x):=
 ⟨.str x,by simp only [RdA],.atom (by simp only [PyData.showable]) (by simp only [PyData.leavesShort];exact h) (by simp only [PyData.weight];exact hn) (by simp only [PyData.depth]),by simp only [PyData.hasDict],by simp only [dJ]⟩
theorem Dp.all:∀{xs:List V},(∀x∈xs,Dp H n D x)->∃ds,RdAs H ds xs/\ds.length=xs.length/\(∀d∈ds,Gd n D d)/\PyData.hasDictAll ds=false/\fB ds=false
 | [],_=> ⟨[],by simp only [RdAs],rfl,fun d h=>by simp at h,by simp only [PyData.hasDictAll],by simp only [fB]⟩
 |x::xs,h=>by
  obtain⟨d,a1,a2,a3,a4⟩:=h x zjR;obtain⟨ds,b1,b2,b3,b4,b5⟩:=Dp.all fun y hy=>h y (zjS _ hy);refine⟨d::ds,?_,by rw [length_cons,length_cons,b2],fun d' h'=> ?_,?_,?_⟩
  ·simp only [RdAs];exact⟨x,xs,rfl,a1,b1⟩
  ·rcases mem_cons.mp h' with rfl|h'
   ·exact a2
   ·exact b3 d' h'
  ·simp only [PyData.hasDictAll,a3,b4,Bool.or_self]
  ·simp only [fB,a4,b5,Bool.or_self]
theorem Gd.tup (h:∀d∈ds,Gd n D d)(hm:ds.length<=m)(hk:m<=1000):Gd (m*(n+1)) (D+1) (.tuple ds):=by obtain⟨h1,h2,h3,h4,h5⟩:=Gd.all h;refine⟨by simp only [PyData.showable];exact h1,by simp only [PyData.leavesShort];exact h2,?_,by simp only [PyData.depth];omega,by simp only [gC,h5,Bool.and_true,decide_eq_true_eq];omega⟩;simp only [PyData.weight];exact le_trans h3 (Nat.mul_le_mul_right _ hm)
theorem Gd.lst (h:∀d∈ds,Gd n D d)(hm:ds.length<=m):Gd (m*(n+1)) (D+1) (.list ds):=by obtain⟨h1,h2,h3,h4,h5⟩:=Gd.all h;refine⟨by simp only [PyData.showable];exact h1,by simp only [PyData.leavesShort];exact h2,?_,by simp only [PyData.depth];omega,by simp only [gC];exact h5⟩;simp only [PyData.weight];exact le_trans h3 (Nat.mul_le_mul_right _ hm)
theorem Dp.tup (ha:H a=some (.tup xs))(h:∀x∈xs,Dp H n D x)(hm:xs.length<=m)(hk:m<=1000:=by first|decide|omega):Dp H (m*(n+1)) (D+1) (.ref a):=by obtain⟨ds,b1,b2,b3,b4,b5⟩:=Dp.all h;exact⟨.tuple ds,by simp only [RdA];exact⟨a,xs,rfl,ha,b1⟩,Gd.tup b3 (by omega) hk,by simp only [PyData.hasDict];exact b4,by simp only [dJ];exact b5⟩
theorem Dt.lst (ha:H a=some (.lst xs))(h:∀x∈xs,Dp H n D x)(hm:xs.length<=m):Dt H (m*(n+1)) (D+1) (.ref a):=by obtain⟨ds,b1,b2,b3,b4,b5⟩:=Dp.all h;exact⟨.list ds,by simp only [RdA];exact⟨a,xs,rfl,ha,b1⟩,Gd.lst b3 (by omega),fun z=>by simp only [PyData.hasDict]at z;rw [b4]at z;cases z⟩
theorem A2h:∀{ds es:List PyData}{xs ys:List V},RdAs H ds xs->RdAs H es ys->RdAs H (ds++es) (xs++ys)
 | [],es,xs,ys,h1,h2=>by simp only [RdAs]at h1;subst h1;exact h2
 |d::ds,es,xs,ys,h1,h2=>by
  simp only [RdAs]at h1;obtain⟨y,zs,rfl,a,b⟩:=h1;rw [cons_append,cons_append];simp only [RdAs];exact⟨y,zs++ys,rfl,a,A2h b h2⟩
theorem yQ:∀ds es:List PyData,PyData.hasDictAll (ds++es)=(PyData.hasDictAll ds||PyData.hasDictAll es)
 | [],es=>by simp [PyData.hasDictAll]
 |d::ds,es=>by simp only [cons_append,PyData.hasDictAll,yQ ds es,Bool.or_assoc]
theorem xC:∀ds es:List PyData,fB (ds++es)=(fB ds||fB es)
 | [],es=>by simp [fB]
 |d::ds,es=>by simp only [cons_append,fB,xC ds es,Bool.or_assoc]
theorem zV:∀ds es:List PyData,PyData.weightAll (ds++es)=PyData.weightAll ds+PyData.weightAll es
 | [],es=>by simp [PyData.weightAll]
 |d::ds,es=>by simp only [cons_append,PyData.weightAll,zV ds es];omega
theorem A1y:∀ds es:List PyData,PyData.depthAll (ds++es)=max (PyData.depthAll ds) (PyData.depthAll es)
 | [],es=>by simp [PyData.depthAll]
 |d::ds,es=>by simp only [cons_append,PyData.depthAll,A1y ds es];omega
theorem A0o:∀ds es:List PyData,fK (ds++es)=(fK ds&&fK es)
 | [],es=>by simp [fK]
 |d::ds,es=>by simp only [cons_append,fK,A0o ds es,Bool.and_assoc]
theorem A1o:∀ds es:List PyData,PyData.showableAll (ds++es)=(PyData.showableAll ds&&PyData.showableAll es)
 | [],es=>by simp [PyData.showableAll]
 |d::ds,es=>by simp only [cons_append,PyData.showableAll,A1o ds es,Bool.and_assoc]
theorem yI:∀ds es:List PyData,PyData.leavesShortAll 64 (ds++es)=(PyData.leavesShortAll 64 ds&&PyData.leavesShortAll 64 es)
 | [],es=>by simp [PyData.leavesShortAll]
 |d::ds,es=>by simp only [cons_append,PyData.leavesShortAll,yI ds es,Bool.and_assoc]
theorem Dt.mid (ha:H a=some (.tup (xs++y::ys)))(hx:∀x∈xs,Dp H n D x)(hy:Dt H k D y)(hz:∀x∈ys,Dp H n D x)(hm:xs.length+ys.length<=m)(hk:m<1000:=by first|decide|omega):Dt H (m*(n+1)+k+1) (D+1) (.ref a):=by
 obtain⟨ds,b1,b2,b3,b4,b5⟩:=Dp.all hx;obtain⟨d,a1,a2,a3⟩:=hy;obtain⟨es,c1,c2,c3,c4,c5⟩:=Dp.all hz;obtain⟨p1,p2,p3,p4,p5⟩:=Gd.all b3;obtain⟨q1,q2,q3,q4,q5⟩:=Gd.all c3;refine⟨.tuple (ds++d::es),?_,⟨?_,?_,?_,?_,?_⟩,fun z=> ?_⟩
 ·simp only [RdA];refine⟨a,xs++y::ys,rfl,ha,A2h b1 ?_⟩;simp only [RdAs];exact⟨y,ys,rfl,a1,c1⟩
 ·simp only [PyData.showable,A1o,PyData.showableAll,p1,q1,a2.sh,Bool.and_self]
 ·simp only [PyData.leavesShort,yI,PyData.leavesShortAll,p2,q2,a2.lv,Bool.and_self]
 ·simp only [PyData.weight,zV,PyData.weightAll];have:=a2.wt;have e:ds.length*(n+1)+es.length*(n+1)<=m*(n+1):=by rw [←Nat.add_mul];exact Nat.mul_le_mul_right _ (by omega)
  omega
 ·simp only [PyData.depth,A1y,PyData.depthAll];have:=a2.dp;omega
 ·simp only [gC,A0o,fK,p5,q5,a2.ln,Bool.and_self,Bool.and_true,decide_eq_true_eq,length_append,length_cons];omega
 ·simp only [PyData.hasDict,yQ,PyData.hasDictAll,b4,c4,Bool.false_or,Bool.or_false]at z;simp only [dJ,xC,fB,b5,c5,a3 z,Bool.or_self]
theorem Dt.dict0 (ha:H a=some (.dK [])):Dt H n (D+1) (.ref a):=by refine⟨.dict [],by simp only [RdA];exact⟨a,[],rfl,ha,by simp only [RdKv]⟩,⟨by simp only [PyData.showable,PyData.showableKv],by simp only [PyData.leavesShort,PyData.leavesShortKv],by simp only [PyData.weight,PyData.weightKv];omega,by simp only [PyData.depth,PyData.depthKv];omega,by simp only [gC]⟩,fun _=>by simp only [dJ,kR]⟩
theorem Dt.dict1 (ha:H a=some (.dK [(Sum.inl 0,.int 0)]))(hn:2<=n):Dt H n (D+1) (.ref a):=by
 have z:(PyData.int 0).showable=true/\(PyData.int 0).leavesShort 64=true/\(PyData.int 0).weight=0/\(PyData.int 0).depth=0:=by
  refine⟨by simp only [PyData.showable,decide_eq_true_eq];decide,by simp only [PyData.leavesShort];decide +kernel,by simp [PyData.weight],by simp only [PyData.depth]⟩
 obtain⟨z1,z2,z3,z4⟩:=z;refine⟨.dict [(.int 0,.int 0)],?_,⟨by simp only [PyData.showable,PyData.showableKv]at z1⊢;rw [z1];rfl,by simp only [PyData.leavesShort,PyData.leavesShortKv]at z2⊢;rw [z2];rfl,by rw [PyData.weight,PyData.weightKv,PyData.weightKv,z3];omega,by rw [PyData.depth,PyData.depthKv,PyData.depthKv,z4];omega,by simp only [gC]⟩,fun _=>by simp only [dJ,kR,Bool.or_self]⟩;simp only [RdA];refine⟨a,_,rfl,ha,?_⟩;simp only [RdKv];exact⟨Sum.inl 0,.int 0,[],rfl,by simp only [RdA];rfl,by simp only [RdA],rfl⟩
def wo (p:Addr)(H:Hp):Hp:=fun b=>if b=p then none else H b
theorem fF (h:H a=some o)(hn:a≠p):wo p H a=some o:=by unfold wo;rw [if_neg hn];exact h
theorem A00 (p:Addr)(H:Hp):Same (wo p H) H:=fun b o e=>by
 unfold wo at e;by_cases h:b=p
 ·rw [if_pos h]at e;cases e
 ·rw [if_neg h]at e;exact e
theorem Stp.wo (s:Stp p H H'):Same (wo p H) (wo p H'):=fun b o e=>by
 unfold L2.wo at e⊢;by_cases h:b=p
 ·rw [if_pos h]at e;cases e
 ·rw [if_neg h]at e⊢;exact s.keep b o h e
theorem Same.wo (s:Same H H'):Same (wo p H) (wo p H'):=fun b o e=>by
 unfold L2.wo at e⊢;by_cases h:b=p
 ·rw [if_pos h]at e;cases e
 ·rw [if_neg h]at e⊢;exact s b o e
theorem yR:∀{ds:List PyData}{xs:List V},RdAs H ds xs->xs.length=ds.length/\ds.length<=PyData.weightAll ds
 | [],xs,h=>by simp only [RdAs]at h;subst h;simp [PyData.weightAll]
 |d::ds,xs,h=>by
  simp only [RdAs]at h;obtain⟨y,ys,rfl,_,h2⟩:=h;have:=yR h2;simp only [length_cons,PyData.weightAll];omega
mutual
theorem A0z:∀(d:PyData)(v:V),RdA H d v->gC d=true->KnA H v
 | .none,_,h,_=>by simp only [RdA]at h;subst h;exact KnA.non
 | .bool b,_,h,_=>by simp only [RdA]at h;subst h;exact KnA.bl b
 | .int i,_,h,_=>by simp only [RdA]at h;subst h;exact KnA.int i
 | .str x,_,h,_=>by simp only [RdA]at h;subst h;exact KnA.str x
 | .list ds,_,h,_=>by simp only [RdA]at h;obtain⟨a,xs,rfl,ha,_⟩:=h;exact KnA.lst ha
 | .tuple ds,_,h,hw=>by
  simp only [RdA]at h;obtain⟨a,xs,rfl,ha,hx⟩:=h;simp only [gC,Bool.and_eq_true,decide_eq_true_eq]at hw;obtain⟨l1,l2⟩:=yR hx;exact KnA.tup ha (by omega) (wY ds xs hx hw.2)
 | .dict kvs,_,h,_=>by simp only [RdA]at h;obtain⟨a,xs,rfl,ha,_⟩:=h;exact KnA.dct ha
theorem wY:∀(ds:List PyData)(xs:List V),RdAs H ds xs->fK ds=true->∀x∈xs,KnA H x
 | [],_,h,_=>by simp only [RdAs]at h;subst h;intro x hx;cases hx
 |d::ds,_,h,hw=>by
  simp only [RdAs]at h;obtain⟨y,ys,rfl,h1,h2⟩:=h;simp only [fK,Bool.and_eq_true]at hw;intro x hx;rcases mem_cons.mp hx with rfl|hx
  ·exact A0z d x h1 hw.1
  ·exact wY ds ys h2 hw.2 x hx
end
theorem Dt.kn (h:Dt H n D v):KnA H v:=let ⟨d,h1,h2,_⟩:=h;A0z d v h1 h2.ln
end L2
namespace Set4
open PySem PyProof.Rows
section
theorem A6e (hh:A.handled=none)(hl:s.heap.IsTuple l items)(hv:∀(i:Nat)(v:Value),items[i]?=some v->∃t,v= .int (val i:Int) t)(h4:∀i,i<items.size->val i<4)
  (h:∀(h':Heap)(tk:Nat),IsS4 h' s.heap.objs.size (acc val items.size) (!byT w)->(∀b o,b<s.heap.objs.size->s.heap.get? b=some o->h'.get? b=some o)->Q (.ref s.heap.objs.size) {s with heap:=h',toks:=tk}):
  wpAny (model prog w) A (call (.type "set") [.ref l]) Q E s:=by
 obtain⟨c,tl,hmro⟩:=PySem.F.called_set.mro;have hmade:=PySem.F.called_set.made;have hsub:=PySem.F.called_set.sub;refine wpAny_call (codeAny_of_tree ?_);show wpAny _ _ (callAny (.type "set") _) _ _ _;refine zjY ⟨Code.quiet_builtin _ (by decide +kernel),codeAny_builtin PySem.F.entry_type_call ?_⟩;rw [Around.under_plain (weight_type_call_type "set" [.ref l] []) rfl];have h1:=PySem.F.called_set.notType;have h2:=PySem.F.called_set.canCreate;have hct:=PySem.F.typeCall_set_1 (.ref l)
 repeat (any_goals (first|assumption|wp_step))
 refine codeAny_mono (A12 (.ref l) (E:=E) (Q₁:=fun obj s₁=>obj= .ref s.heap.objs.size/\s₁={s with heap:=s.heap.push (cL (fun _=>false) (fun _=> .none) (!byT w) 0)}) ⟨rfl,rfl⟩) fun r s₁ hr=> ?_;cases r with
 |error e=>exact hr
 |ok fl=>
  cases fl with
  |ret obj=>
   obtain⟨rfl,rfl⟩:=hr;have hS:(s.heap.push (cL (fun _=>false) (fun _=> .none) (!byT w) 0)).get? s.heap.objs.size=some (cL (fun _=>false) (fun _=> .none) (!byT w) 0):=get?_push_size _ rfl;have hT:Shared.TypeIs {s with heap:=s.heap.push (cL (fun _=>false) (fun _=> .none) (!byT w) 0)} (.ref s.heap.objs.size) "set":=⟨_,hS,rfl⟩;have hli:=PySem.F.called_set.init.lookup;have hbi:=PySem.F.called_set.init.bind (.ref s.heap.objs.size)
   repeat (any_goals (first|assumption|wp_step))
   refine codeAny_mono (codeAny_call_builtin (R:=wants (fun r s₂=>r= .none/\∃h' tk,s₂={s with heap:=h',toks:=tk}/\IsS4 h' s.heap.objs.size (acc val items.size) (!byT w)/\
     (∀b o,b<s.heap.objs.size->s.heap.get? b=some o->h'.get? b=some o)) E) PySem.F.called_set.init.plain PySem.F.entry_set_init (check_set_init_1 hT ?_)) fun r₂ s₂ hr₂=> ?_
   ·obtain⟨ol,hol,hcl,nl,hdl⟩:=hl;obtain⟨ocls,odict,odata,oslots⟩:=ol;simp only at hcl hdl;subst hcl;subst hdl;have hol':(s.heap.push (cL (fun _=>false) (fun _=> .none) (!byT w) 0)).get? l=some {cls:=.type "tuple",dict:=odict,data:=.seq items nl,slots:=oslots}:=zjX _ hol;have hsls:isSubtype (.type "tuple") (.type "set")=pure false:=by rw [isSubtype_type];kernel_rfl
    have hslf:isSubtype (.type "tuple") (.type "frozenset")=pure false:=by rw [isSubtype_type];kernel_rfl
    have hne:(Value.type "tuple" ==Value.type "dict")=false:=by decide
    have hl1:(s.heap.push (cL (fun _=>false) (fun _=> .none) (!byT w) 0)).IsTuple l items:=⟨_,hol',rfl,nl,rfl⟩;unfold Builtin.«set.__init__» noKeywords Builtin.Frozenset.updateFrom;generalize hPI:pyIter=PI
    wp_walk
    subst hPI;refine wpAny_pyIter_tuple hl1 ?_;refine zjZ (wpAny_runValue ?_);have hlS:l<s.heap.objs.size:=zjT hol;have hh3:A.in1.in1.in1.handled=none:=by simp [hh]
    have hneI:l≠(s.heap.push (cL (fun _=>false) (fun _=> .none) (!byT w) 0)).objs.size:=by rw [size_push];exact ne_of_lt (lt_succ_of_lt hlS)
    have hSf:s.heap.objs.size∉[(s.heap.push (cL (fun _=>false) (fun _=> .none) (!byT w) 0)).objs.size,l]:=by
     rw [size_push];intro hm;rcases mem_cons.mp hm with e|e
     ·exact absurd e (ne_of_lt (lt_succ_self _))
     ·exact absurd (mem_singleton.mp e) (ne_of_gt hlS)
    refine xZ ((Walks.tuple hh3 _ l hneI items).toS) s.heap.objs.size hSf val hv h4 (items.size - 0) 0 _ (by omega) (zero_le _) ⟨⟨_,get?_push_size _ rfl,rfl,rfl⟩,(hl1.push _)⟩ (show IsS4 _ _ (fun _=>false) (!byT w)from⟨fun _=> .none,0,(fun k _ z=>absurd z (by simp)),zjX _ hS⟩) ?_;intro s' hm hS';obtain⟨h',g',d',tk',os'⟩:=s';have eg:g'=s.gens:=hm.gens;have ed:d'=s.drawn:=hm.drawn;have eo:os'=s.os:=hm.os;subst eg;subst ed;subst eo;show wpAny _ _ _ _ _ _;refine zjY ?_;show wpAny _ _ (ret Value.none) _ _ _;refine zjY ⟨rfl,h',tk',rfl,hS',fun b o hb e=> ?_⟩;refine hm.heap b o (fun hmm=> ?_) (zjX _ (zjX _ e));rcases mem_cons.mp hmm with z|z
    ·exact ne_of_lt hb z
    ·rw [size_push]at z;exact ne_of_lt (lt_succ_of_lt hb) (mem_singleton.mp z)
   ·cases r₂ with
    |error e=>exact hr₂
    |ok fl₂=>
     cases fl₂ with
     |ret r=>
      obtain⟨rfl,h',tk,rfl,hS',hk'⟩:=hr₂
      repeat (any_goals (first|assumption|wp_step))
      exact h _ _ hS' hk'
     |_=>exact hr₂.elim
  |_=>exact hr.elim
end
end Set4
namespace L2
open PySem PySem.Spec PyProof.Rows Srt Set4
section
theorem A9s (hc:X.calm=true):dW X (.type "set") (fun xs H Q=> ∃(p:Addr)(ns:List Nat),xs=[.ref p]/\SqT X.K H p (ns.map fun n:Nat=>V.int (n:Int))/\(∀n∈ns,n<4)/\∀l,H l=none->Q (.ref l) (upd H l (gQ X.w l fun k=>decide (k∈ns)))):=by
 intro pins s σ H xs us Q I r h;obtain⟨p,ns,rfl,hq,h4,q⟩:=h;obtain⟨u,rfl,rx⟩:=eI r;cases rx;obtain⟨its,rv,pl,hz⟩:=I.tuple hq;have hl:=rv.length;rw [length_map]at hl;have hval:∀(i:Nat)(v:Value),its.toArray[i]?=some v->∃t,v= .int ((ns.getD i 0:Nat):Int) t:=fun i v e=>by
  have e':its[i]?=some v:=by simpa using e
  have hi:i<ns.length:=by rw [hl];exact(zjW.mp e').1
  obtain⟨u,hu,ru⟩:=rv.get (i:=i) (x:=V.int ((ns[i]:Nat):Int)) (by rw [getElem?_map,getElem?_eq_getElem hi];rfl);rw [e']at hu;cases hu;rw [show ns.getD i 0=ns[i] by simp [hi]];exact ru
 refine A6e (I.ok.hd hc) pl (val:=fun i=>ns.getD i 0) hval (fun i hi=> ?_) fun h' tk hS hk=> ?_
 ·have hi':i<ns.length:=by rw [hl];simpa using hi
  show ns.getD i 0<4;rw [show ns.getD i 0=ns[i] by simp [hi']];exact h4 _ (getElem_mem _)
 ·have eS:acc (fun i=>ns.getD i 0) its.toArray.size=fun k=>decide (k∈ns):=funext fun k=>by
   rw [Bool.eq_iff_iff,qE,decide_eq_true_eq,size_toArray,←hl];constructor
   ·rintro⟨j,hj,e⟩;have e':ns.getD j 0=k:=e;rw [show ns.getD j 0=ns[j] by simp [hj]]at e';rw [←e'];exact getElem_mem _
   ·intro hm;obtain⟨j,hj,e⟩:=getElem_of_mem hm;exact⟨j,hj,by show ns.getD j 0=k;rw [show ns.getD j 0=ns[j] by simp [hj]];exact e⟩
  rw [eS]at hS;obtain⟨f,ep,hf,ho⟩:=id hS;exact⟨.ref s.heap.objs.size,_,I.laid (t':=tk) (fun b o q=>hk b o (zjT q) q) (zjQ _) (o:=gQ X.w _ _) ⟨hS,⟨_,ho⟩,fun h1 h2 x e=>x.at e⟩,rfl,q _ (I.hok.fresh (zjQ _))⟩
end
end L2
namespace L2
open PySem PySem.Spec PyProof.Rows
theorem Gd.sub (g:Gd n D (.tuple ds)):∀d∈ds,Gd n D d:=by
 have key:∀ds:List PyData,PyData.showableAll ds=true->PyData.leavesShortAll 64 ds=true->fK ds=true->∀d∈ds,d.showable=true/\d.leavesShort 64=true/\d.weight<=PyData.weightAll ds/\d.depth<=PyData.depthAll ds/\gC d=true:=fun ds=>by
  induction ds with
  |nil=>intro _ _ _ d h;cases h
  |cons x ds ih=>
   intro h1 h2 h3 d hd;simp only [PyData.showableAll,PyData.leavesShortAll,fK,Bool.and_eq_true]at h1 h2 h3;simp only [PyData.weightAll,PyData.depthAll];rcases mem_cons.mp hd with rfl|hd
   ·exact⟨h1.1,h2.1,by omega,by omega,h3.1⟩
   ·obtain⟨a,b,c,e,f⟩:=ih h1.2 h2.2 h3.2 d hd;exact⟨a,b,by omega,by omega,f⟩
 have g1:=g.sh;have g2:=g.lv;have g3:=g.wt;have g4:=g.dp;have g5:=g.ln;simp only [PyData.showable,PyData.leavesShort,PyData.weight,PyData.depth,gC,Bool.and_eq_true]at g1 g2 g3 g4 g5;intro d hd;obtain⟨a,b,c,e,f⟩:=key ds g1 g2 g5.2 d hd;exact⟨a,b,by omega,by omega,f⟩
theorem uV:∀{ds:List PyData},(∀d∈ds,d.hasDict=true->PyData.hasDictAll ds=true)/\∀d∈ds,dJ d=true->fB ds=true
 | []=> ⟨fun d h=>absurd h not_mem_nil,fun d h=>absurd h not_mem_nil⟩
 |x::ds=>by
  obtain⟨h1,h2⟩:=uV (ds:=ds);simp only [PyData.hasDictAll,fB,Bool.or_eq_true];refine⟨fun d hd z=> ?_,fun d hd z=> ?_⟩
  ·rcases mem_cons.mp hd with rfl|hd
   ·exact .inl z
   ·exact .inr (h1 d hd z)
  ·rcases mem_cons.mp hd with rfl|hd
   ·exact .inl z
   ·exact .inr (h2 d hd z)
theorem Dt.snd (h:Dt H n D v)(z:tupOf H v=some [x,y]):Dt H n D y:=by
 obtain⟨d,hd,g,dl⟩:=h;obtain⟨t,rfl,ht⟩:=eZ z;cases d<;>simp only [RdA]at hd
 case none=>cases hd
 case bool=>cases hd
 case int=>cases hd
 case str=>cases hd
 case list=>obtain⟨a,xs,e,ha,_⟩:=hd;cases e;rw [ht]at ha;cases ha
 case dict=>obtain⟨a,xs,e,ha,_⟩:=hd;cases e;rw [ht]at ha;cases ha
 case tuple ds=>
  obtain⟨a,xs,e,ha,hx⟩:=hd;cases e;rw [ht]at ha;cases ha
  match ds,hx with
  | [],hx=>simp only [RdAs]at hx;cases hx
  | [d1],hx=>
   simp only [RdAs]at hx;obtain⟨y1,ys,e,_,h2⟩:=hx;subst h2;cases e
  |d1::d2::r,hx=>
   simp only [RdAs]at hx;obtain⟨y1,ys,e,_,y2,zs,e2,h2,_⟩:=hx;subst e2;cases e;have hm:d2∈d1::d2::r:=zjS _ zjR;refine⟨d2,h2,g.sub d2 hm,fun q=> ?_⟩;have hl:=dl (by simp only [PyData.hasDict];exact uV.1 d2 hm q);simp only [dJ]at hl;cases hq:dJ d2 with
   |false=>rfl
   |true=>rw [uV.2 d2 hm hq]at hl;cases hl
theorem A0f:∀{ps:List Addr}{L:List (Int×Int)}{ds:List PyData},PlAt H ps L->RdAs H ds (ps.map V.ref)->ds=L.map Inj.pr
 |_,_,[],.nil,_=>rfl
 |_,_,_::_,.nil,h=>by simp only [RdAs]at h;obtain⟨_,_,e,_⟩:=h;cases e
 |_,_,[],.cons _ _,h=>by simp only [RdAs]at h;cases h
 |_,_,d::ds,.cons (b:=c) r t,h=>by
  simp only [RdAs]at h;obtain⟨y,ys,e,h1,h2⟩:=h;cases e;rw [map_cons,←A0f t h2]
  congr 1
  have r':H _=some (.tup [.int c.1,.int c.2]):=r;cases d<;>simp only [RdA]at h1
  case none=>cases h1
  case bool=>cases h1
  case int=>cases h1
  case str=>cases h1
  case list=>obtain⟨a,xs,e,ha,_⟩:=h1;cases e;rw [r']at ha;cases ha
  case dict=>obtain⟨a,xs,e,ha,_⟩:=h1;cases e;rw [r']at ha;cases ha
  case tuple es=>
   obtain⟨a,xs,e,ha,hx⟩:=h1;cases e;rw [r']at ha;cases ha;have ii:∀{d:PyData}{i:Int},RdA H d (.int i)->d= .int i:=fun{d i} h=>by
    cases d<;>simp only [RdA]at h
    case int j=>cases h;rfl
    case none=>cases h
    case bool=>cases h
    case str=>cases h
    all_goals (obtain⟨_,_,e,_⟩:=h;cases e)
   match es,hx with
   | [],hx=>simp only [RdAs]at hx;cases hx
   | [d1],hx=>
    simp only [RdAs]at hx;obtain⟨y1,ys,e,_,h2⟩:=hx;subst h2;cases e
   | [d1,d2],hx=>
    simp only [RdAs]at hx;obtain⟨y1,ys,e,h1,y2,zs,e2,h2,e3⟩:=hx;subst e2;cases e;rw [ii h1,ii h2];rfl
   |d1::d2::d3::r,hx=>
    simp only [RdAs]at hx;obtain⟨y1,ys,e,h1,y2,zs,e2,h2,y3,z3,e3,_⟩:=hx;subst e2;subst e3;cases e
theorem wC (h:SqA H t L)(hd:RdA H d (.ref t)):d= .tuple (L.map Inj.pr):=by
 obtain⟨ps,ht,hP⟩:=h;cases d<;>simp only [RdA]at hd
 case none=>cases hd
 case bool=>cases hd
 case int=>cases hd
 case str=>cases hd
 case list=>obtain⟨a,xs,e,ha,_⟩:=hd;cases e;rw [ht]at ha;cases ha
 case dict=>obtain⟨a,xs,e,ha,_⟩:=hd;cases e;rw [ht]at ha;cases ha
 case tuple ds=>
  obtain⟨a,xs,e,ha,hx⟩:=hd;cases e;rw [ht]at ha;cases ha;rw [A0f hP hx]
theorem A0x:∀{L:List (Int×Int)}{xs:List V},RdAs H (L.map Inj.pr) xs->∃ps:List Addr,xs=ps.map V.ref/\PlAt H ps L
 | [],_,h=>by simp only [map_nil,RdAs]at h;exact⟨[],h,.nil⟩
 |c::L,_,h=>by
  simp only [map_cons,RdAs,Inj.pr,RdA]at h;obtain⟨y,ys,rfl,⟨a,xs,rfl,ha,y1,z1,rfl,rfl,y2,z2,rfl,rfl,rfl⟩,h2⟩:=h;obtain⟨ps,e,hP⟩:=A0x h2;exact⟨a::ps,by rw [e];rfl,.cons ha hP⟩
theorem B3k (h:RdA H (.tuple (L.map Inj.pr)) v):∃t,v= .ref t/\SqA H t L:=by simp only [RdA]at h;obtain⟨a,xs,rfl,ha,hx⟩:=h;obtain⟨ps,e,hP⟩:=A0x hx;exact⟨a,rfl,ps,by rw [ha,e],hP⟩
theorem A7b (h:SqA H t L)(h10:L.length<=10)(hs:∀c∈L,c.1.natAbs<128/\c.2.natAbs<128):Dp H 170 2 (.ref t):=by
 obtain⟨ps,ht,hP⟩:=h;have hl:ps.length=L.length:=Paired.length hP;refine Dp.tup (n:=16) (D:=1) (m:=10) ht (fun x hx=> ?_) (by rw [length_map];omega);obtain⟨p,hp,rfl⟩:=mem_map.mp hx;obtain⟨i,hi⟩:=mem_iff_getElem?.mp hp;obtain⟨c,hc,he⟩:=hP.at hi;have:=hs c (mem_of_getElem? hc);refine Dp.tup (n:=7) (D:=0) (m:=2) he (fun y hy=> ?_) (zjQ _);simp only [mem_cons,not_mem_nil,or_false]at hy;rcases hy with rfl|rfl
 ·exact Dp.num _ this.1
 ·exact Dp.num _ this.2
end L2
namespace M10
open PySem L2 PyProof.Rows Grd Wlk Cyc Srt Set4
theorem oU:bootBuiltins "repr" =some (.builtin "repr"):=by decide +kernel
def A2j:Sp:=fun vs H Q _=> ∃v lo hi,vs=[v,.int lo,.int hi]/\Kn H 1 v/\Q (.bl (cS lo hi v)) H
theorem zX (G:fL cl):∀v:V,dL cl v=(cS 0 3 v&&match v with| .int k=>decide (k∈hoI cl)|_=>false):=by
 intro v;cases v with
 |int k=>
  show eN cl k=(decide (0<=k)&&decide (k<=3)&&decide (k∈hoI cl));rw [Bool.eq_iff_iff,Bool.and_eq_true,Bool.and_eq_true,decide_eq_true_eq,decide_eq_true_eq,decide_eq_true_eq];constructor
  ·intro h;obtain⟨c,hc,e⟩:=any_eq_true.mp h;have e:=of_decide_eq_true e;have:=(G.num c hc).1;exact⟨⟨by omega,by omega⟩,nH G h⟩
  ·rintro⟨_,h⟩;exact zY h
 |_=>rfl
theorem A83 (h:∀k∈ks,0<=k/\k<=3):decide (ks=(aX fun k=>decide (k∈ks.map Int.toNat)).map fun k:Nat=>(k:Int))=upI ks:=by
 have key:∀b0 b1 b2 b3:Bool,((L b0 b1 b2 b3).map fun k:Nat=>(k:Int)).Pairwise (· < ·)/\(0∈L b0 b1 b2 b3↔b0=true)/\(1∈L b0 b1 b2 b3↔b1=true)/\(2∈L b0 b1 b2 b3↔b2=true)/\(3∈L b0 b1 b2 b3↔b3=true)/\∀n∈L b0 b1 b2 b3,n<4:=by decide
 generalize hS:(fun k=>decide (k∈ks.map Int.toNat))=S;obtain⟨hu,k0,k1,k2,k3,k4⟩:=key (S 0) (S 1) (S 2) (S 3);have hm:∀n:Nat,n∈aX S↔n<4/\S n=true:=fun n=>by
  constructor
  ·intro hn;have h4:=k4 n hn;refine⟨h4,?_⟩
   match n,h4,hn with
   |0,_,hn=>exact k0.mp hn
   |1,_,hn=>exact k1.mp hn
   |2,_,hn=>exact k2.mp hn
   |3,_,hn=>exact k3.mp hn
  ·rintro⟨h4,hn⟩
   match n,h4,hn with
   |0,_,hn=>exact k0.mpr hn
   |1,_,hn=>exact k1.mpr hn
   |2,_,hn=>exact k2.mpr hn
   |3,_,hn=>exact k3.mpr hn
 rw [Bool.eq_iff_iff,decide_eq_true_eq,oI];constructor
 ·intro e;rw [e];exact hu
 ·intro hp;have nd:∀{l:List Int},l.Pairwise (· < ·)->l.Nodup:=fun h=>h.imp fun{a b} z e=>by omega
  refine List.Perm.eq_of_pairwise (le:=(· <= ·)) (fun a b _ _ y z=>by omega) (hp.imp fun z=>by omega) (hu.imp fun z=>by omega) ((List.perm_ext_iff_of_nodup (nd hp) (nd hu)).mpr fun a=> ?_);rw [mem_map];constructor
  ·intro ha;have:=h a ha;refine⟨a.toNat,(hm _).mpr ⟨by omega,?_⟩,by omega⟩;rw [←hS];exact zjV (mem_map_of_mem ha)
  ·rintro⟨n,hn,rfl⟩;have:=(hm n).mp hn;rw [←hS]at this;obtain⟨k,hk,e⟩:=mem_map.mp (of_decide_eq_true this.2);have:=h k hk;rw [show(n:Int)=k by omega];exact hk
theorem xT (D:PleA H p g w cs cl od)(hc:c∈bA pos g):c.1.natAbs<128/\c.2.natAbs<128:=by
 obtain⟨i,j,xs,x,rfl,hx,hj,_⟩:=mem_gridF.mp hc;have h1:=(zjW.mp hx).1;have h2:=(zjW.mp hj).1;have h3:=D.G.len xs (mem_of_getElem? hx);have:=D.g3;have:=D.w4;dsimp only
 omega
theorem uB {H H':Hp}{p t:Addr}{g:bF}{w:Nat}{cs:List Int}{cl:List C3}{od:Int}(D:PleA H p g w cs cl od){L:List Pl}(hL:LandOf g L)(h:SqA H' t L):Dp H' 170 2 (.ref t):=
 A7b h (LandOf.len D.G hL) fun c hc=>xT D (hL.subset hc)
def lT:Sp:=fun vs H Q _=> ∃p v g w cs cl od,vs=[.ref p,v]/\PleA H p g w cs cl od/\Dt H 5000 7 v/\∀H',Same H H'->Q (.bl (eA H g cs cl od v)) H'
section
variable {P:Program}{w:World}{K:W.Frag}{mg:Str->Option Value}{base:Heap}
abbrev zT:List Str:=["_law_thing","_law_least","_law_greatest"]
theorem A6c (F:D1 K mg "_law_number" wL zT)(T:Txt mg):A1 P w K mg base 1 "_law_number" A2j:=by
 refine F.k zT ?_;ac_nf
 ·obtain⟨v,lo,hi,rfl,k,q⟩:=h;refine⟨_,aR (aY (fP (bE fZ rfl T.isinstance boot_isinstance (bC (pv 0) (bC (eO (v:=.ty "int") rfl T.int boot_int rfl) aA)))
   (fP (A0g (bE fZ rfl T.isinstance boot_isinstance (bC (pv 0) (bC (eO (v:=.ty "bool") rfl T.bool boot_bool rfl) aA)))) (fO (nQ iI iI (pv 1) (pv 0) (pv 2)))))),?_⟩
  obtain⟨t,ty,k1,k2,_⟩:=kM (K:=K) k;refine⟨_,rfl,_,"int",t,_,rfl,ty,k1,_,rfl,cF (fun e=> ?_) fun e=> ?_⟩
  ·refine⟨_,rfl,_,"bool",t,_,rfl,ty,k2,_,rfl,_,rfl,cF (fun e2=> ?_) fun e2=> ?_⟩
   ·cases v with
    |int i=>
     refine⟨_,rfl,_,rfl,_,_,rfl,rfl,_,rfl,fI (fun h1=> ?_) fun h1=> ?_⟩
     ·refine⟨_,rfl,_,_,rfl,rfl,?_⟩;have:cS lo hi (.int i)=decide (i<=hi):=by simp [cS,h1]
      rw [this]at q;exact q
     ·have:cS lo hi (.int i)=false:=by simp [cS,h1]
      rw [this]at q;exact q
    |bl b=>cases e2
    |_=>cases e
   ·have:cS lo hi v=false:=by cases v<;>first|rfl|cases e2
    rw [this]at q;exact q
  ·have:cS lo hi v=false:=by cases v<;>first|rfl|cases e
   rw [this]at q;exact q
abbrev nGo:List Str:=["_law_plea_here","_law_thing","_law_one"]
theorem A9g (F:D1 K mg "_law_good" pY ["_law_plea_here","_law_thing"])(T:Txt mg)(T2:dC mg)(TD:TxD mg)(a1:A1 P w K mg base 1 "_law_number" A2j)(a2:A1 P w K mg base 1 "_law_holders" jO)(a3:A1 P w K mg base 5 "_law_field" jZ)(a4:A1 P w K mg base 6 "_law_lacks" oV):A1 P w K mg base 7 "_law_good" lT:=by
 refine F.k nGo ?_;ac_nf
 ·obtain⟨p,v,g,w',cs,cl,od,rfl,D,dt,q⟩:=h;have hg:=hr.gd;have hu:=hr.units;obtain⟨m,c,a,hp,hm,hc,ha⟩:=D.ex;refine⟨_,aU (bR (PW.pt (fS (cE (bN (bE fZ rfl T.isinstance boot_isinstance (aB (pv 1) (aB (eO (v:=.ty "tuple") rfl T.tuple boot_tuple rfl) aA))))) (fS (cB oG (bE dM rfl T.len PySem.boot_len (aB (pv 1) aA)) aM (nomark _)) (fS (cE (bN (bE fZ rfl T.isinstance boot_isinstance (dZ (bJ bW (pv 1) aM (fun _ _=>rfl)) (aB (eO (v:=.ty "tuple") rfl T.tuple boot_tuple rfl) aA))))) (iA (cB (A1t (lt_of_succ_lt (dI hr))) (bJ bW (pv 1) aM (fun _ _=>rfl)) (cD aA) (nomark _))))))) (aR (aY cZ)) bQ)<|
   aU (eG PassesOwn.never rfl (cP (bJ bW (pv 1) aM (fun _ _=>rfl))) (nm1 2 nd)
    (aR (bR (PW.pt (fS (cE (bN (a1.c hr (aB (pv 2) (cN aM (cN aM aA)))))) (iA (cB A4k (pv 2) (a2.c hr (dZ (bJ bW (pv 0) aM (fun _ _=>rfl)) aA)) rfl)))) (aR (aY cZ)) bQ)))<|
   aU (bR (cB (uG 0 (lt_of_succ_lt (dI hr))) (eP nU rfl T2.list boot_list (dZ (bJ bW (pv 1) aM (fun _ _=>rfl)) aA)) (bE (yW rfl) rfl T2.sorted boot_sorted (bV (eP (A9s rfl) rfl T2.set PyProof.Rows.boot_set (dZ (bJ bW (pv 1) aM (fun _ _=>rfl)) aA)) aA)) (nomark _)) (aR (aY cZ)) bQ)<|
   aR (aY (fP (cW fY (bE (pL hg hu) rfl TD.repr oU (dZ (bJ bW (pv 1) aM (fun _ _=>rfl)) aA)) (bE (pL hg hu) rfl TD.repr oU (bV (a3.c hr (aB (pv 0) (dZ (bJ bW (pv 1) aM (fun _ _=>rfl)) aA))) aA)) (nomark _)) (fO (a4.c hr (aB (pv 0) (dZ (bJ bW (pv 1) aM (fun _ _=>rfl)) aA)))))),?_⟩
  have kn:=dt.kn;have ef:∀{r:Bool},eA H g cs cl od v=r->∀H',Same H H'->Q (.bl r) H':=fun e H' s'=>by rw [←e];exact q H' s'
  obtain⟨ty,hty,_,_,k3⟩:=kM (K:=K) (kn 1);refine⟨_,rfl,_,"tuple",ty,_,rfl,hty,k3,_,rfl,cF (fun e=> ?_) fun e=> ?_⟩
  ·refine cV (ef ?_ _ (Same.refl _));unfold eA;cases z:tupOf H v with
   |none=>rfl
   |some xs=>rw [z]at e;cases e
  cases z:tupOf H v with
  |none=>rw [z]at e;cases e
  |some xs=>
  obtain⟨t,rfl,ht⟩:=eZ z;refine⟨_,rfl,t,xs,rfl,.inr (SqT.of ht),rfl,_,rfl,?_⟩;refine cF (fun e2=> ?_) fun e2=> ?_
  ·refine cV (ef ?_ _ (Same.refl _));unfold eA;rw [z]
   match xs,e2 with
   | [],_=>rfl
   | [_],_=>rfl
   | [_,_],e2=>exact absurd e2 (by simp)
   |_::_::_::_,_=>rfl
  obtain⟨x,y,rfl⟩:∃x y,xs=[x,y]:=by
   have h2:xs.length=2:=by
    have:V.int xs.length=V.int 2:=by simpa using e2
    have:=V.int.inj this;omega
   match xs,h2 with
   | [x,y],_=>exact⟨x,y,rfl⟩
  have eV:eA H g cs cl od (.ref t)=(match lotOf H cl x with|some ks=>sqB H y (dF g cs cl od ks)&&gN g cs cl od ks|none=>false):=by unfold eA;rw [z]<;>rfl
  have kx:=((kn 3).items ht).2 x zjR;obtain⟨ty2,hty2,_,_,k32⟩:=kM (K:=K) (kx.le (show 1<=2 by decide));refine⟨_,rfl,t,_,0,x,rfl,rfl,SqT.of ht,rfl,_,"tuple",ty2,_,rfl,hty2,k32,_,rfl,cF (fun e3=> ?_) fun e3=> ?_⟩
  ·refine cV (ef ?_ _ (Same.refl _));rw [eV];have:lotOf H cl x=none:=by
    unfold lotOf;cases zx:tupOf H x with
    |none=>rfl
    |some ys=>rw [zx]at e3;cases e3
   rw [this]
  cases zx:tupOf H x with
  |none=>rw [zx]at e3;cases e3
  |some ys=>
  obtain⟨tx,rfl,htx⟩:=eZ zx;obtain⟨hz,hk⟩:=kx.items htx;have eL:lotOf H cl (.ref tx)=if (!ys.isEmpty&&(ys.all (dL cl)&&upI (intsOf ys)))=true then some (intsOf ys)else none:=by unfold lotOf;rw [zx]
  refine⟨_,rfl,t,_,0,_,rfl,rfl,SqT.of ht,rfl,by show 0<=sizeLine;decide,fun t0 ht0=> ?_⟩;have u0:=aG (o:=.tup []) ht0;refine⟨tx,t0,ys,rfl,rfl,u0 _ _ htx,aD,_,rfl,cF (fun e4=> ?_) fun e4=> ?_⟩
  ·refine ef ?_ _ u0;rw [eV,eL,e4];rfl
  rw [e4]at eL;generalize upd H t0 (.tup [])=H1 at u0⊢;refine⟨_,rfl,t,_,0,_,rfl,rfl,SqT.of (u0 _ _ ht),rfl,tx,rfl,⟨_,SqT.of (u0 _ _ htx)⟩,?_⟩;refine gM (K:=K) (a:=tx) (xs:=ys) (fun i σ H'=>(∃o,σ=[some (.ref p),some (.ref t),o])/\Same H H'/\(ys.take i).all (dL cl)=true) ⟨⟨_,rfl⟩,u0,rfl⟩ (fun i σ H' _ h=>SqT.of (h.2.1 _ _ htx)) ?_ ?_
  ·rintro i v σ H' hv ⟨⟨o,rfl⟩,hs,hall⟩;have hvm:=mem_of_getElem? hv;have hn:=zX D.ck v;have no:dL cl v=false->eA H g cs cl od (.ref t)=false:=fun hf=>by
    have:ys.all (dL cl)=false:=by
     rw [Bool.eq_false_iff];intro hh;rw [all_eq_true.mp hh v hvm]at hf;cases hf
    rw [eV,eL,this];rfl
   show A2x _ _ _ _ [some (.ref p),some (.ref t),some v] H';refine⟨_,rfl,v,0,3,rfl,((hk v hvm).ext hs.ext),_,rfl,cF (fun e5=> ?_) fun e5=> ?_⟩
   ·refine cV (ef (no ?_) _ hs);rw [hn,show cS 0 3 v=false by simpa using e5];rfl
   ·have e5':cS 0 3 v=true:=by simpa using e5
    obtain⟨k,rfl⟩:∃k,v= .int k:=by cases v<;>first|exact⟨_,rfl⟩|cases e5'
    refine⟨_,rfl,_,rfl,p,_,2,_,rfl,rfl,SqT.of (hs _ _ hp),rfl,a,cl,rfl,ha.ext hs.ext,D.ck,fun lh H2 hlh s2 elh=> ?_⟩;have eho:((aX (holdS cl)).map fun k:Nat=>V.int (k:Int))=(hoI cl).map V.int:=by unfold hoI;rw [map_map];rfl
    rw [eho]at elh;refine⟨lh,_,rfl,.inl (SqL.of elh),rfl,tQ _,_,rfl,?_⟩;rw [if_pos rfl,A1i];have hn':dL cl (.int k)=decide (k∈hoI cl):=by rw [hn,e5'];rfl
    refine cF (fun e6=> ?_) fun e6=> ?_
    ·refine ef (no ?_) _ (hs.trans s2);rw [hn'];simpa using e6
    ·refine⟨⟨_,rfl⟩,hs.trans s2,?_⟩;rw [take_succ,hv,List.all_append,hall];show(true&&(dL cl (.int k)&&true))=true;rw [hn',show decide (k∈hoI cl)=true by simpa using e6];rfl
  ·rintro σ H' ⟨⟨o,rfl⟩,hs,hall⟩;rw [take_of_length_le (zjQ _)]at hall;rw [hall]at eL;obtain⟨ex,hks⟩:=nD hall;generalize intsOf ys=ks at ex hks eL;subst ex;have hin:∀k∈ks,0<=k/\k<=3:=fun k hk=>by
    have:=zX D.ck (.int k);have h1:dL cl (.int k)=true:=hks k hk;rw [h1]at this;have:=(Bool.and_eq_true_iff.mp this.symm).1;unfold cS at this;simpa using this
   have h9:ks.length<=1000:=by rw [length_map]at hz;exact hz
   refine⟨_,rfl,t,_,0,_,rfl,rfl,SqT.of (hs _ _ ht),rfl,tx,_,rfl,.inr (SqT.of (hs _ _ htx)),fun l1 hl1=> ?_⟩;have u1:=aG (o:=.lst (ks.map V.int)) hl1;have el1:(upd H' l1 (.lst (ks.map V.int))) l1=some (.lst (ks.map V.int)):=aD;generalize upd H' l1 (.lst (ks.map V.int))=H1 at u1 el1⊢;have s1:=hs.trans u1;have en:(ks.map Int.toNat).map (fun n:Nat=>V.int (n:Int))=ks.map V.int:=by
    rw [map_map];refine map_congr_left fun k hk=> ?_;have:=hin k hk;show V.int ((k.toNat:Nat):Int)=V.int k;rw [show((k.toNat:Nat):Int)=k by omega]
   refine⟨_,rfl,t,_,0,_,rfl,rfl,SqT.of (s1 _ _ ht),rfl,tx,ks.map Int.toNat,rfl,SqT.of (by rw [en];exact s1 _ _ htx),fun n hn=> ?_,fun l2 hl2=> ?_⟩
   ·obtain⟨k,hk,rfl⟩:=mem_map.mp hn;have:=hin k hk;omega
   have u2:=aG (o:=gQ w l2 fun k=>decide (k∈ks.map Int.toNat)) hl2;have el2:(upd H1 l2 (gQ w l2 fun k=>decide (k∈ks.map Int.toNat))) l2=some (gQ w l2 fun k=>decide (k∈ks.map Int.toNat)):=aD;refine⟨l2,_,rfl,el2,fun l3 hl3=> ?_⟩;rw [show(eX CX0 P w K mg base nGo (Str.ofString "_law_good") (bD pY) f cdv A outer s H E).nox.w=w from rfl]at hl3⊢;have hM:=A83 hin;have e3m:((aX fun k=>decide (k∈ks.map Int.toNat)).map fun k:Nat=>V.int (k:Int))=((aX fun k=>decide (k∈ks.map Int.toNat)).map fun k:Nat=>(k:Int)).map V.int:=by rw [map_map];rfl
   rw [e3m];generalize ((aX fun k=>decide (k∈ks.map Int.toNat)).map fun k:Nat=>(k:Int))=ms at hM⊢;have u3:=aG (o:=.lst (ms.map V.int)) hl3;have el3:(upd (upd H1 l2 (gQ w l2 fun k=>decide (k∈ks.map Int.toNat))) l3 (.lst (ms.map V.int))) l3=some (.lst (ms.map V.int)):=aD;have u23:=u2.trans u3;generalize upd (upd H1 l2 (gQ w l2 fun k=>decide (k∈ks.map Int.toNat))) l3 (.lst (ms.map V.int))=H3 at u23 el3⊢;have s3:=s1.trans u23;refine⟨l1,l3,_,_,rfl,rfl,u23 _ _ el1,el3,?_⟩;cases hup:upI ks with
   |false=>
    rw [hup]at hM eL;have no:=ef (show eA H g cs cl od (.ref t)=false by rw [eV,eL];rfl) H3 s3;by_cases hl:ks.length=ms.length
    ·right
     obtain⟨js,j1,j2⟩:=rE (H:=H3) (n:=0) hl;refine⟨js,j1,_,rfl,?_⟩;rw [j2,hM];exact cV no
    ·left
     exact⟨by rw [length_map,length_map];exact hl,_,rfl,cV no⟩
   |true=>
    rw [hup]at hM eL;have eq:=of_decide_eq_true hM
    right
    obtain⟨js,j1,j2⟩:=rE (H:=H3) (n:=0) (congrArg List.length eq);refine⟨js,j1,_,rfl,?_⟩;rw [j2,hM];refine bX ?_;rw [show(if (!false&&(true&&true))=true then some ks else none)=some ks from rfl]at eL;rw [eL]at eV;dsimp only at eV;obtain⟨hnd,hk4⟩:=A17 D.ck hks ((oI ks).mp hup);have dy:=dt.snd z;obtain⟨dd,hdd,gd,dl⟩:=id dy;refine⟨_,rfl,t,_,1,y,rfl,rfl,SqT.of (s3 _ _ ht),rfl,y,dd,rfl,hdd.same s3,⟨gd.mono (by decide) (by decide),dl⟩,?_⟩;refine⟨_,rfl,_,rfl,t,_,0,_,rfl,rfl,SqT.of (s3 _ _ ht),rfl,p,tx,g,w',cs,cl,od,ks,rfl,D.same s3,s3 _ _ htx,fun u H4 hu4 s4 hU=> ?_⟩;obtain⟨du,hdu,gu,du1,du2⟩:=uB D (jJ g cs cl od ks) hU;have edu:=wC hU hdu;subst edu;refine⟨.ref u,_,rfl,hdu,⟨gu.mono (by decide) (by decide),fun _=>du2⟩,rfl,_,rfl,?_⟩;have s04:=s3.trans s4;by_cases eS:dd.shown=(PyData.tuple ((dF g cs cl od ks).map Inj.pr)).shown
    ·rw [zjV (by rw [eS])];refine cV ?_;have:=Inj.shown_inj eS;subst this;rw [oJ (B3k hdd),Bool.true_and]at eV;refine⟨_,rfl,_,rfl,t,_,0,_,rfl,rfl,SqT.of (s04 _ _ ht),rfl,p,tx,g,w',cs,cl,od,ks,rfl,D.same s04,s04 _ _ htx,hnd,fun H5 s5=>ef eV H5 (s04.trans s5)⟩
    ·rw [zjU (fun e=>eS (V.str.inj e))];refine bX (ef ?_ _ s04);have hf:sqB H y (dF g cs cl od ks)=false:=mV fun⟨t',e,h⟩=>by
      subst e;exact eS (by rw [wC h hdd])
     rw [eV,hf,Bool.false_and]
end
end M10
namespace L2
open PySem PySem.Spec PyProof.Rows
section
end
section
theorem vD (hN:X.N.Nodup)(hi:X.N[i]?=some x)(hx:Loc X.env.scope x)(h:PAq X es t)(hs:swapsWith (.List es p1) (some (.Name x pos')) pos.line X.env=pure false:=by rfl)
  (hf:X.fn x=true\/X.env.scope.names.lookup x=some .local:=by first|exact .inl rfl|exact .inr rfl|assumption):PSq X (.Assign [.Name x pos'] (.List es p1) pos) (iE (mL t) (dD i)):=by
 unfold PSq;exact bK hN hi hx (dR (jQ h)) hs hf
theorem dq0:PEq X (.Dict [] [] pos) yM:=by unfold PEq;exact A9o
theorem dq1:PEq X (.Dict [some (.Constant (.int i) n p)] [.Constant (.int j) m q] pos) (yN [(tC (.int i),tC (.int j))]):=by unfold PEq;exact A4u (B3j aM aM A7t) rfl rfl (by simp) (by simp)
theorem xX (he:PEq X (.Dict a b pos) te)(hr:PAq X es t):PAq X (.Dict a b pos::es) (bY te t):=by unfold PEq at he;unfold PAq at*;exact A9v he hr
end
def nw (H H':Hp):Hp:=fun b=>match H b with|none=>H' b|some _=>none
theorem gJ (h:H' a=some o)(hn:H a=none):nw H H' a=some o:=by unfold nw;rw [hn];exact h
theorem sK (h:nw H H' a=some o):H a=none/\H' a=some o:=by
 unfold nw at h;cases e:H a with
 |none=>rw [e]at h;exact⟨rfl,h⟩
 |some u=>rw [e]at h;cases h
theorem B2p (hp:PenAt H p):Same (nw H H') (wo p H'):=fun b o e=>by
 obtain⟨h1,h2⟩:=sK e;exact fF h2 fun z=>by obtain⟨x,f,e'⟩:=hp;rw [z,e']at h1;cases h1
theorem Same.nw (s:Same H1 H2):Same (nw H H1) (nw H H2):=fun b o e=>by
 obtain⟨h1,h2⟩:=sK e;exact gJ (s _ _ h2) h1
theorem Stp.nw (s:Stp p H1 H2)(hp:PenAt H p):Same (nw H H1) (nw H H2):=fun b o e=>by
 obtain⟨h1,h2⟩:=sK e;refine gJ (s.keep _ _ (fun z=> ?_) h2) h1;obtain⟨x,f,e'⟩:=hp;rw [z,e']at h1;cases h1
theorem Same.back (s:Same H H')(h:H' b=none):H b=none:=by
 cases e:H b with
 |none=>rfl
 |some o=>rw [s _ _ e]at h;cases h
theorem Same.put (s:Same H H2)(hd:H d=none):Same H (upd H2 d o):=fun b u e=>by rw [aV (bL e hd)];exact s _ _ e
end L2
namespace L2
theorem Dp.mid (i:Int)(h:i.natAbs<2048):Dp H 11 D (.int i):=Dp.int i (lt_of_lt_of_le h (by decide +kernel)) h (by decide)
end L2
namespace M10
open PySem L2 PyProof.Rows Grd Wlk Cyc Srt Set4
def rB:Sp:=fun vs H Q _=> ∃p,vs=[.ref p]/\PenAt H p/\∀v H',Stp p H H'->Dt (nw H H') 150 3 v->Q v H'
def sO:Sp:=fun vs H Q _=> ∃p lo hi,vs=[.ref p,.int lo,.int hi]/\PenAt H p/\(-2<=lo/\lo<=1000)/\(-2<=hi/\hi<=1000)/\∀v H',Stp p H H'->Dt (wo p H') 150 3 v->Q v H'
section
variable {P:Program}{w:World}{K:W.Frag}{mg:Str->Option Value}{base:Heap}
theorem A5j (F:D1 K mg "_law_odd" A2n ["_law_pen_here","_law_least","_law_greatest"])(a1:A1 P w K mg base 2 "_law_pick" gI):A1 P w K mg base 3 "_law_odd" sO:=by
 refine F.k ["_law_pen_here","_law_least","_law_greatest","_law_far"] ?_;ac_nf
 ·obtain⟨p,lo,hi,rfl,hp,hlo,hhi,q⟩:=h;refine⟨_,uM (vD (i:=3) nd rfl (Or.inl rfl) (dS (pv 1) (dS (pv 2) (eT (bB gU (pv 1) aM) (eT (bB dU (pv 2) aM) (eT (bB pO aM aM) (mM (iQ iG (bB pO aM aM)) (lZ (lZ (A0c (uY (cR (tupq (bI bH)) (fJ (lstq (bI bH)) bH)))))))))))))
   (aR (aY (a1.c hr (aB (pv 0) (aB (pv 3) aA))))),?_⟩
  refine⟨_,rfl,_,rfl,_,rfl,_,_,rfl,rfl,_,rfl,_,_,rfl,rfl,_,_,rfl,rfl,⟨by decide,by decide,by decide⟩,_,_,rfl,rfl,⟨by decide,by decide,by decide⟩,_,rfl,by show 1<=sizeLine;decide,fun t1 ht1=> ⟨by show 1<=sizeLine;decide,fun l1 hl1=> ⟨by show 12<=sizeLine;decide,fun l2 hl2=> ?_⟩⟩⟩;have s1:=aG (o:=.tup [.int 1]) ht1;have s2:=s1.trans (aG (o:=.lst [.int 0]) hl1);have n1:=hp.fresh ht1;have n2:=(hp.same s1).fresh hl1;have f1:(upd (upd H t1 (.tup [.int 1])) l1 (.lst [.int 0])) t1=some (.tup [.int 1]):=aG hl1 _ _ aD;have f2:(upd (upd H t1 (.tup [.int 1])) l1 (.lst [.int 0])) l1=some (.lst [.int 0]):=aD;generalize upd (upd H t1 (.tup [.int 1])) l1 (.lst [.int 0])=HA at s2 f1 f2 hl2⊢;have nB:=(hp.same s2).fresh hl2;have eB:=aG (o:=.lst [.int lo,.int hi,.int (lo - 1),.int (hi+1),.int (10^39),.int (-10^39),.bl true,.bl false,.non,.str "1",.ref t1,.ref l1]) hl2;refine⟨_,rfl,_,rfl,p,l2,_,rfl,(hp.same s2).same eB,nB,aD,by show 1<=12;decide,by show 12<=1000;decide,fun v H' hv st=> ?_⟩;have stA:=((Stp.refl hp).same s2).same eB;refine q v H' (stA.trans st) (Dt.same (H:=wo p HA) ?_ (eB.wo.trans st.wo));simp only [mem_cons,not_mem_nil,or_false]at hv;rcases hv with rfl|rfl|rfl|rfl|rfl|rfl|rfl|rfl|rfl|rfl|rfl|rfl
  ·exact((Dp.mid lo (by omega)).mono (by decide) (by decide:0<=3)).dt
  ·exact((Dp.mid hi (by omega)).mono (by decide) (by decide:0<=3)).dt
  ·exact((Dp.mid (lo - 1) (by omega)).mono (by decide) (by decide:0<=3)).dt
  ·exact((Dp.mid (hi+1) (by omega)).mono (by decide) (by decide:0<=3)).dt
  ·exact((Dp.big (10^39) (by decide +kernel)).mono (by decide) (by decide:0<=3)).dt
  ·exact((Dp.big (-10^39) (by decide +kernel)).mono (by decide) (by decide:0<=3)).dt
  ·exact(Dp.bl true).dt
  ·exact(Dp.bl false).dt
  ·exact Dp.non.dt
  ·exact(Dp.str "1" (by decide +kernel) (by decide)).dt
  ·refine((Dp.tup (n:=7) (D:=0) (m:=1) (fF f1 n1) (fun x hx=> ?_) (zjQ _)).mono (by decide) (by decide)).dt;rw [mem_singleton.mp hx];exact Dp.num 1 (by decide)
  ·refine(Dt.lst (n:=7) (D:=0) (m:=1) (fF f2 n2) (fun x hx=> ?_) (zjQ _)).mono (by decide) (by decide);rw [mem_singleton.mp hx];exact Dp.num 0 (by decide)
theorem B05 {f:Addr}{cdv:Value}{A:Around}{outer:List Env}{s:Shared}{E:XK}{H:Hp}{p:Addr}(hp:PenAt H p):∃t,PSq (eX CX0 P w K mg base ["_law_pen_here","_law_odd_here"] "_law_anything" (bD gY) f cdv A outer s H E).nox ((dA gY).getD 0 (.Pass ⟨0,0,0,0⟩)) t/\
  ∀D:dE,(∀l xs H',Same H H'->H' l=some (.lst xs)->l≠p->1<=xs.length->xs.length<=1000->(∀v∈xs,Dt (nw H H') 150 3 v)->D.nx [some (.ref p),some (.ref l)] H')->t D [some (.ref p),none] H:=by
 have nd:(["_law_pen_here","_law_odd_here"]:List Str).Nodup:=by decide +kernel
 refine⟨_,(vD (i:=1) nd rfl (Or.inl rfl) (A0c (lZ (lZ (uY (uY (cR (tupq bH) (fJ (lstq bH) (xX dq0 (mM (iQ iG aM) (eT (bB pO aM aM) (bI (bI (cR (tupq (bI bH)) (fJ (lstq (bI bH)) (cR (tupq (cR (tupq bH) bH)) (cR (tupq (bI (bI (bI bH)))) (xX dq1 (cR (tupq (bI (bI bH))) bH))))))))))))))))))),fun D hD=> ?_⟩;refine⟨by show 0<=sizeLine;decide,fun t0 ht0=> ⟨by show 0<=sizeLine;decide,fun l0 hl0=>fun d0 hd0=> ?_⟩⟩;have s1:=aG (o:=.tup []) ht0;have s2:=s1.trans (aG (o:=.lst []) hl0);have s3:=s2.trans (aG (o:=.dK []) hd0);generalize hH3:upd (upd (upd H t0 (.tup [])) l0 (.lst [])) d0 (.dK [])=H3 at s3⊢;have f0:H3 t0=some (.tup []):=by rw [←hH3];exact aG hd0 _ _ (aG hl0 _ _ aD)
 have f1:H3 l0=some (.lst []):=by rw [←hH3];exact aG hd0 _ _ aD
 have f2:H3 d0=some (.dK []):=by rw [←hH3];exact aD
 have n0:=ht0;have n1:=s1.back hl0;have n2:=s2.back hd0;clear hH3 ht0 hl0 hd0 s1 s2;refine⟨_,rfl,_,_,rfl,rfl,⟨by decide,by decide,by decide⟩,by show 1<=sizeLine;decide,fun t1 ht1=> ⟨by show 1<=sizeLine;decide,fun l1 hl1=> ⟨by show 0<=sizeLine;decide,fun t2 ht2=> ⟨by show 1<=sizeLine;decide,fun t3 ht3=> ⟨by show 3<=sizeLine;decide,fun t4 ht4=> ?_⟩⟩⟩⟩⟩;have s4:=s3.trans (aG (o:=.tup [.int 0]) ht1);have s5:=s4.trans (aG (o:=.lst [.int 0]) hl1);have s6:=s5.trans (aG (o:=.tup []) ht2);have s7:=s6.trans (aG (o:=.tup [.ref t2]) ht3);have s8:=s7.trans (aG (o:=.tup [.int 0,.int 1,.int 2]) ht4);have n3:=s3.back ht1;have n4:=s4.back hl1;have n5:=s5.back ht2;have n6:=s6.back ht3;have n7:=s7.back ht4;generalize hH8:upd (upd (upd (upd (upd H3 t1 (.tup [.int 0])) l1 (.lst [.int 0])) t2 (.tup [])) t3 (.tup [.ref t2])) t4 (.tup [.int 0,.int 1,.int 2])=H8 at s8⊢;have e38:Same H3 H8:=by rw [←hH8];exact((((aG ht1).trans (aG hl1)).trans (aG ht2)).trans (aG ht3)).trans (aG ht4)
 have f3:H8 t1=some (.tup [.int 0]):=by rw [←hH8];exact aG ht4 _ _ (aG ht3 _ _ (aG ht2 _ _ (aG hl1 _ _ aD)))
 have f4:H8 l1=some (.lst [.int 0]):=by rw [←hH8];exact aG ht4 _ _ (aG ht3 _ _ (aG ht2 _ _ aD))
 have f5:H8 t2=some (.tup []):=by rw [←hH8];exact aG ht4 _ _ (aG ht3 _ _ aD)
 have f6:H8 t3=some (.tup [.ref t2]):=by rw [←hH8];exact aG ht4 _ _ aD
 have f7:H8 t4=some (.tup [.int 0,.int 1,.int 2]):=by rw [←hH8];exact aD
 clear hH8 ht1 hl1 ht2 ht3 ht4 s4 s5 s6 s7;intro d1' hd1;refine⟨aD,[(Sum.inl 0,.int 0)],rfl,by decide,?_⟩;have n8:=s8.back hd1;have e8:Same H8 (upd (upd H8 d1' (.dK [])) d1' (.dK (jL [] [(Sum.inl 0,.int 0)]))):=(aG hd1).put hd1;have f8:(upd (upd H8 d1' (.dK [])) d1' (.dK (jL [] [(Sum.inl 0,.int 0)]))) d1'=some (.dK [(Sum.inl 0,.int 0)]):=aD;generalize upd (upd H8 d1' (.dK [])) d1' (.dK (jL [] [(Sum.inl 0,.int 0)]))=H9 at e8 f8⊢;refine⟨by show 2<=sizeLine;decide,fun t5 ht5=> ⟨by show 18<=sizeLine;decide,fun l2 hl2=> ?_⟩⟩;have e9:=aG (o:=.tup [.int 0,.int 0]) ht5;have f9:(upd H9 t5 (.tup [.int 0,.int 0])) t5=some (.tup [.int 0,.int 0]):=aD;have n9:=(s8.trans e8).back ht5;generalize upd H9 t5 (.tup [.int 0,.int 0])=HA at e9 f9 hl2⊢;have sA:Same H HA:=(s8.trans e8).trans e9;have e8A:Same H8 HA:=e8.trans e9;have eB:=aG (o:=.lst [.non,.bl true,.bl false,.str "",.str "0",.ref t0,.ref l0,.ref d0,.int (-1),.int (10^39),.int 0,.int 7,.ref t1,.ref l1,.ref t3,.ref t4,.ref d1',.ref t5]) hl2;have nB:=(hp.same sA).fresh hl2;have sB:=sA.trans eB;refine hD l2 _ _ sB aD nB (by show 1<=18;decide) (by show 18<=1000;decide) fun v hv=>Dt.same (H:=nw H HA) ?_ eB.nw;have i0:∀x∈([.int 0]:List V),Dp (nw H HA) 7 0 x:=fun x hx=>by rw [mem_singleton.mp hx];exact Dp.num 0 (by decide)
 simp only [mem_cons,not_mem_nil,or_false]at hv;rcases hv with rfl|rfl|rfl|rfl|rfl|rfl|rfl|rfl|rfl|rfl|rfl|rfl|rfl|rfl|rfl|rfl|rfl|rfl
 ·exact Dp.non.dt
 ·exact(Dp.bl true).dt
 ·exact(Dp.bl false).dt
 ·exact(Dp.str "" (by decide +kernel) (by decide)).dt
 ·exact(Dp.str "0" (by decide +kernel) (by decide)).dt
 ·exact((Dp.tup (n:=7) (D:=0) (m:=0) (gJ (e8A _ _ (e38 _ _ f0)) n0) (fun x hx=>by cases hx) (zjQ _)).mono (by decide) (by decide)).dt
 ·exact(Dt.lst (n:=7) (D:=0) (m:=0) (gJ (e8A _ _ (e38 _ _ f1)) n1) (fun x hx=>by cases hx) (zjQ _)).mono (by decide) (by decide)
 ·exact(Dt.dict0 (n:=0) (D:=0) (gJ (e8A _ _ (e38 _ _ f2)) n2)).mono (by decide) (by decide)
 ·exact((Dp.num (-1) (by decide)).mono (by decide) (by decide:0<=3)).dt
 ·exact((Dp.big (10^39) (by decide +kernel)).mono (by decide) (by decide:0<=3)).dt
 ·exact((Dp.num 0 (by decide)).mono (by decide) (by decide:0<=3)).dt
 ·exact((Dp.num 7 (by decide)).mono (by decide) (by decide:0<=3)).dt
 ·exact((Dp.tup (m:=1) (gJ (e8A _ _ f3) n3) i0 (zjQ _)).mono (by decide) (by decide)).dt
 ·exact(Dt.lst (m:=1) (gJ (e8A _ _ f4) n4) i0 (zjQ _)).mono (by decide) (by decide)
 ·refine((Dp.tup (n:=0) (D:=1) (m:=1) (gJ (e8A _ _ f6) n6) (fun x hx=> ?_) (zjQ _)).mono (by decide) (by decide)).dt;rw [mem_singleton.mp hx];exact(Dp.tup (n:=7) (D:=0) (m:=0) (gJ (e8A _ _ f5) n5) (fun x hx=>by cases hx) (zjQ _)).mono (by decide) (by decide)
 ·refine((Dp.tup (n:=7) (D:=0) (m:=3) (gJ (e8A _ _ f7) n7) (fun x hx=> ?_) (zjQ _)).mono (by decide) (by decide)).dt;simp only [mem_cons,not_mem_nil,or_false]at hx;rcases hx with rfl|rfl|rfl<;>exact Dp.num _ (by decide)
 ·exact(Dt.dict1 (D:=0) (gJ (e9 _ _ f8) n8) (zjQ 2)).mono (by decide) (by decide)
 ·refine((Dp.tup (n:=7) (D:=0) (m:=2) (gJ f9 n9) (fun x hx=> ?_) (zjQ _)).mono (by decide) (by decide)).dt;simp only [mem_cons,not_mem_nil,or_false]at hx;rcases hx with rfl|rfl<;>exact Dp.num _ (by decide)
theorem A6u (F:D1 K mg "_law_anything" gY ["_law_pen_here"])(a1:A1 P w K mg base 2 "_law_pick" gI):A1 P w K mg base 3 "_law_anything" rB:=by
 refine F.k ["_law_pen_here","_law_odd_here"] ?_;ac_nf
 ·obtain⟨p,rfl,hp,q⟩:=h;have h2:∃t,PSs (eX CX0 P w K mg base ["_law_pen_here","_law_odd_here"] "_law_anything" (bD gY) f cdv A outer s H E).nox ((dA gY).drop 1) t/\∀l xs H',Same H H'->H' l=some (.lst xs)->l≠p->1<=xs.length->xs.length<=1000->(∀v∈xs,Dt (nw H H') 150 3 v)->
    t {nx:=fun _ H'=>Q .non H',rt:=Q} [some (.ref p),some (.ref l)] H':=by
   refine⟨_,(aR (aY (a1.c hr (aB (pv 0) (aB (pv 1) aA))))),fun l xs H' sH hl hlp h1 hz hx=> ?_⟩;refine⟨_,rfl,_,rfl,p,l,xs,rfl,hp.same sH,hlp,hl,h1,hz,fun v H2 hv st=> ?_⟩;exact q v H2 (((Stp.refl hp).same sH).trans st) ((hx v hv).same (st.nw hp))
  obtain⟨t1,h1,r1⟩:=B05 (P:=P) (w:=w) (K:=K) (mg:=mg) (base:=base) (f:=f) (cdv:=cdv) (A:=A) (outer:=outer) (s:=s) (E:=E) hp;obtain⟨t2,h2,r2⟩:=h2;have eb:dA gY=(dA gY).getD 0 (.Pass ⟨0,0,0,0⟩)::(dA gY).drop 1:=rfl;rw [eb];generalize (dA gY).getD 0 (.Pass ⟨0,0,0,0⟩)=S0 at h1;generalize (dA gY).drop 1=S1 at h2;exact⟨_,uM h1 h2,r1 _ fun l xs H' a b c d e f=>r2 l xs H' a b c d e f⟩
end
end M10
namespace L2
open PySem PySem.Spec PyProof.Rows
def gD (xs:List V):List V:=(List.range xs.length).filterMap fun(k:Nat)=>xs[(((xs.length:Int) - 1)+(k:Int)*(-1)).toNat]?
theorem A22 (h:x∈gD xs):x∈xs:=by obtain⟨k,_,e⟩:=mem_filterMap.mp h;exact mem_of_getElem? e
theorem uP (xs:List V):(gD xs).length<=xs.length:=by have:=List.length_filterMap_le (fun k:Nat=>xs[(((xs.length:Int) - 1)+(k:Int)*(-1)).toNat]?) (List.range xs.length);rw [length_range]at this;exact this
theorem rK (r:Vals xs us)(f:Nat->Nat):∀ks:List Nat,Vals (ks.filterMap fun k=>xs[f k]?) (ks.filterMap fun k=>us[f k]?)
 | []=> .nil
 |k::ks=>by
  rw [filterMap_cons,filterMap_cons];cases e:xs[f k]? with
  |none=>rw [r.none_of e];exact rK r f ks
  |some x=>
   obtain⟨u,hu,ru⟩:=r.get e;rw [hu];exact .cons ru (rK r f ks)
namespace HTr
open HT
section
theorem B0j (n:Nat):Builtin.Slice.slicePlaces ((n:Int) - 1) (-1) (-1)=n:=by
 unfold Builtin.Slice.slicePlaces;rw [if_neg (by decide)];by_cases h:(n:Int) - 1> -1
 ·rw [if_pos h];have:-(-1:Int)=1:=by decide
  rw [this,Int.ediv_one];omega
 ·rw [if_neg h];omega
theorem getItem_tuple_rev (ht:IsTup s.heap t items)(hs:s.heap.IsSliceOf sl .none .none vs)(ps:IsPart vs (some (-1)))
  (h:Q (.ref s.heap.objs.size) {s with heap:=s.heap.push {cls:=.type "tuple",data:=.seq ((List.range items.size).filterMap fun(k:Nat)=>items[(((items.size:Int) - 1)+(k:Int)*(-1)).toNat]?).toArray}})
  (hsz:items.size<=sizeLine):wpAny (model prog w) A (getItem (.ref t) (.ref sl)) Q E s:=by
 have htake:sizeOk (.seq ((List.range items.size).filterMap fun(k:Nat)=>items[(((items.size:Int) - 1)+(k:Int)*(-1)).toNat]?).toArray):=by
  show((List.range items.size).filterMap fun(k:Nat)=>items[(((items.size:Int) - 1)+(k:Int)*(-1)).toNat]?).toArray.size<=sizeLine;rw [size_toArray];have:=List.length_filterMap_le (fun k:Nat=>items[(((items.size:Int) - 1)+(k:Int)*(-1)).toNat]?) (List.range items.size);rw [length_range]at this;omega
 obtain⟨os,hos,hcs,hds⟩:=id hs;have hTs:s.TypeIs (.ref sl) "slice":=⟨os,hos,hcs⟩;unfold getItem
 try with_reducible refine wpAny_holding ?_
 first|refine zjZ (zjY ?_)|skip
 refine zjZ (wpAny_sequenceKey ht.typeIs (by decide) ?_);refine zjZ (wpAny_callSpecial?_slot (name:=Str.ofString "__getitem__") ht.typeIs PyProof.Rows.slot_tuple_getitem
  (wpAny_call_entry PyProof.Rows.slot_tuple_getitem ht.typeIs entry_tuple_getitem ?_ (args_tuple_getitem _ _)))
 show wpAny _ _ (Builtin.Tuple.tupleItemsOf (.ref t)>>=_) _ _ s;refine zjZ (tupleItemsOf_ ht ?_);refine zjZ (wpAny_typeOf hTs ?_);rw [if_pos (by decide)];have happ:∀Q':Int×Int×Nat->Shared->Prop,Q' ((items.size:Int) - 1,-1,items.size) s->wpAny (model prog w) A.in1 (Builtin.Slice.sliceApplied (.ref sl) (pure (items.size:Int))) Q' E s:=fun Q' q'=>by
  unfold Builtin.Slice.sliceApplied Builtin.Slice.sliceFields;refine zjZ (zjZ (wpAny_field hos hds (x:=.none) rfl (zjZ (wpAny_field hos hds (x:=.none) rfl (zjZ (wpAny_field hos hds (x:=vs) rfl (zjY ?_)))))));refine zjZ (rN ps ?_);show wpAny _ _ (if ((-1:Int)==0)=true then _ else _) _ _ s;rw [if_neg (by decide)];refine zjZ (slicePart_none (zjZ (slicePart_none (zjZ (zjY ?_)))));show wpAny _ _ (pure ((items.size:Int) - 1,(-1:Int),Builtin.Slice.slicePlaces ((items.size:Int) - 1) (-1) (-1))) _ _ s;rw [B0j];exact zjY q'
 refine zjZ (happ _ ?_);dsimp only
 rw [show((((items.size:Int) - 1)==0&&(-1:Int)==1&&items.size==items.size))=false by simp];simp only [Bool.false_eq_true,if_false];refine zjZ (wpAny_newObj_type ?_ htake);exact zjY ⟨_,rfl,zjY h⟩
end
end HTr
section
variable {X:Cx}{e st:Expr}{te ts:TE}{pos p2:Pos}
theorem yY (he:PE X e te)(hst:PE X st ts):PE X (.Subscript e (.Slice none none (some st) p2) pos) (fun σ H Q=>te σ H fun x H1=>ts σ H1 fun y H2=>y= .int (-1)/\∃a xs,x= .ref a/\H2 a=some (.tup xs)/\∀p,H2 p=none->Q (.ref p) (upd H2 p (.tup (gD xs)))):=by
 intro pins s σ H Q I h;refine Subscript_ (thn (he pins s σ H _ I h) fun v s1 ⟨x,H1,I1,r1,q1⟩=> ?_);refine wpAny_Slice ?_;rw [evalPart_none];refine zjY ?_;refine zjY ?_;rw [evalPart_some];refine thn (hst pins s1 σ H1 _ I1 q1) fun vs s3 ⟨y,H3,I3,ry,q3⟩=> ?_;obtain⟨rfl,a,xs,rfl,ha,q⟩:=q3;obtain⟨t,rfl⟩:=ry;cases (show v=Value.ref a from r1);have I4:Inv X pins σ H3 {s3 with heap:=s3.heap.push {cls:=.type "slice",data:=.fields #[.none,.none,.int (-1) t]}}:=I3.kept (t':=s3.toks) fun b ob q=>zjX _ q;obtain⟨its,r,ht,hz⟩:=I4.tuple (SqT.of (K:=X.K) ha);have hlen:its.length=xs.length:=r.length.symm;show wpAny (model X.prog X.w) X.A (subscriptTail e (.Slice none none (some st) p2) (.ref a) (.ref s3.heap.objs.size)) (EP X pins σ Q) X.xe {s3 with heap:=s3.heap.push {cls:=.type "slice",data:=.fields #[.none,.none,.int (-1) t]}};refine tail_any (ops:=[.ref a,.ref s3.heap.objs.size]) ht.typeIs PyProof.Rows.slot_tuple_getitem.lookup ?_ (by with_unfolding_all rfl);refine HTr.getItem_tuple_rev (vs:=.int (-1) t) ht (Heap.IsSliceOf.new ..) (.int _ t) ?_ (by rw [size_toArray,hlen];exact hz);have e:((List.range its.toArray.size).filterMap fun(k:Nat)=>its.toArray[(((its.toArray.size:Int) - 1)+(k:Int)*(-1)).toNat]?)=(List.range xs.length).filterMap fun(k:Nat)=>its[(((xs.length:Int) - 1)+(k:Int)*(-1)).toNat]?:=by
  rw [size_toArray,hlen];simp only [List.getElem?_toArray]
 rw [e];refine⟨.ref _,_,I4.laid (t':=s3.toks) (o:=.tup (gD xs)) (fun b ob q=>zjX _ q) (zjQ _) ⟨le_trans (uP xs) hz,_,?_,IsTup.new _ _⟩,rfl,q _ (I4.hok.fresh (zjQ _))⟩;exact rK r (fun k=>(((xs.length:Int) - 1)+(k:Int)*(-1)).toNat) _
end
end L2
namespace L2
open PySem
theorem nE (ho:OpR X (binaryOp op) R)(ha:PE X a ta)(hb:PEq X b tb):PE X (.BinOp a op b pos) (tOp R ta tb):=by unfold PEq at hb;exact bB ho ha hb
theorem iL (h:x∈cC xs lo hi):x∈xs:=List.mem_of_mem_drop (mem_of_mem_take h)
end L2
namespace M10
open PySem L2 PyProof.Rows Grd Wlk Cyc Srt Set4
structure OtA (p:Addr)(H:Hp)(tl tm:Addr)(ks:List Int)(ps:List Addr)(L:List Pl):Prop where
 pen:PenAt H p
 lot:H tl=some (.tup (ks.map V.int))
 k4:ks.length<=4
 ksm:∀k∈ks,k.natAbs<128
 met:H tm=some (.tup (ps.map V.ref))
 pl:PlAt H ps L
 l10:L.length<=10
 lsm:∀c∈L,c.1.natAbs<128/\c.2.natAbs<128
theorem gA (h:PenAt H p)(e:H c=some (.tup xs)):c≠p:=h.ne e (by intro z;simp)
section
variable {p tl tm:Addr}{H:Hp}{ks:List Int}{ps:List Addr}{L:List Pl}
theorem OtA.stp {H':Hp}(h:OtA p H tl tm ks ps L)(s:Stp p H H'):OtA p H' tl tm ks ps L:=
 ⟨s.pen,s.keep _ _ (gA h.pen h.lot) h.lot,h.k4,h.ksm,s.keep _ _ (gA h.pen h.met) h.met,Paired.mapP h.pl fun _ _ e=>s.keep _ _ (gA h.pen e) e,h.l10,h.lsm⟩
theorem OtA.same {H':Hp}(h:OtA p H tl tm ks ps L)(s:Same H H'):OtA p H' tl tm ks ps L:=h.stp ((Stp.refl h.pen).same s)
theorem OtA.dl (h:OtA p H tl tm ks ps L):∀x∈ks.map V.int,Dp (wo p H) 16 1 x:=fun x hx=>by
 obtain⟨k,hk,rfl⟩:=mem_map.mp hx;exact(Dp.num (D:=1) k (h.ksm k hk)).mono (by decide) (by decide)
theorem OtA.dm (h:OtA p H tl tm ks ps L):∀x∈ps.map V.ref,Dp (wo p H) 16 1 x:=fun x hx=>by
 obtain⟨q,hq,rfl⟩:=mem_map.mp hx;obtain⟨i,hi⟩:=mem_iff_getElem?.mp hq;obtain⟨c,hc,he⟩:=h.pl.at hi;have:=h.lsm c (mem_of_getElem? hc);refine Dp.tup (n:=7) (D:=0) (m:=2) (fF he (gA h.pen he)) (fun y hy=> ?_) (zjQ _);simp only [mem_cons,not_mem_nil,or_false]at hy;rcases hy with rfl|rfl
 ·exact Dp.num _ this.1
 ·exact Dp.num _ this.2
theorem OtA.len (h:OtA p H tl tm ks ps L):(ks.map V.int).length<=4/\(ps.map V.ref).length<=10:=by have:ps.length=L.length:=Paired.length h.pl;rw [length_map,length_map];exact⟨h.k4,by have:=h.l10;omega⟩
theorem OtA.part (h:OtA p H tl tm ks ps L){c:Addr}{xs:List V}(e:H c=some (.tup xs))(hx:∀x∈xs,Dp (wo p H) 16 1 x)(hz:xs.length<=20):Dp (wo p H) 400 2 (.ref c):=
 (Dp.tup (n:=16) (D:=1) (m:=20) (fF e (gA h.pen e)) hx hz).mono (by decide) (by decide)
theorem OtA.lotD (h:OtA p H tl tm ks ps L):Dp (wo p H) 400 2 (.ref tl):=h.part h.lot h.dl (by have:=h.len;omega)
theorem OtA.metD (h:OtA p H tl tm ks ps L):Dp (wo p H) 400 2 (.ref tm):=h.part h.met h.dm (by have:=h.len;omega)
theorem OtA.two (h:OtA p H tl tm ks ps L){c:Addr}{a b:V}(e:H c=some (.tup [a,b]))(ha:Dp (wo p H) 400 2 a)(hb:Dp (wo p H) 400 2 b):Dt (wo p H) 5000 7 (.ref c):=by
 refine((Dp.tup (n:=400) (D:=2) (m:=2) (fF e (gA h.pen e)) (fun x hx=> ?_) (zjQ _)).mono (by decide) (by decide)).dt;simp only [mem_cons,not_mem_nil,or_false]at hx;rcases hx with rfl|rfl
 ·exact ha
 ·exact hb
end
section
variable {P:Program}{w:World}{K:W.Frag}{mg:Str->Option Value}{base:Heap}
abbrev nOt:List Str:=["_law_pen_here","_law_lot","_law_met","_law_at","_law_spot","_law_some"]
theorem scOt:jD nOt ["_law_pen_here","_law_lot","_law_met"] (bD iJ):=by ac_rfl
abbrev oX (P:Program)(w:World)(K:W.Frag)(mg:Str->Option Value)(base:Heap)(f:Addr)(cdv:Value)(A:Around)(outer:List Env)(s:Shared)(H0:Hp)(E:XK):Cx:=(eX CX0 P w K mg base nOt "_law_other" (bD iJ) f cdv A outer s H0 E).nox
abbrev oS (i:Nat):Stmt:=(dA iJ).getD i (.Pass ⟨0,0,0,0⟩)
variable {f:Addr}{cdv:Value}{A:Around}{outer:List Env}{s:Shared}{H0:Hp}{E:XK}
theorem A5w:∃t,PSq (oX P w K mg base f cdv A outer s H0 E) (oS 1) t/\∀(p tl tm:Addr)(ks:List Int)(ps:List Addr)(L:List Pl)(i j:Int)(o:Option V)(H:Hp)(D:dE),OtA p H tl tm ks ps L->
  (∀l vs H',Same H H'->H' l=some (.lst vs)->vs.length=3->l≠p->(∀v∈vs,Dt (wo p H') 5000 7 v)->D.nx [some (.ref p),some (.ref tl),some (.ref tm),some (.int i),some (.int j),some (.ref l)] H')->
  t D [some (.ref p),some (.ref tl),some (.ref tm),some (.int i),some (.int j),o] H:=by
 have nd:=scOt.nd;refine⟨_,vD (i:=5) nd rfl (Or.inl rfl) (cR (tupq (eT (bB gG (eQ gF (pv 1) fD (eJ (pv 3))) (eQ gF (pv 1) (eJ (bB dU (pv 3) aM)) fD)) (dS (pv 2) bH))) (cR (tupq (dS (pv 1) (eT (bB gG (eQ gF (pv 2) fD (eJ (pv 4))) (eQ gF (pv 2) (eJ (bB dU (pv 4) aM)) fD)) bH))) (cR (tupq (eT (bB gG (yY (pv 1) (iQ iG aM)) (eQ gF (pv 1) fD (eJ aM))) (dS (pv 2) bH))) bH))),?_⟩;intro p tl tm ks ps L i j o H D h hD;have hl:=h.len;have cl:=fun(xs:List V) lo hi=>nC xs lo hi;refine⟨_,rfl,_,rfl,_,rfl,tl,_,rfl,h.lot,fun c1 H1 s1 e1=> ?_⟩;refine⟨_,rfl,_,rfl,_,_,rfl,rfl,_,rfl,tl,_,rfl,s1 _ _ h.lot,fun c2 H2 s2 e2=> ?_⟩;have s12:=s1.trans s2;refine⟨c1,c2,_,_,rfl,rfl,s2 _ _ e1,e2,by have:=cl (ks.map V.int) none (some i);have:=cl (ks.map V.int) (some (i+1)) none;rw [sizeLine_eq];omega,fun c3 H3 s3 e3=> ?_⟩;have h3:=h.same (s12.trans s3);refine⟨_,rfl,by show 2<=sizeLine;decide,fun t1 ht1=> ?_⟩;have u1:=aG (o:=.tup [.ref c3,.ref tm]) ht1;have f1:(upd H3 t1 (.tup [.ref c3,.ref tm])) t1=some (.tup [.ref c3,.ref tm]):=aD;generalize upd H3 t1 (.tup [.ref c3,.ref tm])=H4 at u1 f1⊢;have h4:=h3.same u1;have d1:Dt (wo p H4) 5000 7 (.ref t1):=h4.two f1 (h4.part (u1 _ _ e3) (fun x hx=>by
  rcases mem_append.mp hx with y|y
  ·exact h4.dl x (iL y)
  ·exact h4.dl x (iL y)) (by have:=cl (ks.map V.int) none (some i);have:=cl (ks.map V.int) (some (i+1)) none;rw [length_append];omega)) h4.metD
 have s04:=(s12.trans s3).trans u1;clear e1 e2 e3 s1 s2 s3 s12 u1 h3;refine⟨_,rfl,_,rfl,_,rfl,_,rfl,tm,_,rfl,h4.met,fun c5 H5 s5 e5=> ?_⟩;refine⟨_,rfl,_,rfl,_,_,rfl,rfl,_,rfl,tm,_,rfl,s5 _ _ h4.met,fun c6 H6 s6 e6=> ?_⟩;refine⟨c5,c6,_,_,rfl,rfl,s6 _ _ e5,e6,by have:=cl (ps.map V.ref) none (some j);have:=cl (ps.map V.ref) (some (j+1)) none;rw [sizeLine_eq];omega,fun c7 H7 s7 e7=> ?_⟩;refine⟨by show 2<=sizeLine;decide,fun t2 ht2=> ?_⟩;have s47:=(s5.trans s6).trans s7;have u2:=aG (o:=.tup [.ref tl,.ref c7]) ht2;have f2:(upd H7 t2 (.tup [.ref tl,.ref c7])) t2=some (.tup [.ref tl,.ref c7]):=aD;generalize upd H7 t2 (.tup [.ref tl,.ref c7])=H8 at u2 f2⊢;have s48:=s47.trans u2;have h8:=h4.same s48;have d1':=d1.same s48.wo;have d2:Dt (wo p H8) 5000 7 (.ref t2):=h8.two f2 h8.lotD (h8.part (u2 _ _ e7) (fun x hx=>by
  rcases mem_append.mp hx with y|y
  ·exact h8.dm x (iL y)
  ·exact h8.dm x (iL y)) (by have:=cl (ps.map V.ref) none (some j);have:=cl (ps.map V.ref) (some (j+1)) none;rw [length_append];omega))
 have s08:=s04.trans s48;clear e5 e6 e7 s5 s6 s7 s47 u2 d1 s48 s04 h4;refine⟨_,rfl,_,rfl,rfl,tl,_,rfl,h8.lot,fun c9 hc9=> ?_⟩;have u3:=aG (o:=.tup (gD (ks.map V.int))) hc9;have f3:(upd H8 c9 (.tup (gD (ks.map V.int)))) c9=some (.tup (gD (ks.map V.int))):=aD;generalize upd H8 c9 (.tup (gD (ks.map V.int)))=H9 at u3 f3⊢;refine⟨_,rfl,_,rfl,tl,_,rfl,u3 _ _ h8.lot,fun c10 H10 s10 e10=> ?_⟩;have lr:=uP (ks.map V.int);have lc:=cl (ks.map V.int) none (some 1);refine⟨c9,c10,_,_,rfl,rfl,s10 _ _ f3,e10,by rw [sizeLine_eq];omega,fun c11 H11 s11 e11=> ?_⟩;refine⟨_,rfl,by show 2<=sizeLine;decide,fun t3 ht3=> ?_⟩;have u4:=aG (o:=.tup [.ref c11,.ref tm]) ht3;have f4:(upd H11 t3 (.tup [.ref c11,.ref tm])) t3=some (.tup [.ref c11,.ref tm]):=aD;generalize upd H11 t3 (.tup [.ref c11,.ref tm])=H12 at u4 f4⊢;have s8b:=((u3.trans s10).trans s11).trans u4;have hb:=h8.same s8b;have d3:Dt (wo p H12) 5000 7 (.ref t3):=hb.two f4 (hb.part (u4 _ _ e11) (fun x hx=>by
  rcases mem_append.mp hx with y|y
  ·exact hb.dl x (A22 y)
  ·exact hb.dl x (iL y)) (by rw [length_append];omega)) hb.metD
 refine⟨by show 3<=sizeLine;decide,fun l hl'=> ?_⟩;have u5:=aG (o:=.lst [.ref t1,.ref t2,.ref t3]) hl';refine hD l _ _ ((s08.trans s8b).trans u5) aD rfl (hb.pen.fresh hl') fun v hv=> ?_;simp only [mem_cons,not_mem_nil,or_false]at hv;rcases hv with rfl|rfl|rfl
 ·exact(d1'.same s8b.wo).same u5.wo
 ·exact(d2.same s8b.wo).same u5.wo
 ·exact d3.same u5.wo
end
theorem OtA.mid1 {p tl tm:Addr}{H:Hp}{ks:List Int}{ps:List Addr}{L:List Pl}(h:OtA p H tl tm ks ps L){c:Addr}{a b:V}(e:H c=some (.tup [a,b]))(ha:Dt (wo p H) 900 4 a)(hb:Dp (wo p H) 400 2 b):Dt (wo p H) 5000 7 (.ref c):=by refine(Dt.mid (n:=400) (k:=900) (D:=4) (m:=1) (xs:=[]) (ys:=[b]) (fF e (gA h.pen e)) (fun x hx=>absurd hx not_mem_nil) ha (fun x hx=> ?_) (zjQ _)).mono (by decide) (by decide);rw [mem_singleton.mp hx];exact hb.mono (by decide) (by decide)
theorem OtA.mid2 {p tl tm:Addr}{H:Hp}{ks:List Int}{ps:List Addr}{L:List Pl}(h:OtA p H tl tm ks ps L){c:Addr}{a b:V}(e:H c=some (.tup [a,b]))(ha:Dp (wo p H) 400 2 a)(hb:Dt (wo p H) 900 4 b):Dt (wo p H) 5000 7 (.ref c):=by refine(Dt.mid (n:=400) (k:=900) (D:=4) (m:=1) (xs:=[a]) (ys:=[]) (fF e (gA h.pen e)) (fun x hx=> ?_) hb (fun x hx=>absurd hx not_mem_nil) (zjQ _)).mono (by decide) (by decide);rw [mem_singleton.mp hx];exact ha.mono (by decide) (by decide)
section
variable {P:Program}{w:World}{K:W.Frag}{mg:Str->Option Value}{base:Heap}
variable {f:Addr}{cdv:Value}{A:Around}{outer:List Env}{s:Shared}{H0:Hp}{E:XK}
theorem B1b (a3:A1 P w K mg base 3 "_law_odd" sO)(hr:Room 3 (oX P w K mg base f cdv A outer s H0 E).A):∃t,PS (oX P w K mg base f cdv A outer s H0 E) (oS 2) t/\∀(p tl tm l:Addr)(ks:List Int)(ps:List Addr)(L:List Pl)(vs:List V)(i j:Int)(H:Hp)(D:dE),OtA p H tl tm ks ps L->H l=some (.lst vs)->vs.length=3->l≠p->(∀v∈vs,Dt (wo p H) 5000 7 v)->
  (∀l vs H',Stp p H H'->H' l=some (.lst vs)->vs.length=6->l≠p->(∀v∈vs,Dt (wo p H') 5000 7 v)->D.nx [some (.ref p),some (.ref tl),some (.ref tm),some (.int i),some (.int j),some (.ref l)] H')->
  t D [some (.ref p),some (.ref tl),some (.ref tm),some (.int i),some (.int j),some (.ref l)] H:=by
 have nd:=scOt.nd;refine⟨_,bK (i:=5) nd rfl (Or.inl rfl) (nE gX (pv 5) (lstq (cR (tupq (dS (pv 1) (eT (bB gG (yY (pv 2) (iQ iG aM)) (eQ gF (pv 2) fD (eJ aM))) bH))) (cR (tupq (eT (bB gG (bB gG (eQ gF (pv 1) fD (eJ (pv 3))) (cD (bV (a3.c hr (aB (pv 0) (cN aM (cN aM aA)))) aA))) (eQ gF (pv 1) (eJ (pv 3)) fD)) (dS (pv 2) bH))) (fJ (lstq (dS (pv 1) (dS (pv 2) bH))) bH))))),?_⟩;intro p tl tm l ks ps L vs i j H D h hl h3 hlp hv hD;have hn:=h.len;have cl:=fun(xs:List V) lo hi=>nC xs lo hi;refine⟨_,rfl,_,rfl,_,rfl,_,rfl,rfl,tm,_,rfl,h.met,fun c1 hc1=> ?_⟩;have u1:=aG (o:=.tup (gD (ps.map V.ref))) hc1;have f1:(upd H c1 (.tup (gD (ps.map V.ref)))) c1=some (.tup (gD (ps.map V.ref))):=aD;generalize upd H c1 (.tup (gD (ps.map V.ref)))=H1 at u1 f1⊢;refine⟨_,rfl,_,rfl,tm,_,rfl,u1 _ _ h.met,fun c2 H2 s2 e2=> ?_⟩;have lr:=uP (ps.map V.ref);have lc:=cl (ps.map V.ref) none (some 1);refine⟨c1,c2,_,_,rfl,rfl,s2 _ _ f1,e2,by rw [sizeLine_eq];omega,fun c3 H3 s3 e3=> ?_⟩;refine⟨by show 2<=sizeLine;decide,fun t1 ht1=> ?_⟩;have u2:=aG (o:=.tup [.ref tl,.ref c3]) ht1;have f2:(upd H3 t1 (.tup [.ref tl,.ref c3])) t1=some (.tup [.ref tl,.ref c3]):=aD;generalize upd H3 t1 (.tup [.ref tl,.ref c3])=H4 at u2 f2⊢;have s04:=((u1.trans s2).trans s3).trans u2;have h4:=h.same s04;have d1:Dt (wo p H4) 5000 7 (.ref t1):=h4.two f2 h4.lotD (h4.part (u2 _ _ e3) (fun x hx=>by
  rcases mem_append.mp hx with y|y
  ·exact h4.dm x (A22 y)
  ·exact h4.dm x (iL y)) (by rw [length_append];omega))
 clear f1 e2 e3 u1 s2 s3 u2;refine⟨_,rfl,_,rfl,_,rfl,tl,_,rfl,h4.lot,fun c5 H5 s5 e5=> ?_⟩;have h5:=h4.same s5;refine⟨_,rfl,p,0,3,rfl,h5.pen,by decide,by decide,fun v H6 st6 dv=> ?_⟩;refine⟨by show 1<=sizeLine;decide,fun t2 ht2=> ?_⟩;have u6:=aG (o:=.tup [v]) ht2;have f6:(upd H6 t2 (.tup [v])) t2=some (.tup [v]):=aD;generalize upd H6 t2 (.tup [v])=H7 at u6 f6⊢;have st7:=st6.same u6;have l1:=cl (ks.map V.int) none (some i);have l2:=cl (ks.map V.int) (some i) none;have e5':=st7.keep _ _ (gA h5.pen e5) e5;refine⟨c5,t2,_,_,rfl,rfl,e5',f6,by rw [sizeLine_eq];show _+1<=_;omega,fun c7 H8 s8 e8=> ?_⟩;have h7:=h5.stp st7;refine⟨_,rfl,_,rfl,_,rfl,tl,_,rfl,(h7.same s8).lot,fun c9 H9 s9 e9=> ?_⟩;refine⟨c7,c9,_,_,rfl,rfl,s9 _ _ e8,e9,by rw [sizeLine_eq,length_append];show _+1+_<=_;omega,fun c10 H10 s10 e10=> ?_⟩;refine⟨_,rfl,by show 2<=sizeLine;decide,fun t3 ht3=> ?_⟩;have u10:=aG (o:=.tup [.ref c10,.ref tm]) ht3;have f10:(upd H10 t3 (.tup [.ref c10,.ref tm])) t3=some (.tup [.ref c10,.ref tm]):=aD;generalize upd H10 t3 (.tup [.ref c10,.ref tm])=H11 at u10 f10⊢;have s7b:=((s8.trans s9).trans s10).trans u10;have hb:=h7.same s7b;have d2:Dt (wo p H11) 5000 7 (.ref t3):=by
  refine hb.mid1 f10 ?_ hb.metD;have e10':H11 c10=some (.tup (cC (ks.map V.int) none (some i)++v::cC (ks.map V.int) (some i) none)):=by rw [u10 _ _ e10,append_assoc];rfl
  refine(Dt.mid (n:=16) (k:=150) (D:=3) (m:=8) (fF e10' (gA hb.pen e10')) (fun x hx=>(hb.dl x (iL hx)).mono (by decide) (by decide)) ((dv.same u6.wo).same s7b.wo) (fun x hx=>(hb.dl x (iL hx)).mono (by decide) (by decide)) (by omega)).mono (by decide) (by decide)
 have st4b:=((Stp.refl h4.pen).same s5).trans (st7.same s7b);have d1':=d1.same st4b.wo;have st0b:=((Stp.refl h.pen).same s04).trans st4b;clear e5 e5' e8 e9 e10 f6 u6 s8 s9 s10 u10 s7b st7 st6 s5 dv d1 st4b s04;refine⟨_,rfl,_,rfl,by show 2<=sizeLine;decide,fun l3 hl3=> ?_⟩;have u11:=aG (o:=.lst [.ref tl,.ref tm]) hl3;have f11:(upd H11 l3 (.lst [.ref tl,.ref tm])) l3=some (.lst [.ref tl,.ref tm]):=aD;have n3:=hb.pen.fresh hl3;generalize upd H11 l3 (.lst [.ref tl,.ref tm])=H12 at u11 f11⊢;have hc:=hb.same u11;have d3:Dt (wo p H12) 5000 7 (.ref l3):=(Dt.lst (n:=400) (D:=2) (m:=2) (fF f11 n3) (fun x hx=>by
  simp only [mem_cons,not_mem_nil,or_false]at hx;rcases hx with rfl|rfl
  ·exact hc.lotD
  ·exact hc.metD) (zjQ _)).mono (by decide) (by decide)
 refine⟨by show 3<=sizeLine;decide,fun l4 hl4=> ?_⟩;have u12:=aG (o:=.lst [.ref t1,.ref t3,.ref l3]) hl4;have st:=(st0b.same u11).same u12;refine⟨l,l4,_,_,rfl,rfl,st.keep _ _ hlp hl,aD,by rw [h3];show 3+3<=sizeLine;decide,fun la hla=> ?_⟩;have ua:=aG (o:=.lst (vs++[.ref t1,.ref t3,.ref l3])) hla;have st':=st.same ua;refine hD la _ _ st' aD (by rw [length_append,h3];rfl) (st.pen.fresh hla) fun x hx=> ?_;rcases mem_append.mp hx with hx|hx
 ·exact(hv x hx).same st'.wo
 ·simp only [mem_cons,not_mem_nil,or_false]at hx;have sw:=(u12.trans ua).wo (p:=p);rcases hx with rfl|rfl|rfl
  ·exact(d1'.same u11.wo).same sw
  ·exact(d2.same u11.wo).same sw
  ·exact d3.same sw
end
def nW:Sp:=fun vs H Q _=> ∃p tl tm ks ps L,vs=[.ref p,.ref tl,.ref tm]/\OtA p H tl tm ks ps L/\∀v H',Stp p H H'->Dt (wo p H') 5000 7 v->Q v H'
section
variable {P:Program}{w:World}{K:W.Frag}{mg:Str->Option Value}{base:Heap}
variable {f:Addr}{cdv:Value}{A:Around}{outer:List Env}{s:Shared}{H0:Hp}{E:XK}
theorem B0d (T2:dC mg):∃t,PS (oX P w K mg base f cdv A outer s H0 E) (oS 3) t/\∀(p tl tm l:Addr)(ks:List Int)(ps:List Addr)(L:List Pl)(vs:List V)(i j:Int)(H:Hp)(D:dE),OtA p H tl tm ks ps L->H l=some (.lst vs)->vs.length=6->l≠p->(∀v∈vs,Dt (wo p H) 5000 7 v)->
  (∀l vs H',Same H H'->H' l=some (.lst vs)->vs.length=11->l≠p->(∀v∈vs,Dt (wo p H') 5000 7 v)->D.nx [some (.ref p),some (.ref tl),some (.ref tm),some (.int i),some (.int j),some (.ref l)] H')->
  t D [some (.ref p),some (.ref tl),some (.ref tm),some (.int i),some (.int j),some (.ref l)] H:=by
 have nd:=scOt.nd;refine⟨_,bK (i:=5) nd rfl (Or.inl rfl) (nE gX (pv 5) (lstq (cR (tupq (mK (eP nU rfl T2.list boot_list (aB (pv 1) aA)) (dS (pv 2) bH))) (cR (tupq (dS (pv 1) (mK (eP nU rfl T2.list boot_list (aB (pv 2) aA)) bH))) (cR (tupq (dS (pv 1) bH)) (cR (tupq (dS (pv 1) (dS (pv 2) (bI bH)))) (cR (tupq (dS (pv 1) (eT (nE gG (pv 2) (tupq (cR (tupq (bI (lZ bH))) bH))) bH))) bH))))))),?_⟩;intro p tl tm l ks ps L vs i j H D h hl h6 hlp hv hD;have hn:=h.len;refine⟨_,rfl,_,rfl,tl,_,rfl,.inr (SqT.of h.lot),fun l1 hl1=> ?_⟩;have u1:=aG (o:=.lst (ks.map V.int)) hl1;have f1:(upd H l1 (.lst (ks.map V.int))) l1=some (.lst (ks.map V.int)):=aD;have n1:=h.pen.fresh hl1;generalize upd H l1 (.lst (ks.map V.int))=H1 at u1 f1⊢;refine⟨_,rfl,by show 2<=sizeLine;decide,fun t1 ht1=> ?_⟩;have u2:=aG (o:=.tup [.ref l1,.ref tm]) ht1;have f2:(upd H1 t1 (.tup [.ref l1,.ref tm])) t1=some (.tup [.ref l1,.ref tm]):=aD;generalize upd H1 t1 (.tup [.ref l1,.ref tm])=H2 at u2 f2⊢;have s02:=u1.trans u2;have h2:=h.same s02;have d1:Dt (wo p H2) 5000 7 (.ref t1):=h2.mid1 f2 ((Dt.lst (n:=16) (D:=1) (m:=4) (fF (u2 _ _ f1) n1) h2.dl hn.1).mono (by decide) (by decide)) h2.metD;refine⟨_,rfl,_,rfl,tm,_,rfl,.inr (SqT.of h2.met),fun l2 hl2=> ?_⟩;have u3:=aG (o:=.lst (ps.map V.ref)) hl2;have f3:(upd H2 l2 (.lst (ps.map V.ref))) l2=some (.lst (ps.map V.ref)):=aD;have n2:=h2.pen.fresh hl2;generalize upd H2 l2 (.lst (ps.map V.ref))=H3 at u3 f3⊢;refine⟨by show 2<=sizeLine;decide,fun t2 ht2=> ?_⟩;have u4:=aG (o:=.tup [.ref tl,.ref l2]) ht2;have f4:(upd H3 t2 (.tup [.ref tl,.ref l2])) t2=some (.tup [.ref tl,.ref l2]):=aD;generalize upd H3 t2 (.tup [.ref tl,.ref l2])=H4 at u4 f4⊢;have s24:=u3.trans u4;have h4:=h2.same s24;have d2:Dt (wo p H4) 5000 7 (.ref t2):=h4.mid2 f4 h4.lotD ((Dt.lst (n:=16) (D:=1) (m:=10) (fF (u4 _ _ f3) n2) h4.dm hn.2).mono (by decide) (by decide));refine⟨_,rfl,by show 1<=sizeLine;decide,fun t3 ht3=> ?_⟩;have u5:=aG (o:=.tup [.ref tl]) ht3;have f5:(upd H4 t3 (.tup [.ref tl])) t3=some (.tup [.ref tl]):=aD;generalize upd H4 t3 (.tup [.ref tl])=H5 at u5 f5⊢;have h5:=h4.same u5;have d3:Dt (wo p H5) 5000 7 (.ref t3):=((Dp.tup (n:=400) (D:=2) (m:=1) (fF f5 (gA h5.pen f5)) (fun x hx=>by rw [mem_singleton.mp hx];exact h5.lotD) (zjQ _)).mono (by decide) (by decide)).dt;refine⟨_,rfl,_,rfl,by show 3<=sizeLine;decide,fun t4 ht4=> ?_⟩;have u6:=aG (o:=.tup [.ref tl,.ref tm,.int 0]) ht4;have f6:(upd H5 t4 (.tup [.ref tl,.ref tm,.int 0])) t4=some (.tup [.ref tl,.ref tm,.int 0]):=aD;generalize upd H5 t4 (.tup [.ref tl,.ref tm,.int 0])=H6 at u6 f6⊢;have h6':=h5.same u6;have d4:Dt (wo p H6) 5000 7 (.ref t4):=((Dp.tup (n:=400) (D:=2) (m:=3) (fF f6 (gA h6'.pen f6)) (fun x hx=>by
  simp only [mem_cons,not_mem_nil,or_false]at hx;rcases hx with rfl|rfl|rfl
  ·exact h6'.lotD
  ·exact h6'.metD
  ·exact(Dp.num (D:=2) 0 (by decide)).mono (by decide) (by decide)) (zjQ _)).mono (by decide) (by decide)).dt
 refine⟨_,rfl,_,rfl,by show 2<=sizeLine;decide,fun t5 ht5=> ⟨by show 1<=sizeLine;decide,fun t6 ht6=> ?_⟩⟩;have u7:=aG (o:=.tup [.int 0,.bl true]) ht5;have u8:=aG (o:=.tup [.ref t5]) ht6;have f7:(upd (upd H6 t5 (.tup [.int 0,.bl true])) t6 (.tup [.ref t5])) t5=some (.tup [.int 0,.bl true]):=u8 _ _ aD;have f8:(upd (upd H6 t5 (.tup [.int 0,.bl true])) t6 (.tup [.ref t5])) t6=some (.tup [.ref t5]):=aD;have s68:=u7.trans u8;generalize upd (upd H6 t5 (.tup [.int 0,.bl true])) t6 (.tup [.ref t5])=H8 at s68 f7 f8⊢;have h8:=h6'.same s68;refine⟨tm,t6,_,_,rfl,rfl,h8.met,f8,by rw [sizeLine_eq];show _+1<=_;omega,fun c9 H9 s9 e9=> ?_⟩;refine⟨by show 2<=sizeLine;decide,fun t7 ht7=> ?_⟩;have u9:=aG (o:=.tup [.ref tl,.ref c9]) ht7;have f9:(upd H9 t7 (.tup [.ref tl,.ref c9])) t7=some (.tup [.ref tl,.ref c9]):=aD;generalize upd H9 t7 (.tup [.ref tl,.ref c9])=H10 at u9 f9⊢;have s8b:=s9.trans u9;have hb:=h8.same s8b;have d5:Dt (wo p H10) 5000 7 (.ref t7):=hb.two f9 hb.lotD (hb.part (u9 _ _ e9) (fun x hx=>by
  rcases mem_append.mp hx with y|y
  ·exact hb.dm x y
  ·rw [mem_singleton.mp y];have e:=s8b _ _ f7;refine Dp.tup (n:=7) (D:=0) (m:=2) (fF e (gA hb.pen e)) (fun y hy=> ?_) (zjQ _);simp only [mem_cons,not_mem_nil,or_false]at hy;rcases hy with rfl|rfl
   ·exact Dp.num 0 (by decide)
   ·exact Dp.bl true) (by rw [length_append];show _+1<=_;omega))
 refine⟨by show 5<=sizeLine;decide,fun l4 hl4=> ?_⟩;have s6b:=s68.trans s8b;have s5b:=u6.trans s6b;have s4b:=u5.trans s5b;have s2b:=s24.trans s4b;have s0b:=s02.trans s2b;have u12:=aG (o:=.lst [.ref t1,.ref t2,.ref t3,.ref t4,.ref t7]) hl4;have s0c:=s0b.trans u12;refine⟨l,l4,_,_,rfl,rfl,s0c _ _ hl,aD,by rw [h6];show 6+5<=sizeLine;decide,fun la hla=> ?_⟩;have ua:=aG (o:=.lst (vs++[.ref t1,.ref t2,.ref t3,.ref t4,.ref t7])) hla;have s':=s0c.trans ua;refine hD la _ _ s' aD (by rw [length_append,h6];rfl) ((h.pen.same s0c).fresh hla) fun x hx=> ?_;rcases mem_append.mp hx with hx|hx
 ·exact(hv x hx).same s'.wo
 ·simp only [mem_cons,not_mem_nil,or_false]at hx;have sw:=u12.trans ua;rcases hx with rfl|rfl|rfl|rfl|rfl
  ·exact d1.same (s2b.trans sw).wo
  ·exact d2.same (s4b.trans sw).wo
  ·exact d3.same (s5b.trans sw).wo
  ·exact d4.same (s6b.trans sw).wo
  ·exact d5.same sw.wo
theorem B0p (a2:A1 P w K mg base 2 "_law_pick" gI)(a4:A1 P w K mg base 3 "_law_anything" rB)(hr:Room 3 (oX P w K mg base f cdv A outer s H0 E).A):∃t,PSs (oX P w K mg base f cdv A outer s H0 E) ((dA iJ).drop 4) t/\∀(p tl tm l:Addr)(ks:List Int)(ps:List Addr)(L:List Pl)(vs:List V)(i j:Int)(H:Hp)(D:dE),OtA p H tl tm ks ps L->H l=some (.lst vs)->vs.length=11->l≠p->(∀v∈vs,Dt (wo p H) 5000 7 v)->
  (∀v H',Stp p H H'->Dt (wo p H') 5000 7 v->D.rt v H')->
  t D [some (.ref p),some (.ref tl),some (.ref tm),some (.int i),some (.int j),some (.ref l)] H:=by
 have nd:=scOt.nd;refine⟨_,aR (aY (a2.c hr (tU (pv 0) (eT (nE gX (pv 5) (lstq (mK (a4.c hr (aB (pv 0) aA)) (cR (tupq (cR (tupq bH) (cR (tupq bH) bH))) (cR (tupq (dS (pv 1) (cR (tupq bH) bH))) bH))))) bH)))),?_⟩;intro p tl tm l ks ps L vs i j H D h hl h11 hlp hv hD;refine⟨_,rfl,_,rfl,_,rfl,p,rfl,h.pen,fun v H1 st1 dv=> ?_⟩;have h1:=h.stp st1;have dv1:Dt (wo p H1) 150 3 v:=dv.same (B2p h.pen);refine⟨by show 0<=sizeLine;decide,fun t1 ht1=> ⟨by show 0<=sizeLine;decide,fun t2 ht2=> ⟨by show 2<=sizeLine;decide,fun t3 ht3=> ?_⟩⟩⟩;have u1:=aG (o:=.tup []) ht1;have u2:=aG (o:=.tup []) ht2;have u3:=aG (o:=.tup [.ref t1,.ref t2]) ht3;have f1:(upd (upd (upd H1 t1 (.tup [])) t2 (.tup [])) t3 (.tup [.ref t1,.ref t2])) t1=some (.tup []):=u3 _ _ (u2 _ _ aD);have f2:(upd (upd (upd H1 t1 (.tup [])) t2 (.tup [])) t3 (.tup [.ref t1,.ref t2])) t2=some (.tup []):=u3 _ _ aD;have f3:(upd (upd (upd H1 t1 (.tup [])) t2 (.tup [])) t3 (.tup [.ref t1,.ref t2])) t3=some (.tup [.ref t1,.ref t2]):=aD;have s13:=(u1.trans u2).trans u3;generalize upd (upd (upd H1 t1 (.tup [])) t2 (.tup [])) t3 (.tup [.ref t1,.ref t2])=H3 at s13 f1 f2 f3⊢;have h3:=h1.same s13;have e0:∀{c:Addr}{H:Hp},OtA p H tl tm ks ps L->H c=some (.tup [])->Dp (wo p H) 400 2 (.ref c):=fun h e=>h.part e (fun x hx=>absurd hx not_mem_nil) (by decide);have d1:Dt (wo p H3) 5000 7 (.ref t3):=h3.two f3 (e0 h3 f1) (e0 h3 f2);refine⟨_,rfl,by show 0<=sizeLine;decide,fun t4 ht4=> ⟨by show 2<=sizeLine;decide,fun t5 ht5=> ?_⟩⟩;have u4:=aG (o:=.tup []) ht4;have u5:=aG (o:=.tup [.ref tl,.ref t4]) ht5;have f4:(upd (upd H3 t4 (.tup [])) t5 (.tup [.ref tl,.ref t4])) t4=some (.tup []):=u5 _ _ aD;have f5:(upd (upd H3 t4 (.tup [])) t5 (.tup [.ref tl,.ref t4])) t5=some (.tup [.ref tl,.ref t4]):=aD;have s35:=u4.trans u5;generalize upd (upd H3 t4 (.tup [])) t5 (.tup [.ref tl,.ref t4])=H5 at s35 f4 f5⊢;have h5:=h3.same s35;have d2:Dt (wo p H5) 5000 7 (.ref t5):=h5.two f5 h5.lotD (e0 h5 f4);refine⟨by show 3<=sizeLine;decide,fun l4 hl4=> ?_⟩;have u6:=aG (o:=.lst [v,.ref t3,.ref t5]) hl4;have st6:=(st1.same (s13.trans s35)).same u6;refine⟨l,l4,_,_,rfl,rfl,st6.keep _ _ hlp hl,aD,by rw [h11];show 11+3<=sizeLine;decide,fun la hla=> ?_⟩;have ua:=aG (o:=.lst (vs++[v,.ref t3,.ref t5])) hla;have st':=st6.same ua;refine⟨p,la,_,rfl,st'.pen,st6.pen.fresh hla,aD,by rw [length_append,h11];show 1<=11+3;decide,by rw [length_append,h11];show 11+3<=1000;decide,fun x H7 hx st7=> ?_⟩;refine hD x H7 (st'.trans st7) (Dt.same ?_ st7.wo);rcases mem_append.mp hx with hx|hx
 ·exact(hv x hx).same st'.wo
 ·simp only [mem_cons,not_mem_nil,or_false]at hx;have sw:=u6.trans ua;rcases hx with rfl|rfl|rfl
  ·exact(dv1.mono (by decide) (by decide)).same ((s13.trans s35).trans sw).wo
  ·exact d1.same (s35.trans sw).wo
  ·exact d2.same sw.wo
end
section
variable {P:Program}{w:World}{K:W.Frag}{mg:Str->Option Value}{base:Heap}
theorem A7x (F:D1 K mg "_law_other" iJ ["_law_pen_here","_law_lot","_law_met"])(T:Txt mg)(T2:dC mg)(a1:A1 P w K mg base 1 "_law_draw" kI)(a2:A1 P w K mg base 2 "_law_pick" gI)(a3:A1 P w K mg base 3 "_law_odd" sO)(a4:A1 P w K mg base 3 "_law_anything" rB):A1 P w K mg base 4 "_law_other" nW:=by
 refine F.k nOt ?_;ac_nf
 ·obtain⟨p,tl,tm,ks,ps,L,rfl,h,q⟩:=h;obtain⟨t1,h1,r1⟩:=A5w (P:=P) (w:=w) (K:=K) (mg:=mg) (base:=base) (f:=f) (cdv:=cdv) (A:=A) (outer:=outer) (s:=s) (H0:=H) (E:=E);obtain⟨t2,h2,r2⟩:=B1b (P:=P) (w:=w) (K:=K) (mg:=mg) (base:=base) (f:=f) (cdv:=cdv) (A:=A) (outer:=outer) (s:=s) (H0:=H) (E:=E) a3 hr;obtain⟨t3,h3,r3⟩:=B0d (P:=P) (w:=w) (K:=K) (mg:=mg) (base:=base) (f:=f) (cdv:=cdv) (A:=A) (outer:=outer) (s:=s) (H0:=H) (E:=E) T2;obtain⟨t4,h4,r4⟩:=B0p (P:=P) (w:=w) (K:=K) (mg:=mg) (base:=base) (f:=f) (cdv:=cdv) (A:=A) (outer:=outer) (s:=s) (H0:=H) (E:=E) a2 a4 hr;have h0:∃t,PS (oX P w K mg base f cdv A outer s H E) (oS 0) t/\∀D:dE,(∀i j H',Stp p H H'->D.nx [some (.ref p),some (.ref tl),some (.ref tm),some (.int i),some (.int j),none] H')->t D [some (.ref p),some (.ref tl),some (.ref tm),none,none,none] H:=by
   refine⟨_,lH (i:=3) (j:=4) rfl nd rfl rfl (by decide) rfl rfl (bV (a1.c hr (aB (pv 0) (eU (bB dU (bE dM rfl T.len PySem.boot_len (aB (pv 1) aA)) aM) aA))) (bV (a1.c hr (aB (pv 0) (eU (bB dU (bE dM rfl T.len PySem.boot_len (aB (pv 2) aA)) aM) aA))) aA)) rfl,fun D hD=> ?_⟩;have hn:=h.len;refine⟨_,rfl,_,rfl,tl,_,rfl,.inr (SqT.of h.lot),_,_,rfl,rfl,p,_,rfl,h.pen,by omega,by omega,fun i H1 _ _ st1=> ?_⟩;have h1:=h.stp st1;refine⟨_,rfl,_,rfl,tm,_,rfl,.inr (SqT.of h1.met),_,_,rfl,rfl,p,_,rfl,h1.pen,by omega,by omega,fun j H2 _ _ st2=> ?_⟩;exact⟨_,_,rfl,hD i j H2 (st1.trans st2)⟩
  obtain⟨t0,h0,r0⟩:=h0;have eb:dA iJ=oS 0::oS 1::oS 2::oS 3::(dA iJ).drop 4:=rfl;rw [eb];generalize oS 0=S0 at h0;generalize oS 1=S1 at h1;generalize oS 2=S2 at h2;generalize oS 3=S3 at h3;generalize (dA iJ).drop 4=S4 at h4;refine⟨_,aU h0 (uM h1 (aU h2 (aU h3 h4))),r0 _ fun i j Ha sa=> ?_⟩;refine r1 p tl tm ks ps L i j none Ha _ (h.stp sa) fun l1 v1 Hb sb el1 n1 ne1 dv1=> ?_;refine r2 p tl tm l1 ks ps L v1 i j Hb _ ((h.stp sa).same sb) el1 n1 ne1 dv1 fun l2 v2 Hc sc el2 n2 ne2 dv2=> ?_;refine r3 p tl tm l2 ks ps L v2 i j Hc _ (((h.stp sa).same sb).stp sc) el2 n2 ne2 dv2 fun l3 v3 Hd sd el3 n3 ne3 dv3=> ?_;exact r4 p tl tm l3 ks ps L v3 i j Hd _ ((((h.stp sa).same sb).stp sc).same sd) el3 n3 ne3 dv3 fun v He se dv=>q v He ((((sa.same sb).trans sc).same sd).trans se) dv
end
end M10
namespace L2
open PySem PySem.Spec PyProof.Rows
theorem Inv.melt (I:Inv X pins σ H s)(hr:H r=some (.lst xs))(I1:Inv X pins1 σ1 H1 s1)(h1:H1 r=some (.frz o (.lst xs))):Inv X pins1 σ1 (upd H1 r (.lst xs)) s1:=by
 have hn:∀b,H1 b=none->b≠r:=fun b n z=>by rw [z,h1]at n;cases n
 refine⟨I1.ok,I1.os,I1.bare,⟨I1.base.keep,I1.base.slot,fun b ob q n hx=> ?_,I1.base.there,fun b ys q=> ?_,fun b ob u q=> ?_,fun b ps q=> ?_⟩,I1.loc,I1.cell,?_,fun x c q=> ?_,fun p hp=> ?_,fun b v q=> ?_,I1.len⟩
 ·have:=I1.base.free b ob q n hx;rw [aV (hn b this)];exact this
 ·have:=I1.base.tups b ys q;rw [aV (fun z=>by rw [z,h1]at this;cases this)];exact this
 ·have e:=I.base.frzs b ob u q;rw [aV (fun z=>by rw [z,hr]at e;cases e)];exact I1.base.frzs b ob u q
 ·obtain⟨m,e⟩:=I1.base.tbls b ps q;exact⟨m,by rw [aV (fun z=>by rw [z,h1]at e;cases e)];exact e⟩
 ·rw [aV (hn _ I1.free)];exact I1.free
 ·rw [aV (hn _ (I1.freeC x c q))];exact I1.freeC x c q
 ·obtain⟨a,b,c⟩:=I1.pin p hp;exact⟨a,by rw [aV (hn _ b)];exact b,c⟩
 ·have st:∀c w',ObjOk X.prog X.w H1 s1.heap c w'->ObjOk X.prog X.w (upd H1 r (.lst xs)) s1.heap c w':=fun c w' x=>
   x.stay (fun _ _ _ q=>q) (fun b q=>by rw [aV (fun z=>by rw [z,h1]at q;cases q)];exact q) fun b xs q=>by rw [aV (fun z=>by rw [z,h1]at q;cases q)];exact q
  by_cases hb:b=r
  ·subst hb;rw [aD]at q;cases q;exact st _ _ (show ObjOk X.prog X.w H1 s1.heap b (.frz o (.lst xs))from I1.hok b _ h1).2
  ·rw [aV hb]at q;exact st _ _ (I1.hok _ _ q)
def B2d (te:TE):TE:=fun σ H Q=> ∃r xs,H r=some (.lst xs)/\∀o,te σ (upd H r (.frz o (.lst xs))) fun v H'=>H' r=some (.frz o (.lst xs))/\Q v (upd H' r (.lst xs))
theorem B0m (he:PE X e te):PE X e (B2d te):=by intro pins s σ H Q I h;obtain⟨r,xs,hr,k⟩:=h;obtain⟨_,its,n,_,ho⟩:=(show ObjOk X.prog X.w H s.heap r (.lst xs)from I.hok r _ hr);have I':=I.freeze (by rw [hr];trivial) hr ho;refine thn (he pins s σ _ _ I' (k _)) fun v s1 ⟨x,H1,I1,r1,q1,q2⟩=> ?_;exact⟨x,_,I.melt hr I1 q1,r1,q2⟩
def Sof (H H':Hp):Prop:=∀b u,H b=some u->(∀o v,u≠ .frz o v)->H' b=some u
mutual
theorem RdA.off (s:Sof H H'):∀{d:PyData}{v:V},RdA H d v->RdA H' d v
 | .none,_,h=>by simp only [RdA]at h⊢;exact h
 | .bool _,_,h=>by simp only [RdA]at h⊢;exact h
 | .int _,_,h=>by simp only [RdA]at h⊢;exact h
 | .str _,_,h=>by simp only [RdA]at h⊢;exact h
 | .list ds,_,h=>by
  simp only [RdA]at h⊢;obtain⟨a,xs,e,ha,hx⟩:=h;exact⟨a,xs,e,s _ _ ha (fun _ _ z=>by cases z),RdAs.off s hx⟩
 | .tuple ds,_,h=>by
  simp only [RdA]at h⊢;obtain⟨a,xs,e,ha,hx⟩:=h;exact⟨a,xs,e,s _ _ ha (fun _ _ z=>by cases z),RdAs.off s hx⟩
 | .dict kvs,_,h=>by
  simp only [RdA]at h⊢;obtain⟨a,xs,e,ha,hx⟩:=h;exact⟨a,xs,e,s _ _ ha (fun _ _ z=>by cases z),RdKv.off s hx⟩
theorem RdAs.off (s:Sof H H'):∀{ds:List PyData}{xs:List V},RdAs H ds xs->RdAs H' ds xs
 | [],_,h=>by simp only [RdAs]at h⊢;exact h
 |d::ds,_,h=>by
  simp only [RdAs]at h⊢;obtain⟨y,ys,e,h1,h2⟩:=h;exact⟨y,ys,e,RdA.off s h1,RdAs.off s h2⟩
theorem RdKv.off (s:Sof H H'):∀{ds:List (PyData×PyData)}{xs:List (Key×V)},RdKv H ds xs->RdKv H' ds xs
 | [],_,h=>by simp only [RdKv]at h⊢;exact h
 | (k,d)::ds,_,h=>by
  simp only [RdKv]at h⊢;obtain⟨y,z,ys,e,h0,h1,h2⟩:=h;exact⟨y,z,ys,e,RdA.off s h0,RdA.off s h1,RdKv.off s h2⟩
end
theorem Dt.off (h:Dt H n D v)(s:Sof H H'):Dt H' n D v:=let ⟨d,h1,h2⟩:=h;⟨d,RdA.off s h1,h2⟩
end L2
namespace M10
open PySem L2 PyProof.Rows Grd Wlk Cyc Srt Set4
theorem A4j (h:PleA H p g w cs cl od):Dp H 1204 3 (.ref p):=by
 obtain⟨m,c,a,hp,⟨bs,hm,hB⟩,hc,⟨es,ha,hC⟩⟩:=h.ex;have hbl:bs.length=g.length:=Paired.length hB;have hel:es.length=cl.length:=Paired.length hC;have d1:Dp H 300 2 (.ref m):=by
  refine(Dp.tup (n:=32) (D:=1) (m:=3) hm (fun x hx=> ?_) (by rw [length_map,hbl];exact h.g3)).mono (by decide) (by decide);obtain⟨b,hb,rfl⟩:=mem_map.mp hx;obtain⟨i,hi⟩:=mem_iff_getElem?.mp hb;obtain⟨xs,hxs,e⟩:=iM hB hi;have hm:=mem_of_getElem? hxs;refine Dp.tup (n:=7) (D:=0) (m:=4) e (fun y hy=> ?_) (by rw [length_map,h.G.len xs hm];exact h.w4);obtain⟨n,hn,rfl⟩:=mem_map.mp hy;have:=h.G.num xs hm n hn;exact Dp.num n (by omega)
 have d2:Dp H 300 2 (.ref c):=by
  refine(Dp.tup (n:=7) (D:=0) (m:=6) hc (fun y hy=> ?_) (by rw [length_map];exact h.cu.l6)).mono (by decide) (by decide);obtain⟨n,hn,rfl⟩:=mem_map.mp hy;have:=h.cu.num n hn;exact Dp.num n (by omega)
 have d3:Dp H 300 2 (.ref a):=by
  refine Dp.tup (n:=24) (D:=1) (m:=12) ha (fun x hx=> ?_) (by rw [length_map,hel];exact h.ck.l12);obtain⟨b,hb,rfl⟩:=mem_map.mp hx;obtain⟨i,hi⟩:=mem_iff_getElem?.mp hb;obtain⟨e,he,ee⟩:=iM hC hi;have:=h.ck.num e (mem_of_getElem? he);refine Dp.tup (n:=7) (D:=0) (m:=3) ee (fun y hy=> ?_) (zjQ _);simp only [mem_cons,not_mem_nil,or_false]at hy;rcases hy with rfl|rfl|rfl<;>exact Dp.num _ (by omega)
 refine Dp.tup (n:=300) (D:=2) (m:=4) hp (fun x hx=> ?_) (zjQ _);simp only [mem_cons,not_mem_nil,or_false]at hx;rcases hx with rfl|rfl|rfl|rfl
 ·exact d1
 ·exact d2
 ·exact d3
 ·exact(Dp.mid (D:=2) od (by have:=h.o9;omega)).mono (by decide) (by decide)
theorem A9z {H H':Hp}(s:Same H H'){ps:List Addr}{L:List Pl}(hk:∀x∈ps.map V.ref,Kn H 2 x)(hP:PlAt H' ps L):PlAt H ps L:=by
 induction hP with
 |nil=>exact .nil
 |cons r t ih=>
  refine .cons ?_ (ih fun x hx=>hk x (zjS _ hx));have e2:=s.tupOf ((hk _ zjR).le (show 1<=2 by decide));rw [iF r]at e2;obtain⟨t',e,ht'⟩:=eZ e2.symm;cases e;exact ht'
theorem B25 (s:Same H H')(k:Kn H 3 b)(L:List Pl):sqB H' b L=sqB H b L:=by
 by_cases h:∃t,b= .ref t/\SqA H t L
 ·obtain⟨t,e,h1⟩:=id h;rw [oJ h,oJ ⟨t,e,SqA.ext h1 s.ext⟩]
 ·rw [mV h];refine mV fun⟨t,e,ps,ht,hP⟩=>h ⟨t,e,ps,?_⟩;subst e;have e1:=s.tupOf (k.le (show 1<=3 by decide));rw [iF ht]at e1;obtain⟨t',e,ht'⟩:=eZ e1.symm;cases e;refine⟨ht',?_⟩;exact A9z s (k.items ht').2 hP
theorem B1v (s:Same H H')(k:Kn H 4 v):eA H' g cs cl od v=eA H g cs cl od v:=by
 unfold eA;rw [s.tupOf (k.le (by decide))];cases z:tupOf H v with
 |none=>rfl
 |some xs=>
  match xs,z with
  | [],_=>rfl
  | [_],_=>rfl
  |_::_::_::_,_=>rfl
  | [a,b],z=>
   obtain⟨t,rfl,ht⟩:=eZ z;have hk:=(k.items ht).2;dsimp only
   rw [zW s ((hk a zjR).le (by decide))];cases lotOf H cl a with
   |none=>rfl
   |some ks=>
    dsimp only
    rw [B25 s (hk b (zjS _ zjR))]
def pS (K:W.Frag):Sp:=fun vs H Q _=> ∃(a:Addr)(ns:List Int),vs=[.ref a]/\SqL K H a (ns.map V.int)/\ns.length<=63/\∀H',Q (.bl true) H'
abbrev pN:List Str:=["_law_script","_law_cell_here","_law_pen_here","_law_plea_here","_law_lots_here","_law_bad","_law_due","_law_lot","_law_met","_law_thing","_law_kept"]
abbrev lawFor:List Stmt:=lD ((dA jT).getD 0 (.Pass ⟨0,0,0,0⟩))
section
variable {P:Program}{w:World}{K:W.Frag}{mg:Str->Option Value}{base:Heap}
theorem scLaw:jD pN ["_law_script"] (bD jT):=by ac_rfl
variable {f:Addr}{cdv:Value}{A:Around}{outer:List Env}{s:Shared}{H0:Hp}{E:XK}
abbrev XL (P:Program)(w:World)(K:W.Frag)(mg:Str->Option Value)(base:Heap)(f:Addr)(cdv:Value)(A:Around)(outer:List Env)(s:Shared)(H0:Hp)(E:XK):Cx:=(eX CX0 P w K mg base pN "law" (bD jT) f cdv A outer s H0 E).nox
theorem A5f (TD:TxD mg)(hr:Room 13 (XL P w K mg base f cdv A outer s H0 E).A)(aP:A1 P w K mg base 13 "is_lack" lP)(aQ:A1 P w K mg base 7 "_law_good" lT)
  (aS:A1 P w K mg base 1 "_law_same" (jH 0)):∃tt,PSs (XL P w K mg base f cdv A outer s H0 E) (lD (lawFor.getD 8 (.Pass ⟨0,0,0,0⟩))) tt/\
  ∀(D:dE)(o0 o1 o2 o4 o5 o6 o7 o8 o10:Option V)(p:Addr)(g:bF)(w:Nat)(cs:List Int)(cl:List C3)(od:Int)(v:V)(H:Hp),PleA H p g w cs cl od->Dt H 5000 7 v->(∀o10' H',Same H H'->D.nx [o0,o1,o2,some (.ref p),o4,o5,o6,o7,o8,some v,o10'] H')->tt D [o0,o1,o2,some (.ref p),o4,o5,o6,o7,o8,some v,o10] H:=by
 have nd:=scLaw.nd;have hg:=hr.gd;have hu:=hr.units;refine⟨_,aU (bK (i:=10) nd rfl (Or.inl rfl) (bE (pL hg hu) rfl TD.repr oU (gW (cD (aB (pv 3) (aB (pv 9) aA))) aA)))<|
  aR (bR (PW.pt (fS (cE (bN (aS.c hr (bV (aP.c hr (aB (pv 3) (aB (pv 9) aA))) (bV (aQ.c hr (aB (pv 3) (aB (pv 9) aA))) aA)))))
   (iA (cB oG (bE (pL hg hu) rfl TD.repr oU (gW (cD (aB (pv 3) (aB (pv 9) aA))) aA)) (pv 10) (nomark _))))) (aR (aY cZ)) bQ),fun D o0 o1 o2 o4 o5 o6 o7 o8 o10 p g w' cs cl od v H hP dt hD=> ?_⟩
 have kn:=dt.kn;obtain⟨dp,hp1,gp,dp1,dp2⟩:=A4j hP;obtain⟨d,hd,gd,dl⟩:=id dt;have gT:Gd 100000 40 (.tuple [dp,d]):=(Gd.tup (n:=5000) (D:=7) (m:=2) (fun x hx=>by
  simp only [mem_cons,not_mem_nil,or_false]at hx;rcases hx with rfl|rfl
  ·exact gp.mono (by decide) (by decide)
  ·exact gd) (zjQ _) (by decide)).mono (by decide) (by decide)
 have shw:Shw (.tuple [dp,d]):=⟨gT,fun z=>by
  simp only [PyData.hasDict,PyData.hasDictAll,dp1,Bool.false_or,Bool.or_false]at z;simp only [dJ,fB,dp2,dl z,Bool.or_self]⟩
 have rdT:∀{H':Hp}{t:Addr},Same H H'->H' t=some (.tup [.ref p,v])->RdA H' (.tuple [dp,d]) (.ref t):=fun s' e=>by
  simp only [RdA,RdAs];exact⟨_,_,rfl,e,_,_,rfl,hp1.same s',_,_,rfl,hd.same s',rfl⟩
 refine⟨_,rfl,_,rfl,by show 2<=sizeLine;decide,fun t1 ht1=> ?_⟩;have u1:=aG (o:=.tup [.ref p,v]) ht1;refine⟨.ref t1,_,rfl,rdT u1 aD,shw,?_⟩;generalize upd H t1 (.tup [.ref p,v])=H1 at u1⊢;refine⟨_,rfl,_,rfl,p,v,g,w',cs,cl,od,rfl,hP.same u1,(kn.ext u1.ext) 4,fun H2 s2=> ?_⟩;have s12:=u1.trans s2;refine⟨_,rfl,_,rfl,p,v,g,w',cs,cl,od,rfl,hP.same s12,dt.same s12,fun H3 s3=> ?_⟩;rw [B1v s2 ((kn.ext u1.ext) 4)];refine⟨_,_,rfl,SameV.bl 0 _,fun H4 s4=> ⟨_,rfl,bX ?_⟩⟩;have s14:=(s12.trans s3).trans s4;refine⟨_,rfl,_,rfl,by show 2<=sizeLine;decide,fun t2 ht2=> ?_⟩;have u2:=aG (o:=.tup [.ref p,v]) ht2;refine⟨.ref t2,_,rfl,rdT (s14.trans u2) aD,shw,_,rfl,rfl,_,rfl,?_⟩;refine uL rfl ?_;exact hD _ _ (s14.trans u2)
end
theorem LackA.ext (h:LackA H v F r)(e:Ext H H'):LackA H' v F r:=by
 cases r with
 |none=>exact h
 |some ks=>
  obtain⟨p,t,u,e1,h1,h2,h3⟩:=h;exact⟨p,t,u,e1,e.tup _ _ h1,e.tup _ _ h2,SqA.ext h3 e⟩
theorem oE (h:ks∈dH cl):ks.Nodup/\ks.length<=4/\∀k∈ks,k.natAbs<128:=by
 have hs:=A3d h;refine⟨(lG cl).sublist hs,le_trans hs.length_le (jR cl),fun k hk=> ?_⟩;have hk:=hs.subset hk;unfold hoI aX at hk;obtain⟨n,hn,rfl⟩:=mem_map.mp hk;have key:∀b0 b1 b2 b3:Bool,∀n∈L b0 b1 b2 b3,n<4:=by decide
 have:=key _ _ _ _ n hn;omega
theorem A1u (G:fL cl):1<=(dH cl).length/\(dH cl).length<=15:=by
 have h1:1<=(hoI cl).length:=by
  obtain⟨c,t,e⟩:=exists_cons_of_ne_nil (show cl≠[]from fun z=>by have:=G.l1;rw [z]at this;cases this);have:eN cl c.1=true:=any_eq_true.mpr ⟨c,by rw [e];exact zjR,zjV rfl⟩;exact List.length_pos_of_mem (nH G this)
 have h4:=jR cl;unfold dH;rw [List.length_tail,pT];have a1:2^1<=2^(hoI cl).length:=pow_le_pow_right (by decide) h1;have a2:2^(hoI cl).length<=2^4:=pow_le_pow_right (by decide) h4;omega
theorem wF {H:Hp}{t:Addr}{ks:List Int}(h:H t=some (.tup (ks.map V.int)))(h4:ks.length<=4)(hs:∀k∈ks,k.natAbs<128):Dp H 170 2 (.ref t):=by refine(Dp.tup (n:=7) (D:=0) (m:=4) h (fun x hx=> ?_) (by rw [length_map];exact h4)).mono (by decide) (by decide);obtain⟨k,hk,rfl⟩:=mem_map.mp hx;exact Dp.num k (hs k hk)
theorem two_dt (e:H c=some (.tup [a,b]))(ha:Dp H 170 2 a)(hb:Dp H 170 2 b):Dt H 5000 7 (.ref c):=by
 refine((Dp.tup (n:=170) (D:=2) (m:=2) e (fun x hx=> ?_) (zjQ _)).mono (by decide) (by decide)).dt;simp only [mem_cons,not_mem_nil,or_false]at hx;rcases hx with rfl|rfl
 ·exact ha
 ·exact hb
section
variable {P:Program}{w:World}{K:W.Frag}{mg:Str->Option Value}{base:Heap}
theorem A9n:(["_law_turn","_law_pen_here","_law_lot","_law_met"]:List Str).Nodup:=by decide +kernel
variable {f:Addr}{cdv:Value}{A:Around}{outer:List Env}{s:Shared}{H0:Hp}{E:XK}
theorem A9p (T:Txt mg)(T2:dC mg)(TD:TxD mg)(hr:Room 13 (XL P w K mg base f cdv A outer s H0 E).A)(aP:A1 P w K mg base 13 "is_lack" lP)(aQ:A1 P w K mg base 7 "_law_good" lT)
  (aS:A1 P w K mg base 1 "_law_same" (jH 0))(aK:A1 P w K mg base 2 "_law_pick" gI)(aF:A1 P w K mg base 5 "_law_field" jZ)(aO:A1 P w K mg base 4 "_law_other" nW):∃tt,PSs (XL P w K mg base f cdv A outer s H0 E) (lawFor.drop 6) tt/\
  ∀(D:dE)(o0 o1 o5 o7 o8 o9 o10:Option V)(p pl ll:Addr)(due:V)(g:bF)(w:Nat)(cs:List Int)(cl:List C3)(od:Int)(qs:List Addr)(H:Hp),PenAt H p->PleA H pl g w cs cl od->ll≠p->H ll=some (.lst (qs.map V.ref))->TusAt H qs ((dH cl).map (List.map V.int))->LackA H due (dF g cs cl od) (jU g cs cl od)->
   (∀o7' o8' o9' o10' H',Stp p H H'->D.nx [o0,o1,some (.ref p),some (.ref pl),some (.ref ll),o5,some due,o7',o8',o9',o10'] H')->tt D [o0,o1,some (.ref p),some (.ref pl),some (.ref ll),o5,some due,o7,o8,o9,o10] H:=by
 have nd:=scLaw.nd;obtain⟨tb,hb,rb⟩:=A5f (P:=P) (w:=w) (K:=K) (mg:=mg) (base:=base) (f:=f) (cdv:=cdv) (A:=A) (outer:=outer) (s:=s) (H0:=H0) (E:=E) TD hr aP aQ aS;refine⟨_,aU (bK (i:=7) nd rfl (Or.inr rfl) (aK.c hr (aB (pv 2) (aB (pv 4) aA))))<|
  aU (bK (i:=8) nd rfl (Or.inr rfl) (aF.c hr (aB (pv 3) (aB (pv 7) aA))))<|
  aR (eG PassesOwn.never rfl (cT (bB gX (bB gX (dR (gW (cD (aB (pv 7) (aB (pv 8) aA))) aA)) (bB A5i (dR (aB (pv 6) aA)) (eP nP rfl T.int boot_int (vP (cW B3n (pv 6) pR (nomark _)) aA)))) (bM (bD jT).names pN ["_law_turn"] [("_law_pen_here",2),("_law_lot",7),("_law_met",8)] rfl (iZ rfl T2.range (cN aM aA)) rfl rfl rfl (by decide +kernel)
   (fun Z=>nm1 0 A9n) (fun Z=>cA) (fun Z=>B0m (aO.c hr (aB (pv 1) (aB (pv 2) (aB (pv 3) aA)))))))) (nm1 9 nd) hb),?_⟩
 intro D o0 o1 o5 o7 o8 o9 o10 p pl ll due g w' cs cl od qs H pen hP hlp ell hT hL hD;have hql:qs.length=_:=Paired.length hT;rw [length_map]at hql;have hln:=A1u hP.ck;refine⟨_,rfl,_,rfl,p,ll,_,rfl,pen,hlp,ell,by rw [length_map];omega,by rw [length_map];omega,fun v H1 hv st1=> ?_⟩;obtain⟨q,hq,rfl⟩:=mem_map.mp hv;obtain⟨iq,hiq⟩:=mem_iff_getElem?.mp hq;obtain⟨xs,hxs,eq⟩:=iM hT hiq;rw [getElem?_map]at hxs;cases hks:(dH cl)[iq]? with
 |none=>rw [hks]at hxs;cases hxs
 |some ks=>
 rw [hks]at hxs;cases hxs;obtain⟨knd,k4,ksm⟩:=oE (mem_of_getElem? hks);have x1:=st1.ext pen;have P1:=hP.ext x1;have eq1:=x1.tup _ _ eq;have L1:=hL.ext x1;refine⟨_,rfl,_,rfl,pl,q,g,w',cs,cl,od,ks,rfl,P1,eq1,fun um H2 hum s2 hU=> ?_⟩;have st2:=st1.same s2;have P2:=P1.same s2;have L2':=L1.ext s2.ext;obtain⟨ps,eum,hPm⟩:=hU;have hLd:=jJ g cs cl od ks;have ot2:OtA p H2 q um ks ps (dF g cs cl od ks):=⟨st2.pen,s2 _ _ eq1,k4,ksm,eum,hPm,LandOf.len hP.G hLd,fun c hc=>xT hP (hLd.subset hc)⟩;refine⟨_,rfl,_,rfl,by show 2<=sizeLine;decide,fun t1 ht1=> ⟨by show 1<=sizeLine;decide,fun l1 hl1=> ?_⟩⟩;have u1:=aG (o:=.tup [.ref q,.ref um]) ht1;have u2:=aG (o:=.lst [.ref t1]) hl1;have f1:(upd (upd H2 t1 (.tup [.ref q,.ref um])) l1 (.lst [.ref t1])) t1=some (.tup [.ref q,.ref um]):=u2 _ _ aD;have f2:(upd (upd H2 t1 (.tup [.ref q,.ref um])) l1 (.lst [.ref t1])) l1=some (.lst [.ref t1]):=aD;have s23:=u1.trans u2;generalize upd (upd H2 t1 (.tup [.ref q,.ref um])) l1 (.lst [.ref t1])=H3 at s23 f1 f2⊢;refine⟨_,rfl,by show 1<=sizeLine;decide,fun l2 hl2=> ?_⟩;have u3:=aG (o:=.lst [due]) hl2;have f3:(upd H3 l2 (.lst [due])) l2=some (.lst [due]):=aD;generalize upd H3 l2 (.lst [due])=H4 at u3 f3⊢;have s24:=s23.trans u3;have L4:=L2'.ext s24.ext;have P4:=P2.same s24;refine⟨_,rfl,rfl,.inr ⟨_,rfl,?_⟩⟩;have hk:∃k:Int,(if (!decide (due=V.non))=true then(1:Int)else 0)=k/\0<=k/\k<=1/\∀H',PleA H' pl g w' cs cl od->LackA H' due (dF g cs cl od) (jU g cs cl od)->∀x∈(replicate k.toNat [due]).flatten,Dt H' 5000 7 x:=by
  cases hfl:jU g cs cl od with
  |none=>
   rw [hfl]at hL;have:due=V.non:=hL;refine⟨0,by rw [this];rfl,by decide,by decide,fun H' _ _ x hx=> ?_⟩;exact absurd hx (by simp)
  |some ks'=>
   rw [hfl]at hL;obtain⟨d,_,_,rfl,_⟩:=hL;refine⟨1,rfl,by decide,by decide,fun H' hP' hL' x hx=> ?_⟩;have hx':x=V.ref d:=by
    have:(replicate (Int.toNat 1) [V.ref d]).flatten=[V.ref d]:=rfl;rw [this]at hx;exact mem_singleton.mp hx
   subst hx';obtain⟨d',t,u,e,h1,h2,h3⟩:=hL';cases e;have hm:ks'∈dH cl:=List.mem_of_find?_eq_some hfl;obtain⟨_,m4,msm⟩:=oE hm;exact two_dt h1 (wF h2 m4 msm) (uB hP' (jJ g cs cl od ks') h3)
 obtain⟨k,ek,k0,k1,hkd⟩:=hk;rw [ek];have hkl:(replicate k.toNat [due]).flatten.length<=1:=by rw [A0p];simp;omega
 refine⟨l2,k,_,rfl,rfl,f3,by omega,by omega,by rw [sizeLine_eq];show 1*k.toNat<=_;omega,fun l3 hl3=> ?_⟩;have u4:=aG (o:=.lst (replicate k.toNat [due]).flatten) hl3;have f4:(upd H4 l3 (.lst (replicate k.toNat [due]).flatten)) l3=some (.lst (replicate k.toNat [due]).flatten):=aD;generalize upd H4 l3 (.lst (replicate k.toNat [due]).flatten)=H5 at u4 f4⊢;refine⟨l1,l3,_,_,rfl,rfl,u4 _ _ (u3 _ _ f2),f4,by rw [sizeLine_eq];show 1+_<=_;omega,fun l4 hl4=> ?_⟩;generalize hds:(replicate k.toNat [due]).flatten=ds at hkl hkd f4⊢;have u5:=aG (o:=.lst ([.ref t1]++ds)) hl4;have f5:(upd H5 l4 (.lst ([.ref t1]++ds))) l4=some (.lst ([.ref t1]++ds)):=aD;have s26:=(s24.trans u4).trans u5;have st5:=(st2.same (s24.trans u4));have n4:=st5.pen.fresh hl4;generalize upd H5 l4 (.lst ([.ref t1]++ds))=H6 at u5 f5 s26⊢;have st6:=st2.same s26;have ot6:=ot2.same s26;have f16:H6 t1=some (.tup [.ref q,.ref um]):=u5 _ _ (u4 _ _ (u3 _ _ f1));refine⟨4,rfl,by decide,by decide,fun Z r hr'=> ?_⟩;have hp6:=st6.pen;have hrp:=hp6.fresh hr';refine jE (lo:=0) (n:=4) (fun i σ H'=>(∃o,σ=[o,some (.ref p),some (.ref q),some (.ref um)])/\Stp p H6 H'/\∃vs:List V,H' r=some (.lst vs)/\vs.length=i/\∀v∈vs,Dt (wo r (wo p H')) 5000 7 v)
  ⟨⟨none,rfl⟩,(Stp.refl hp6).updL hr' hp6,[],aD,rfl,fun b h=>by cases h⟩ ?_ ?_
 ·rintro i σ H' hi ⟨⟨o,rfl⟩,st,vs,hl',hn,hv⟩;refine kX ?_;refine⟨r,vs,hl',fun ob=> ?_⟩;have stf:Stp p H6 (upd H' r (.frz ob (.lst vs))):=st.updO hr' hp6;refine⟨_,rfl,_,rfl,_,rfl,p,q,um,ks,ps,_,rfl,ot6.stp stf,fun v H7 st7 dv=> ?_⟩;have hr7:H7 r=some (.frz ob (.lst vs)):=st7.keep r _ hrp aD;refine⟨hr7,?_⟩;refine⟨_,aD,cM (by omega),⟨_,rfl⟩,(((stf.trans st7).updO hr' hp6).updO hr' hp6),vs++[v],aD,by rw [length_append,hn];rfl,fun x hx=> ?_⟩;rcases mem_append.mp hx with h|h
  ·refine(hv x h).same fun b u e=> ?_;have hbr:b≠r:=fun z=>by unfold wo at e;rw [if_pos z]at e;cases e
   have hbp:b≠p:=fun z=>by unfold wo at e;rw [if_neg hbr,if_pos z]at e;cases e
   have e':H' b=some u:=by unfold wo at e;rw [if_neg hbr,if_neg hbp]at e;exact e
   unfold wo;rw [if_neg hbr,if_neg hbp,aV hbr,aV hbr];exact st7.keep b u hbp (by rw [aV hbr];exact e')
  ·rw [mem_singleton.mp h];refine dv.off fun b u e hf=> ?_;have hbp:b≠p:=fun z=>by unfold wo at e;rw [if_pos z]at e;cases e
   have e':H7 b=some u:=by unfold wo at e;rw [if_neg hbp]at e;exact e
   have hbr:b≠r:=fun z=>by rw [z,hr7]at e';exact hf _ _ (Option.some.inj e').symm
   unfold wo;rw [if_neg hbr,if_neg hbp,aV hbr,aV hbr];exact e'
 ·rintro σ H' ⟨⟨o,rfl⟩,st,vs,hl',hn,hv⟩;have hl4':=st.keep l4 _ n4 f5;have hn4:vs.length=4:=hn;refine⟨l4,r,_,_,rfl,rfl,hl4',hl',by rw [sizeLine_eq,length_append,hn4];show 1+_+4<=_;omega,fun lx hlx=> ?_⟩;have u8:=aG (o:=.lst ([.ref t1]++ds++vs)) hlx;have st8:=st.same u8;have x28:=s26.ext.trans (st8.ext hp6);have P8:=P2.ext x28;have f8:(upd H' lx (.lst ([.ref t1]++ds++vs))) lx=some (.lst ([.ref t1]++ds++vs)):=aD;have hA:∀v∈([V.ref t1]++ds++vs),Dt (upd H' lx (.lst ([.ref t1]++ds++vs))) 5000 7 v:=fun v h=>by
   rcases mem_append.mp h with h|h
   ·rcases mem_append.mp h with h|h
    ·rw [mem_singleton.mp h];have o8:=ot6.stp st8;exact two_dt ((st8.ext hp6).tup _ _ f16) (wF o8.lot k4 ksm) (uB P8 hLd ⟨ps,o8.met,o8.pl⟩)
    ·exact hkd _ P8 (L2'.ext x28) v h
   ·exact(((hv v h).same (A00 r _)).same (A00 p _)).same u8
  generalize upd H' lx (.lst ([.ref t1]++ds++vs))=H8 at u8 st8 x28 P8 f8 hA⊢;refine⟨lx,rfl,⟨_,SqL.of f8⟩,?_⟩;refine fX (K:=K) (a:=lx) (xs:=[.ref t1]++ds++vs) (fun j σ H9=>(∃o9 o10,σ=[o0,o1,some (.ref p),some (.ref pl),some (.ref ll),o5,some due,some (.ref q),some (.ref um),o9,o10])/\Same H8 H9)
   ⟨⟨_,_,rfl⟩,Same.refl _⟩ (fun j σ H9 _ h=>SqL.of (h.2 _ _ f8)) ?_ ?_
  ·rintro j y σ H9 hj ⟨⟨o9,o10,rfl⟩,s9⟩;exact rb _ o0 o1 (some (.ref p)) (some (.ref ll)) o5 (some due) (some (.ref q)) (some (.ref um)) o10 pl g w' cs cl od y H9 (P8.same s9) ((hA y (mem_of_getElem? hj)).same s9) fun o10' Ha sa=> ⟨⟨_,_,rfl⟩,s9.trans sa⟩
  ·rintro σ H9 ⟨⟨o9,o10,rfl⟩,s9⟩;exact hD _ _ _ _ H9 ((st6.trans st8).same s9)
end
theorem A0a:∀{ps qs:List Addr}{L:List Pl},PlAt H ps L->PlAt H qs L->Paired (SameV H 1) (ps.map V.ref) (qs.map V.ref)
 |_,_,_,.nil,.nil=> .nil
 |_,_,_,.cons r1 t1,.cons r2 t2=> .cons (.inr ⟨_,_,_,_,rfl,rfl,.inr ⟨r1,r2⟩,by show 2<=1000;decide,.cons (SameV.int 0 _) (.cons (SameV.int 0 _) .nil)⟩) (A0a t1 t2)
theorem A13 (n:Nat):∀ks:List Int,Paired (SameV H n) (ks.map V.int) (ks.map V.int)
 | []=> .nil
 |k::ks=> .cons (SameV.int n k) (A13 n ks)
theorem B1l (h1:LackA H a F r)(h2:LackA H b F r)(hs:∀ks,r=some ks->ks.length<=1000/\(F ks).length<=1000):SameV H 3 a b:=by
 cases r with
 |none=>
  rw [show a= .non from h1,show b= .non from h2];exact SameV.non 3
 |some ks=>
  obtain⟨p,t,u,rfl,e1,e2,ps,e3,hP⟩:=h1;obtain⟨p',t',u',rfl,e1',e2',ps',e3',hP'⟩:=h2;obtain⟨z1,z2⟩:=hs ks rfl;have hl:ps.length=(F ks).length:=Paired.length hP;refine .inr ⟨_,_,_,_,rfl,rfl,.inr ⟨e1,e1'⟩,by show 2<=1000;decide,.cons (.inr ⟨_,_,_,_,rfl,rfl,.inr ⟨e2,e2'⟩,by rw [length_map];exact z1,A13 1 ks⟩) (.cons (.inr ⟨_,_,_,_,rfl,rfl,.inr ⟨e3,e3'⟩,by rw [length_map];omega,A0a hP hP'⟩) .nil)⟩
section
variable {P:Program}{w:World}{K:W.Frag}{mg:Str->Option Value}{base:Heap}
theorem A5e:(["_law_lot","_law_plea_here"]:List Str).Nodup:=by decide +kernel
variable {f:Addr}{cdv:Value}{A:Around}{outer:List Env}{s:Shared}{H0:Hp}{E:XK}
theorem B0z (T:Txt mg)(T2:dC mg)(TD:TxD mg)(hr:Room 13 (XL P w K mg base f cdv A outer s H0 E).A)(aP:A1 P w K mg base 13 "is_lack" lP)(aQ:A1 P w K mg base 7 "_law_good" lT)
  (aS:A1 P w K mg base 1 "_law_same" (jH 0))(aS3:A1 P w K mg base 4 "_law_same" (jH 3))(aK:A1 P w K mg base 2 "_law_pick" gI)(aF:A1 P w K mg base 5 "_law_field" jZ)(aO:A1 P w K mg base 4 "_law_other" nW)
  (aE:A1 P w K mg base 1 "_law_pen" tF)(aL:A1 P w K mg base 4 "_law_plea" uZ)(aT:A1 P w K mg base 1 "_law_lots" pZ)(aH:A1 P w K mg base 1 "_law_holders" jO)(aC:A1 P w K mg base 6 "_law_lacks" oV)(aN:A1 P w K mg base 13 "first_lack" uH):∃tt,PSs (XL P w K mg base f cdv A outer s H0 E) lawFor tt/\
  ∀(D:dE)(o0 o2 o3 o4 o5 o6 o7 o8 o9 o10:Option V)(i:Int)(H:Hp),(∀o2' o3' o4' o5' o6' o7' o8' o9' o10' H',Same H H'->D.nx [o0,some (.int i),o2',o3',o4',o5',o6',o7',o8',o9',o10'] H')->tt D [o0,some (.int i),o2,o3,o4,o5,o6,o7,o8,o9,o10] H:=by
 have nd:=scLaw.nd;obtain⟨tb,hb,rb⟩:=A9p (P:=P) (w:=w) (K:=K) (mg:=mg) (base:=base) (f:=f) (cdv:=cdv) (A:=A) (outer:=outer) (s:=s) (H0:=H0) (E:=E) T T2 TD hr aP aQ aS aK aF aO;have eb:lawFor=lawFor.getD 0 (.Pass ⟨0,0,0,0⟩)::lawFor.getD 1 (.Pass ⟨0,0,0,0⟩)::lawFor.getD 2 (.Pass ⟨0,0,0,0⟩)::lawFor.getD 3 (.Pass ⟨0,0,0,0⟩)::lawFor.getD 4 (.Pass ⟨0,0,0,0⟩)::lawFor.getD 5 (.Pass ⟨0,0,0,0⟩)::lawFor.drop 6:=rfl;rw [eb];generalize lawFor.drop 6=S6 at hb;refine⟨_,aU (bK (i:=2) nd rfl (Or.inr rfl) (aE.c hr (aB (pv 1) aA)))<|
  aU (bK (i:=3) nd rfl (Or.inr rfl) (aL.c hr (aB (pv 2) (cN aM aA))))<|
  aU (bK (i:=4) nd rfl (Or.inl rfl) (aT.c hr (bV (aH.c hr (dZ (bJ bW (pv 3) aM (fun _ _=>rfl)) aA)) aA)))<|
  aU (A2a (i:=5) (bD jT).names pN ["_law_lot"] [("_law_plea_here",3)] rfl nd rfl rfl (cT (pv 4)) rfl rfl rfl (by decide +kernel)
   (fun Z=>nm1 0 A5e) (fun Z=>eE (bN (aC.c hr (aB (pv 1) (aB (pv 0) aA))))) (fun Z=>pv 0))<|
  aU (bK (i:=6) nd rfl (Or.inl rfl) (B2j (cB (A0u 1 (dI hr)) (pv 5) (dR aA) (nomark _)) pR (cD (dZ (bJ fV (pv 5) aM (fun _ _=>rfl)) (bV (aF.c hr (aB (pv 3) (dZ (bJ fV (pv 5) aM (fun _ _=>rfl)) aA))) aA)))))<|
  aU (bR (cE (bN (aS3.c hr (bV (aN.c hr (aB (pv 3) aA)) (aB (pv 6) aA))))) (aR (aY cZ)) bQ) hb,fun D o0 o2 o3 o4 o5 o6 o7 o8 o9 o10 i H hD=> ?_⟩
 refine⟨_,rfl,i,rfl,fun p H1 hp0 s1 pen=> ?_⟩;refine⟨_,rfl,p,rfl,pen,fun pl g w' cs cl od H2 st2 hP=> ?_⟩;obtain⟨m,c,a,hp,hm,hc,ha⟩:=hP.ex;refine⟨_,rfl,pl,_,2,_,rfl,rfl,SqT.of hp,rfl,a,cl,rfl,ha,hP.ck,fun lh H3 hlh s3 elh=> ?_⟩;have eho:((aX (holdS cl)).map fun k:Nat=>V.int (k:Int))=(hoI cl).map V.int:=by unfold hoI;rw [map_map];rfl
 rw [eho]at elh;refine⟨lh,cl,rfl,elh,fun ll qs H4 hll s4 ell hT=> ?_⟩;have s24:=s3.trans s4;have P4:=hP.same s24;have st4:=st2.same s24;have hlp:ll≠p:=(st2.same s3).pen.fresh hll;have hql:qs.length=_:=Paired.length hT;rw [length_map]at hql;have hln:=A1u hP.ck;have hR:Paired (fun q (ks:List Int)=>H4 q=some (.tup (ks.map V.int))) qs (dH cl):=by
  have key:∀{qs:List Addr}{ts:List (List Int)},TusAt H4 qs (ts.map (List.map V.int))->Paired (fun q (ks:List Int)=>H4 q=some (.tup (ks.map V.int))) qs ts:=by
   intro qs ts h
   induction ts generalizing qs with
   |nil=>cases h;exact .nil
   |cons t ts ih=>cases h with|cons r h=>exact .cons r (ih h)
  exact key hT
 refine⟨_,rfl,ll,rfl,⟨_,SqL.of ell⟩,fun Z l hl=> ?_⟩;refine gL (R:=fun H q (ks:List Int)=>H q=some (.tup (ks.map V.int))) (fun e h=>e.tup _ _ h) (rest:=[some (.ref pl)]) (gN g cs cl od) fR (fun H' hs=>SqL.of (hs _ _ ell)) hR hl (by omega) (fun b ks H' Q' hks hbk hs k=> ?_) fun σ H5 qb s5 elb hB=> ?_
 ·exact⟨_,rfl,_,rfl,pl,b,g,w',cs,cl,od,ks,rfl,P4.same hs,hbk,(oE hks).1,fun H6 s6=> ⟨_,rfl,k H6 s6⟩⟩
 have P5:=P4.same s5;have hfind:((dH cl).filter (gN g cs cl od)).head?=jU g cs cl od:=List.head?_filter ..;have hqb:qb.length=_:=Paired.length hB;have due:∀(N:V->Hp->Prop),(∀v H',Same H5 H'->LackA H' v (dF g cs cl od) (jU g cs cl od)->N v H')->tIf (A1n (tOp (uW 1 id) (cY 5) (mL iR))) (tC .non) (mD (bY (tOp (vJ K) (cY 5) (tC (.int 0))) (bY (oR jZ [] E0 (bY (cY 3) (bY (tOp (vJ K) (cY 5) (tC (.int 0))) iR))) iR))) [o0,some (.int i),some (.ref p),some (.ref pl),some (.ref ll),some (.ref l),o6,o7,o8,o9,o10] H5 N:=by
  intro N hN;refine⟨_,rfl,by show 0<=sizeLine;decide,fun l0 hl0=> ?_⟩;have u0:=aG (o:=.lst []) hl0;refine⟨l,l0,_,[],rfl,rfl,u0 _ _ elb,aD,?_⟩;generalize upd H5 l0 (.lst [])=H6 at u0⊢;cases hfl:(dH cl).filter (gN g cs cl od)with
  |nil=>
   right
   rw [hfl]at hqb hfind;have:qb=[]:=eq_nil_of_length_eq_zero hqb;subst this;refine⟨[],trivial,_,rfl,cV (hN _ H6 u0 ?_)⟩;rw [←hfind];rfl
  |cons ks rest=>
   left
   rw [hfl]at hqb hfind hB;obtain⟨q0,qt,eq0⟩:∃q0 qt,qb=q0::qt:=by
    cases qb with
    |nil=>cases hqb
    |cons q0 qt=>exact⟨q0,qt,rfl⟩
   subst eq0;have e0:H5 q0=some (.tup (ks.map V.int)):=by cases hB with|cons r _=>exact r
   refine⟨by simp,_,rfl,bX ?_⟩;have elb6:=u0 _ _ elb;refine⟨_,rfl,l,_,0,.ref q0,rfl,rfl,SqL.of elb6,cK (j:=0) rfl,_,rfl,_,rfl,l,_,0,.ref q0,rfl,rfl,SqL.of elb6,cK (j:=0) rfl,pl,q0,g,w',cs,cl,od,ks,rfl,P5.same u0,u0 _ _ e0,fun u H7 hu s7 hU=> ?_⟩;refine⟨by show 2<=sizeLine;decide,fun t ht=> ?_⟩;have u8:=aG (o:=.tup [.ref q0,.ref u]) ht;refine hN _ _ ((u0.trans s7).trans u8) ?_;rw [←hfind];exact⟨t,q0,u,rfl,aD,u8 _ _ (s7 _ _ (u0 _ _ e0)),SqA.ext hU u8.ext⟩
 refine due _ fun dv H6 s6 hdv=> ?_;have s46:=s5.trans s6;refine⟨_,rfl,pl,g,w',cs,cl,od,rfl,P4.same s46,fun v H7 s7 hv=> ?_⟩;refine⟨_,rfl,_,_,rfl,B1l hv (hdv.ext s7.ext) (fun ks e=> ?_),fun H8 s8=> ⟨_,rfl,bX ?_⟩⟩
 ·have hm:ks∈dH cl:=List.mem_of_find?_eq_some e;have:=(oE hm).2.1;have:=LandOf.len hP.G (jJ g cs cl od ks);exact⟨by omega,by omega⟩
 ·have s48:=(s46.trans s7).trans s8;refine rb D o0 (some (.int i)) _ o7 o8 o9 o10 p pl ll dv g w' cs cl od qs H8 (st4.same s48).pen (P4.same s48) hlp (s48 _ _ ell) (hT.same s48) ((hdv.ext s7.ext).ext s8.ext) fun o7' o8' o9' o10' H9 st9=> ?_;exact hD _ _ _ _ _ _ _ _ _ H9 fun b u e=>((st4.same s48).trans st9).keep b u (bL e hp0) (s1 _ _ e)
end
section
variable {P:Program}{w:World}{K:W.Frag}{mg:Str->Option Value}{base:Heap}
theorem A6a {f:Addr}{fd:FuncData}(F:Fun K "law" "law" jT f fd)(T:Txt mg)(T2:dC mg)(TD:TxD mg)(aP:A1 P w K mg base 13 "is_lack" lP)(aQ:A1 P w K mg base 7 "_law_good" lT)
  (aS:A1 P w K mg base 1 "_law_same" (jH 0))(aS3:A1 P w K mg base 4 "_law_same" (jH 3))(aK:A1 P w K mg base 2 "_law_pick" gI)(aF:A1 P w K mg base 5 "_law_field" jZ)(aO:A1 P w K mg base 4 "_law_other" nW)
  (aE:A1 P w K mg base 1 "_law_pen" tF)(aL:A1 P w K mg base 4 "_law_plea" uZ)(aT:A1 P w K mg base 1 "_law_lots" pZ)(aH:A1 P w K mg base 1 "_law_holders" jO)(aC:A1 P w K mg base 6 "_law_lacks" oV)(aN:A1 P w K mg base 13 "first_lack" uH)
  (aZ:A1 P w K mg base 1 "_law_cell" (A10 K)):FnOk P w K mg base CX0 14 f fd ["_law_script"] (pS K):=by
 refine F.ok scLaw (fun vs H Q E h=> ?_) (fun cdv A outer s H vs Q E hr h=> ?_)
 ·obtain⟨a,ns,rfl,_⟩:=h;rfl
 ·obtain⟨a,ns,rfl,hS,hlen,q⟩:=h;have nd:=scLaw.nd;obtain⟨tb,hb,rb⟩:=B0z (P:=P) (w:=w) (K:=K) (mg:=mg) (base:=base) (f:=f) (cdv:=cdv) (A:=A) (outer:=outer) (s:=s) (H0:=H) (E:=E) T T2 TD hr aP aQ aS aS3 aK aF aO aE aL aT aH aC aN;refine⟨_,aU (eG PassesOwn.never rfl (cT (bB gX (dR (bV (aZ.c hr (aB (pv 0) (cN aM aA))) aA)) (eQ mU (pv 0) (eJ aM) (eJ aM)))) (nm1 1 nd) hb)<|
   aR (aY cZ),?_⟩
  refine⟨_,rfl,a,ns,0,rfl,hS,by decide,fun c0=> ?_⟩;refine⟨by show 1<=sizeLine;decide,fun l0 hl0=> ?_⟩;have s0:=aG (o:=.lst [.int c0]) hl0;refine⟨_,rfl,_,rfl,_,rfl,a,_,rfl,s0.seq hS,fun l1 hl1=> ?_⟩;have s1:=aG (o:=.lst (cC (ns.map V.int) (some 1) (some 2))) hl1;have hcl:=nC (ns.map V.int) (some 1) (some 2);rw [length_map]at hcl;refine⟨l0,l1,_,_,rfl,rfl,s1 _ _ aD,aD,by rw [sizeLine_eq];show 1+_<=_;omega,fun lc hlc=> ?_⟩;have e2:(upd (upd (upd H l0 (.lst [.int c0])) l1 (.lst (cC (ns.map V.int) (some 1) (some 2)))) lc (.lst ([.int c0]++cC (ns.map V.int) (some 1) (some 2)))) lc=some (.lst ([.int c0]++cC (ns.map V.int) (some 1) (some 2))):=aD;generalize upd (upd (upd H l0 (.lst [.int c0])) l1 (.lst (cC (ns.map V.int) (some 1) (some 2)))) lc (.lst ([.int c0]++cC (ns.map V.int) (some 1) (some 2)))=H1 at e2⊢;refine⟨lc,rfl,⟨_,SqL.of e2⟩,?_⟩;refine fX (K:=K) (a:=lc) (xs:=[.int c0]++cC (ns.map V.int) (some 1) (some 2)) (fun i σ H'=>(∃o1 o2 o3 o4 o5 o6 o7 o8 o9 o10,σ=[some (.ref a),o1,o2,o3,o4,o5,o6,o7,o8,o9,o10])/\Same H1 H')
   ⟨⟨_,_,_,_,_,_,_,_,_,_,rfl⟩,Same.refl _⟩ (fun i σ H' _ h=>SqL.of (h.2 _ _ e2)) ?_ ?_
  ·rintro i y σ H' hi ⟨⟨o1,o2,o3,o4,o5,o6,o7,o8,o9,o10,rfl⟩,hs⟩;obtain⟨c,rfl⟩:∃c,y=V.int c:=by
    rcases mem_append.mp (mem_of_getElem? hi)with z|z
    ·exact⟨c0,mem_singleton.mp z⟩
    ·obtain⟨c,_,e⟩:=mem_map.mp (iL z);exact⟨c,e.symm⟩
   exact rb _ (some (.ref a)) o2 o3 o4 o5 o6 o7 o8 o9 o10 c H' fun o2' o3' o4' o5' o6' o7' o8' o9' o10' H2 s2=> ⟨⟨_,_,_,_,_,_,_,_,_,_,rfl⟩,hs.trans s2⟩
  ·rintro σ H' _;exact q H'
end
end M10
namespace M10
open PySem L2 PyProof.Rows Grd
theorem all_mk {l:W.OpenLaw}{w:World}{K:W.Frag}{h:Heap}{mg:Str->Option Value}{fa:Addr}{t0 t1 t2 t3 t4 t5 t6 t7 t8 t9 t10 t11:Tok}(X:K.In h)(G:h.Ns mainGlobals mg)(hfa:mg "law" =some (.ref fa))
  (q0:Fk K "is_number" vY)
  (q1:Fk K "is_number_within" xK)
  (q2:Fk K "is_tuple_within" A08)
  (q3:Fk K "places_of_cells" qX)
  (q4:Fk K "is_row" vC)
  (q5:Fk K "is_mead" nJ)
  (q6:Fk K "check_mead" wP)
  (q7:Fk K "cells_of" A0t)
  (q8:Fk K "roads_of" qM)
  (q9:Fk K "is_pair_of_numbers" rG)
  (q10:Fk K "is_cell" A0v)
  (q11:Fk K "worth_together" mI)
  (q12:Fk K "places_beside" A1x)
  (q13:Fk K "piece_round" oN)
  (q14:Fk K "is_rising" kG)
  (q15:Fk K "is_land" rH)
  (q16:Fk K "is_one_piece" yU)
  (q17:Fk K "has_some_of" tL)
  (q18:Fk K "cells_at_road" sF)
  (q19:Fk K "is_custom" sE)
  (q20:Fk K "is_claim" A1l)
  (q21:Fk K "are_claims" oB)
  (q22:Fk K "check_custom" wG)
  (q23:Fk K "check_claims" A1m)
  (q24:Fk K "stand_under" rC)
  (q25:Fk K "check_claims_under" zO)
  (q26:Fk K "is_holder" tT)
  (q27:Fk K "check_holder" A0r)
  (q28:Fk K "holders_of" vK)
  (q29:Fk K "count_together" sJ)
  (q30:Fk K "count_of" tP)
  (q31:Fk K "fraction" A1h)
  (q32:Fk K "share_of" wX)
  (q33:Fk K "_law_cell" A1a)
  (q34:Fk K "_law_pen" A1w)
  (q35:Fk K "_law_draw" vM)
  (q36:Fk K "_law_pick" wV)
  (q37:Fk K "_law_same" kW)
  (q38:Fk K "_law_custom" qN)
  (q39:Fk K "_law_claims" oA)
  (q40:Fk K "_law_holders" rP)
  (q41:Fk K "_law_count" yO)
  (q42:Fk K "_law_total" qO)
  (q43:Fk K "_law_mead" lI)
  (q44:Fk K "_law_plea" A18)
  (q45:Fk K "is_odd" wN)
  (q46:Fk K "is_plea" A3f)
  (q47:Fk K "check_plea" wO)
  (q48:Fk K "check_plea_and_holder" yS)
  (q49:Fk K "whole_worth" xD)
  (q50:Fk K "due_of" A1g)
  (q51:Fk K "rising_tuples" qS)
  (q52:Fk K "is_sound" zN)
  (q53:Fk K "sound_lands" sV)
  (q54:Fk K "worth_the_due" qR)
  (q55:Fk K "fits_of_all" oF)
  (q56:Fk K "cells_by_holder" oW)
  (q57:Fk K "cells_for" sM)
  (q58:Fk K "is_too_little" tG)
  (q59:Fk K "first_lack" A0d)
  (q60:Fk K "_law_next_to" A1z)
  (q61:Fk K "_law_hangs" pC)
  (q62:Fk K "_law_worth" zS)
  (q63:Fk K "_law_cells" qG)
  (q64:Fk K "_law_lands" sP)
  (q65:Fk K "_law_by_road" uJ)
  (q66:Fk K "_law_fits" wE)
  (q67:Fk K "_law_fit_lands" vH)
  (q68:Fk K "_law_field" nK)
  (q69:Fk K "_law_lacks" A1q)
  (q70:Fk K "_law_lots" vG)
  (q71:Fk K "is_lot" sY)
  (q72:Fk K "is_lack" xJ)
  (q73:Fk K "_law_number" wL)
  (q74:Fk K "_law_good" pY)
  (q75:Fk K "_law_odd" A2n)
  (q76:Fk K "_law_anything" gY)
  (q77:Fk K "_law_other" iJ)
  (q78:Fk K "law" jT)
  (v0:W.nsIn K mainGlobals "MOST_ROWS" =some (some (.int 4 t0)))
  (v1:W.nsIn K mainGlobals "MOST_COLUMNS" =some (some (.int 6 t1)))
  (v2:W.nsIn K mainGlobals "MOST_CELLS" =some (some (.int 10 t2)))
  (v3:W.nsIn K mainGlobals "MOST_WORTH" =some (some (.int 99 t3)))
  (v4:W.nsIn K mainGlobals "WATER" =some (some (.int (-2) t4)))
  (v5:W.nsIn K mainGlobals "ROAD" =some (some (.int (-1) t5)))
  (v6:W.nsIn K mainGlobals "MOST_SORTS" =some (some (.int 6 t6)))
  (v7:W.nsIn K mainGlobals "MOST_COUNTED" =some (some (.int 100 t7)))
  (v8:W.nsIn K mainGlobals "MOST_HOLDERS" =some (some (.int 4 t8)))
  (v9:W.nsIn K mainGlobals "MOST_RIGHTS" =some (some (.int 20 t9)))
  (v10:W.nsIn K mainGlobals "MOST_CLAIMS" =some (some (.int 12 t10)))
  (v11:W.nsIn K mainGlobals "MOST_ODD" =some (some (.int 999 t11)))
  (z0:W.nsIn K mainGlobals "isinstance" =some none)
  (z1:W.nsIn K mainGlobals "int" =some none)
  (z2:W.nsIn K mainGlobals "bool" =some none)
  (z3:W.nsIn K mainGlobals "tuple" =some none)
  (z4:W.nsIn K mainGlobals "len" =some none)
  (z5:W.nsIn K mainGlobals "all" =some none)
  (z6:W.nsIn K mainGlobals "enumerate" =some none)
  (z7:W.nsIn K mainGlobals "range" =some none)
  (z8:W.nsIn K mainGlobals "list" =some none)
  (z9:W.nsIn K mainGlobals "zip" =some none)
  (z10:W.nsIn K mainGlobals "sum" =some none)
  (z11:W.nsIn K mainGlobals "dict" =some none)
  (z12:W.nsIn K mainGlobals "set" =some none)
  (z13:W.nsIn K mainGlobals "sorted" =some none)
  (z14:W.nsIn K mainGlobals "any" =some none)
  (z15:W.nsIn K mainGlobals "abs" =some none)
  (z16:W.nsIn K mainGlobals "reversed" =some none)
  (z17:W.nsIn K mainGlobals "repr" =some none):
  ∃fd:FuncData,(∀(s:Shared)(v:Value),BindsTo s fd ⟨[v],[]⟩ [("_law_script",v)])/\∀base:Heap,K.In base->base.Ns mainGlobals mg->FnOk l.prog w K mg base CX0 14 fa fd ["_law_script"] (pS K):=by
 have T0:Txt mg:=⟨W.mg_none_of X G z0,W.mg_none_of X G z1,W.mg_none_of X G z2,W.mg_none_of X G z3,W.mg_none_of X G z4,W.mg_none_of X G z5,W.mg_none_of X G z6,⟨_,W.mg_of X G v0⟩,⟨_,W.mg_of X G v1⟩,⟨_,W.mg_of X G v2⟩,⟨_,W.mg_of X G v3⟩,⟨_,W.mg_of X G v4⟩⟩;have T1:dC mg:=⟨W.mg_none_of X G z7,W.mg_none_of X G z8,W.mg_none_of X G z9,W.mg_none_of X G z10,W.mg_none_of X G z11,W.mg_none_of X G z12,W.mg_none_of X G z13,W.mg_none_of X G z14,W.mg_none_of X G z15,⟨_,W.mg_of X G v5⟩⟩;have T2:TxC mg:=⟨W.mg_none_of X G z0,W.mg_none_of X G z1,W.mg_none_of X G z2,W.mg_none_of X G z3,W.mg_none_of X G z4,W.mg_none_of X G z5,W.mg_none_of X G z14,W.mg_none_of X G z9,W.mg_none_of X G z7,W.mg_none_of X G z10,W.mg_none_of X G z8,W.mg_none_of X G z12,W.mg_none_of X G z13,⟨_,W.mg_of X G v6⟩,⟨_,W.mg_of X G v7⟩,⟨_,W.mg_of X G v8⟩,⟨_,W.mg_of X G v9⟩,⟨_,W.mg_of X G v10⟩⟩;have T3:TxD mg:=⟨W.mg_none_of X G z16,W.mg_none_of X G z17,⟨_,W.mg_of X G v11⟩⟩;obtain⟨_,F,hb⟩:=q78.law (y:="_law_script") X G hfa fun _ _ _ _ _ _ _=>rfl;refine⟨_,hb,fun base _ _=> ?_⟩;have g0:A1 l.prog w K mg base _ _ _:=A76 (q0.d X G) T0;have g1:=A43 (q1.d X G) g0;have g2:A1 l.prog w K mg base _ _ _:=B3q (q2.d X G) T0;have g3:A1 l.prog w K mg base _ _ _:=B10 (q3.d X G) T0;have g4:=A3p (q4.d X G) T0 g2 g1;have g5:=A4g (q5.d X G) T0 g2 g4 g3;have g6:=A8q (q6.d X G) g5;have g7:=A6q (q7.d X G) g6 g3;have g8:=B0c (q8.d X G) T0 T1 g6;have g9:=A93 (q9.d X G) T0 g2 g0;have g10:=A81 (q10.d X G) g9 g3;have g11:A1 l.prog w K mg base _ _ _:=A40 (q11.d X G) T1;have g12:A1 l.prog w K mg base _ _ _:=B2h (q12.d X G);have g13:=A9c (q13.d X G) T0 T1 g12;have g14:A1 l.prog w K mg base _ _ _:=A96 (q14.d X G) T0 T1;have g15:=A8d (q15.d X G) T0 g6 g10 g14;have g16:=B29 (q16.d X G) g13;have g17:A1 l.prog w K mg base _ _ _:=A7s (q17.d X G) T1;have g18:=A9f (q18.d X G) T1 g8 g7 g12;have g19:A1 l.prog w K mg base _ _ _:=A8i (q11.d X G) T1;have g20:A1 l.prog w K mg base _ _ _:=B27 (q14.d X G) T2;have g21:=B21 (q19.d X G) T2 g2 g1;have g22:=A9d (q20.d X G) T2 g2 g1;have g23:=A89 (q21.d X G) T2 g2 g22 g20;have g24:=A5y (q22.d X G) g21;have g25:=B07 (q23.d X G) g23;have g26:A1 l.prog w K mg base _ _ _:=A3u (q24.d X G) T2;have g27:=A69 (q25.d X G) g24 g25 g26;have g28:=A4q (q26.d X G) T2 g0;have g29:=B2s (q27.d X G) g28;have g30:=A6z (q28.d X G) T2 g25 g28;have g31:A1 l.prog w K mg base _ _ _:=B0l (q29.d X G) T2;have g32:=A8e (q30.d X G) g27 g29 g31;have g33:A1 l.prog w K mg base _ _ _:=B1g (q31.d X G);have g34:=B0u (q32.d X G) g33 g32 g31;have g35:A1 l.prog w K mg base _ _ _:=A9h (q33.d X G) T2;have g36:A1 l.prog w K mg base _ _ _:=B0g (q34.d X G) T2;have g37:A1 l.prog w K mg base _ _ _:=B2y (q35.d X G) T2;have g38:=B1e (q36.d X G) T2 g37;have g39:A1 l.prog w K mg base _ _ _:=A21 (q37.d X G) T2 0;have g40:A1 l.prog w K mg base _ _ _:=A21 (q37.d X G) T2 3;have g41:=B3c (q38.d X G) T2 g37 g38;have g42:=A7m (q39.d X G) T2 g37 g38;have g43:A1 l.prog w K mg base _ _ _:=A38 (q40.d X G) T2;have g44:A1 l.prog w K mg base _ _ _:=A6t (q41.d X G) T2;have g45:A1 l.prog w K mg base _ _ _:=A86 (q42.d X G) T2;have g46:=A6k (q43.d X G) T2 g37 g38;have g47:=A5r (q44.d X G) T2 g37 g38 g46 g41 g42;have g48:=B22 (q45.d X G) T3 g1;have g49:=A4f (q46.d X G) g2 g5 g21 g23 g26 g48;have g50:=A7n (q47.d X G) g49;have g51:=A9r (q48.d X G) g50 g29;have g52:=A6v (q49.d X G) g11 g7;have g53:=B12 (q50.d X G) g51 g34 g33 g52;have g54:A1 l.prog w K mg base _ _ _:=B2q (q51.d X G) T3;have g55:=A7r (q52.d X G) g17 g16;have g56:=B2b (q53.d X G) g18 g54 g7 g55;have g57:=A44 (q54.d X G) T1 g53 g19;have g58:=A5l (q55.d X G) g50 g56 g57 g30;have g59:=A6r (q56.d X G) T1 g58 g7;have g60:=B2r (q57.d X G) T0 T1 g7;have g61:=B1d (q58.d X G) T0 g31 g52 g19;have g62:=B31 (q59.d X G) g50 g59 g54 g30 g60 g61;have g63:A1 l.prog w K mg base _ _ _:=A4w (q60.d X G) T1;have g64:=B14 (q61.d X G) T2 g63;have g65:A1 l.prog w K mg base _ _ _:=A3o (q62.d X G);have g66:A1 l.prog w K mg base _ _ _:=B00 (q63.d X G) T0 T1;have g67:=B1p (q64.d X G) g66;have g68:=B15 (q65.d X G) T0 g63;have g69:=B24 (q66.d X G) T1 g45 g65 g66 g44 g64 g68;have g70:=A9y (q67.d X G) T1 g67 g69;have g71:=B2o (q68.d X G) T0 T1 g70;have g72:=A3v (q69.d X G) T0 g45 g65 g66 g44 g71;have g73:A1 l.prog w K mg base _ _ _:=B4d (q70.d X G) T1;have g74:A1 l.prog w K mg base _ _ _:=B0x (q14.d X G) T0 T1;have g75:=B34 (q71.d X G) T0 g28 g74;have g76:=A5g (q72.d X G) g50 g2 g75 g15 g60 g59 g61;have g77:A1 l.prog w K mg base _ _ _:=A6c (q73.d X G) T0;have g78:=A9g (q74.d X G) T0 T1 T3 g77 g43 g71 g72;have g79:=A5j (q75.d X G) g38;have g80:=A6u (q76.d X G) g38;have g81:=A7x (q77.d X G) T0 T1 g37 g38 g79 g80;exact A6a F T0 T1 T3 g76 g78 g39 g40 g38 g71 g81 g36 g47 g73 g43 g72 g62 g35
theorem walk {l:W.OpenLaw}{q:Program}{loose:List Str}{XP:(Str->Option Value)->Heap->Prop}{YP:World->Heap->Prop}{d:DefRec}{K:Params->W.Frag}(hn:l.most=some 63)(hdf:d.params.defaults=[])
  (hY:∀(w:World)(h:Heap),YP w h->(K w.params).In h)
  (F:∀(w:World)(mg:Str->Option Value)(fa:Addr)(h:Heap),(K w.params).In h->h.Ns mainGlobals mg->mg d.name=some (.ref fa)->
   ∃fd:FuncData,(∀(s:Shared)(u:Value),BindsTo s fd ⟨[u],[]⟩ [("_law_script",u)])/\∀base:Heap,(K w.params).In base->base.Ns mainGlobals mg->FnOk l.prog w (K w.params) mg base CX0 14 fa fd ["_law_script"] (pS (K w.params))):
  W.WalkO q loose XP YP l.row.toRowW d [] (fun f vs=>PySem.call f vs):=
 L2.walk_of (n:=63) (k:=14) (x:="_law_script") (CX:=fun _=>CX0) (sp:=fun w=>pS (K w.params)) hn (by decide) hdf ⟨rfl,by decide,by decide,rfl⟩ hY F (fun _ _ a ns hl _ hS=> ⟨a,ns,rfl,hS,hl,fun _=>rfl⟩) fun _ _ _ _ _ z=>z
end M10
open PySem PySem.W PyProof.Rows L2
namespace PySem.W.Fast
theorem tw17551123666335281772:True:=⟨⟩
theorem tw10687135482682713683:True:=⟨⟩
theorem tw6496792533542252817:True:=⟨⟩
theorem tw4661522581506330405:True:=⟨⟩
theorem tw5652013651467313145:True:=⟨⟩
theorem tw5020369308609959639:True:=⟨⟩
theorem tw11980641523956661943:True:=⟨⟩
theorem tw10692713119810739939:True:=⟨⟩
theorem tw1130048541717473750:True:=⟨⟩
theorem tw6503800308655379052:True:=⟨⟩
theorem tw13411825351187175340:True:=⟨⟩
theorem tw15808422555113647636:True:=⟨⟩
theorem tw3997108520462797568:True:=⟨⟩
theorem tw2140960709851427896:True:=⟨⟩
theorem tw142227717327018693:True:=⟨⟩
theorem tw12882854490539410651:True:=⟨⟩
theorem tw9294998761163127774:True:=⟨⟩
theorem tw5847853968026831481:True:=⟨⟩
theorem tw142134518158593487:True:=⟨⟩
theorem tw165288037238196039:True:=⟨⟩
theorem tw10410704452164373542:True:=⟨⟩
theorem tw725161119898869173:True:=⟨⟩
theorem tw4898015186320331926:True:=⟨⟩
theorem tw10486216378531512254:True:=⟨⟩
theorem tw10503591550841953161:True:=⟨⟩
theorem tw4928646577244427537:True:=⟨⟩
theorem tw16726847141550899180:True:=⟨⟩
theorem tw2099077634467285717:True:=⟨⟩
theorem tw8610486886259348494:True:=⟨⟩
theorem tw2517393959290773069:True:=⟨⟩
theorem tw229823486540770159:True:=⟨⟩
theorem tw3116307505421699327:True:=⟨⟩
theorem tw4931255594109318311:True:=⟨⟩
theorem tw12111646699257000566:True:=⟨⟩
theorem tw10767531246408077919:True:=⟨⟩
theorem tw6905694777097618169:True:=⟨⟩
theorem tw11617505577119354834:True:=⟨⟩
theorem tw18219037796086129022:True:=⟨⟩
theorem tw13045496396186646911:True:=⟨⟩
theorem tw16561948858252574905:True:=⟨⟩
theorem tw17407825045850263827:True:=⟨⟩
theorem tw4965577168238653057:True:=⟨⟩
theorem tw9267366528750641363:True:=⟨⟩
theorem tw4148685866103057501:True:=⟨⟩
theorem tw2641897772257718635:True:=⟨⟩
theorem tw3754894242819537799:True:=⟨⟩
theorem tw18198724422038876940:True:=⟨⟩
theorem tw6694266332876023114:True:=⟨⟩
theorem tw580585646456611576:True:=⟨⟩
theorem tw2654602862417079766:True:=⟨⟩
theorem tw9692809881715163946:True:=⟨⟩
theorem tw10775654324986202946:True:=⟨⟩
theorem tw3887753468572911863:True:=⟨⟩
theorem tw10293538513423859960:True:=⟨⟩
theorem tw15775481637235427919:True:=⟨⟩
theorem tw1668877050813987724:True:=⟨⟩
theorem tw9081631838253522199:True:=⟨⟩
theorem tw9381788765746984323:True:=⟨⟩
theorem tw5819641822028819152:True:=⟨⟩
theorem tw13553969253307320689:True:=⟨⟩
theorem tw18260075109810248339:True:=⟨⟩
theorem tw1543920760863140838:True:=⟨⟩
theorem tw2326436538377710422:True:=⟨⟩
theorem tw10953411407593677418:True:=⟨⟩
theorem tw12202377478105192303:True:=⟨⟩
theorem tw10904868835485826046:True:=⟨⟩
theorem tw1686454842112960750:True:=⟨⟩
theorem tw15260777322991543167:True:=⟨⟩
theorem tw2716046985172728588:True:=⟨⟩
theorem tw9075540592789107586:True:=⟨⟩
theorem tw9788135138112757560:True:=⟨⟩
theorem tw16611761459772821702:True:=⟨⟩
theorem tw7560797959755256405:True:=⟨⟩
theorem tw11093611690086684248:True:=⟨⟩
theorem tw15215452732951753102:True:=⟨⟩
theorem tw224653152609155381:True:=⟨⟩
theorem tw16209404347721388428:True:=⟨⟩
theorem tw15816688450611060041:True:=⟨⟩
theorem tw12221225237165367754:True:=⟨⟩
theorem tw857964519352696957:True:=⟨⟩
theorem tw8605619649647799532:True:=⟨⟩
theorem tw1527560118530797321:True:=⟨⟩
theorem tw3602234932351622538:True:=⟨⟩
theorem tw15905583491940668811:True:=⟨⟩
theorem tw7442114241173961214:True:=⟨⟩
theorem tw725254932127269652:True:=⟨⟩
theorem tw3172093445104169298:True:=⟨⟩
theorem tw12995857402596144784:True:=⟨⟩
theorem tw14312575540462760356:True:=⟨⟩
theorem tw15041235119630064595:True:=⟨⟩
theorem tw9643081114109905540:True:=⟨⟩
theorem tw3258188496780974810:True:=⟨⟩
theorem tw4858643570173053960:True:=⟨⟩
theorem tw9034071585669312703:True:=⟨⟩
theorem tw9333827049783865243:True:=⟨⟩
theorem tw14570558019464067328:True:=⟨⟩
theorem tw4159227226262799396:True:=⟨⟩
theorem tw14900936039408031480:True:=⟨⟩
theorem tw8323709084614513522:True:=⟨⟩
theorem tw15651222593901111681:True:=⟨⟩
theorem tw6410298491259662861:True:=⟨⟩
theorem tw1517634999910731020:True:=⟨⟩
theorem tw13296790830813672633:True:=⟨⟩
theorem tw17782039589866537607:True:=⟨⟩
theorem tw13627192393089682593:True:=⟨⟩
theorem tw5537528074957530888:True:=⟨⟩
theorem tw14269947298380853658:True:=⟨⟩
theorem tw17294106464258925330:True:=⟨⟩
theorem tw16293350436349022636:True:=⟨⟩
theorem tw2431159536571838215:True:=⟨⟩
theorem tw1096893526832270270:True:=⟨⟩
theorem tw17344798349796782945:True:=⟨⟩
theorem tw11153519596865514026:True:=⟨⟩
theorem tw17602013067040962925:True:=⟨⟩
theorem tw12828344797244905016:True:=⟨⟩
theorem tw13555180004853896709:True:=⟨⟩
theorem tw1517094732179023145:True:=⟨⟩
theorem tw4878522915647051463:True:=⟨⟩
theorem tw6825854458353959801:True:=⟨⟩
theorem tw2927377470218396101:True:=⟨⟩
theorem tw10245279082038464834:True:=⟨⟩
theorem tw18198864368234469685:True:=⟨⟩
theorem tw13195023785360005809:True:=⟨⟩
theorem tw7480451452178027437:True:=⟨⟩
theorem tw8584474483785364659:True:=⟨⟩
theorem tw13912947242919762775:True:=⟨⟩
theorem tw4925276519071350786:True:=⟨⟩
theorem tw8930364191782138112:True:=⟨⟩
theorem tw2875532011634478201:True:=⟨⟩
theorem tw15183220042879717678:True:=⟨⟩
theorem tw515375973904262714:True:=⟨⟩
theorem tw8214897841170560505:True:=⟨⟩
theorem tw1636887546229662105:True:=⟨⟩
theorem tw5483314427030732599:True:=⟨⟩
theorem tw6521028512093945391:True:=⟨⟩
theorem tw15876481384109109664:True:=⟨⟩
theorem tw3532820616381933217:True:=⟨⟩
theorem tw12834517014252399155:True:=⟨⟩
theorem tw23750191699375727:True:=⟨⟩
theorem tw3219098593355008212:True:=⟨⟩
theorem tw9953248585603676926:True:=⟨⟩
theorem tw6811581644570268247:True:=⟨⟩
theorem tw8581038450302479560:True:=⟨⟩
theorem tw13224505701428769268:True:=⟨⟩
theorem tw1178420694727789865:True:=⟨⟩
theorem tw10503338326597845977:True:=⟨⟩
theorem tw11685297842854831338:True:=⟨⟩
theorem tw6270898546127656019:True:=⟨⟩
theorem tw14700349200179761038:True:=⟨⟩
theorem tw6390154068209673927:True:=⟨⟩
theorem tw7084519753634578503:True:=⟨⟩
theorem tw6509760737834950274:True:=⟨⟩
theorem tw11756722403712965858:True:=⟨⟩
theorem tw7704795115941067501:True:=⟨⟩
theorem tw4287903383112600581:True:=⟨⟩
theorem tw4886261324567123616:True:=⟨⟩
theorem tw16874065532754770228:True:=⟨⟩
theorem tw16273763466343704628:True:=⟨⟩
theorem tw15827391932214013255:True:=⟨⟩
theorem tw2464860686420669568:True:=⟨⟩
theorem tw3054230356120827900:True:=⟨⟩
theorem tw3906681110595874929:True:=⟨⟩
theorem tw12426177149710935432:True:=⟨⟩
theorem tw1239661368307223654:True:=⟨⟩
theorem tw18005093097668074588:True:=⟨⟩
theorem tw12074423682775586304:True:=⟨⟩
theorem tw3288789438886362235:True:=⟨⟩
theorem tw9272577484999053128:True:=⟨⟩
theorem tw17436855994916016535:True:=⟨⟩
theorem tw2424885423394349261:True:=⟨⟩
theorem tw1505417350835642880:True:=⟨⟩
theorem tw9126262963774788769:True:=⟨⟩
theorem tw3308697005150753772:True:=⟨⟩
theorem tw14633466184263271931:True:=⟨⟩
theorem tw16860913479813773084:True:=⟨⟩
theorem tw7625411246199819047:True:=⟨⟩
theorem tw7933152372124847394:True:=⟨⟩
theorem tw9900095540469263585:True:=⟨⟩
theorem tw10427622448849224276:True:=⟨⟩
theorem tw648300767389565877:True:=⟨⟩
theorem tw17460571833863612021:True:=⟨⟩
theorem tw1790051820451131852:True:=⟨⟩
theorem tw17111497146590641140:True:=⟨⟩
theorem tw5358587084634760927:True:=⟨⟩
theorem tw10571068642198405858:True:=⟨⟩
theorem tw8917343061461766591:True:=⟨⟩
theorem tw6431948339941680737:True:=⟨⟩
theorem tw1328865588373856017:True:=⟨⟩
theorem tw6079085129095301727:True:=⟨⟩
theorem tw12080175791519055500:True:=⟨⟩
theorem tw6587594593201115595:True:=⟨⟩
theorem tw5655081484963334795:True:=⟨⟩
theorem tw14521221197243131495:True:=⟨⟩
theorem tw17471625995608879897:True:=⟨⟩
theorem tw2650169746857089688:True:=⟨⟩
theorem tw10794971074529250856:True:=⟨⟩
theorem tw15120386473530946436:True:=⟨⟩
theorem tw15674324473788186300:True:=⟨⟩
theorem tw8255393165772861954:True:=⟨⟩
theorem tw9354045131876023375:True:=⟨⟩
theorem tw10801748569616311690:True:=⟨⟩
theorem tw6580449749080498214:True:=⟨⟩
theorem tw18295283784505760209:True:=⟨⟩
theorem tw11711992722754663420:True:=⟨⟩
theorem tw16405053766129482695:True:=⟨⟩
theorem tw17380844332572895984:True:=⟨⟩
theorem tw1699553651112467975:True:=⟨⟩
theorem tw11473567920008675708:True:=⟨⟩
theorem tw8650397763951535664:True:=⟨⟩
theorem tw10645219107966389259:True:=⟨⟩
theorem tw711217548697493860:True:=⟨⟩
theorem tw1626429137076825697:True:=⟨⟩
theorem tw3562917926976987297:True:=⟨⟩
theorem tw3642140989121701288:True:=⟨⟩
theorem tw11457559899007865777:True:=⟨⟩
theorem tw2421041471617175130:True:=⟨⟩
theorem tw4358402293291930897:True:=⟨⟩
theorem tw9312771950030806483:True:=⟨⟩
theorem tw1959601482450855082:True:=⟨⟩
theorem tw1179231146314142509:True:=⟨⟩
theorem tw9669525195793145266:True:=⟨⟩
theorem tw16232181647369213546:True:=⟨⟩
theorem tw9893741123776523467:True:=⟨⟩
theorem tw14162763749118076681:True:=⟨⟩
theorem tw5048216152447570034:True:=⟨⟩
theorem tw14622401401999555392:True:=⟨⟩
theorem tw13442268114158963173:True:=⟨⟩
theorem tw18267629606140717889:True:=⟨⟩
theorem tw13669604186904826322:True:=⟨⟩
theorem tw17840045692547021666:True:=⟨⟩
theorem tw12048069704534680684:True:=⟨⟩
theorem tw14250552188892134929:True:=⟨⟩
theorem tw9506081895441829156:True:=⟨⟩
theorem tw2253032037428944988:True:=⟨⟩
theorem tw7252995946865807358:True:=⟨⟩
theorem tw9483186226196925966:True:=⟨⟩
theorem tw848874769547124509:True:=⟨⟩
theorem tw1787922111436018289:True:=⟨⟩
theorem tw7406875562812778209:True:=⟨⟩
theorem tw1712006593716377304:True:=⟨⟩
theorem tw4081528745083906750:True:=⟨⟩
theorem tw4352939470954090236:True:=⟨⟩
theorem tw13820713905944914688:True:=⟨⟩
theorem tw10568990035512742832:True:=⟨⟩
theorem tw10019109972402133299:True:=⟨⟩
theorem tw243778607542153729:True:=⟨⟩
theorem tw820488435223900923:True:=⟨⟩
theorem tw1312602471025341575:True:=⟨⟩
theorem tw6951410024398288045:True:=⟨⟩
theorem tw14551580084729487588:True:=⟨⟩
theorem tw6199932573565269104:True:=⟨⟩
theorem tw9919993670946731743:True:=⟨⟩
theorem tw1193100044219150180:True:=⟨⟩
theorem tw6746622616480491580:True:=⟨⟩
theorem tw14004924492852287469:True:=⟨⟩
theorem tw17672169132954147887:True:=⟨⟩
theorem tw12493163221921477944:True:=⟨⟩
theorem tw7211989794561537509:True:=⟨⟩
theorem tw2426634123901989446:True:=⟨⟩
theorem tw6623120206840950344:True:=⟨⟩
theorem tw7494539179843599308:True:=⟨⟩
theorem tw11531971482019398460:True:=⟨⟩
theorem tw8485500512642510941:True:=⟨⟩
theorem tw4021083516181148392:True:=⟨⟩
theorem tw11724750499547131112:True:=⟨⟩
theorem tw10460834687055993350:True:=⟨⟩
theorem tw518915536262952566:True:=⟨⟩
theorem tw10273264903360338825:True:=⟨⟩
theorem tw11922182343084129842:True:=⟨⟩
theorem tw8371782693105565121:True:=⟨⟩
theorem tw12655886508739127211:True:=⟨⟩
theorem tw9648630637043450287:True:=⟨⟩
theorem tw14492939962168739842:True:=⟨⟩
theorem tw798658854441120569:True:=⟨⟩
theorem tw8389431073359209074:True:=⟨⟩
theorem tw10421253187605926837:True:=⟨⟩
theorem tw4382375501129312164:True:=⟨⟩
theorem tw1078134631746472666:True:=⟨⟩
theorem tw11887545308895373673:True:=⟨⟩
theorem tw8922537756625245630:True:=⟨⟩
theorem tw10869670545975737676:True:=⟨⟩
theorem tw434335245824440689:True:=⟨⟩
theorem tw6656511068264189776:True:=⟨⟩
theorem tw14574344915325254083:True:=⟨⟩
theorem tw15822183243036682477:True:=⟨⟩
end PySem.W.Fast
set_option maxRecDepth 100000 in
set_option maxHeartbeats 0 in
theorem PySem.Challenge.cw_meadshares_k10_lacks_holds : PySem.Challenge.rw_meadshares_k10_lacks.Holds := by
 w_on;o_law;k_head;(case hw=>w_witness2)
 k_fill
 refine' M10.walk (l:=PySem.Challenge.rw_meadshares_k10_lacks) rfl rfl (fun w h Y=>PySem.W.kIn_of Y) ?F
 case F=>
  intro w mg fa h KX G hmg
  refine' M10.all_mk KX G hmg ?q0 ?q1 ?q2 ?q3 ?q4 ?q5 ?q6 ?q7 ?q8 ?q9 ?q10 ?q11 ?q12 ?q13 ?q14 ?q15 ?q16 ?q17 ?q18 ?q19 ?q20 ?q21 ?q22 ?q23 ?q24 ?q25 ?q26 ?q27 ?q28 ?q29 ?q30 ?q31 ?q32 ?q33 ?q34 ?q35 ?q36 ?q37 ?q38 ?q39 ?q40 ?q41 ?q42 ?q43 ?q44 ?q45 ?q46 ?q47 ?q48 ?q49 ?q50 ?q51 ?q52 ?q53 ?q54 ?q55 ?q56 ?q57 ?q58 ?q59 ?q60 ?q61 ?q62 ?q63 ?q64 ?q65 ?q66 ?q67 ?q68 ?q69 ?q70 ?q71 ?q72 ?q73 ?q74 ?q75 ?q76 ?q77 ?q78 ?v0 ?v1 ?v2 ?v3 ?v4 ?v5 ?v6 ?v7 ?v8 ?v9 ?v10 ?v11 ?z0 ?z1 ?z2 ?z3 ?z4 ?z5 ?z6 ?z7 ?z8 ?z9 ?z10 ?z11 ?z12 ?z13 ?z14 ?z15 ?z16 ?z17
  (case q0|q1|q2|q3|q4|q5|q6|q7|q8|q9|q10|q11|q12|q13|q14|q15|q16|q17|q18|q19|q20|q21|q22|q23|q24|q25|q26|q27|q28|q29|q30|q31|q32|q33|q34|q35|q36|q37|q38|q39|q40|q41|q42|q43|q44|q45|q46|q47|q48|q49|q50|q51|q52|q53|q54|q55|q56|q57|q58|q59|q60|q61|q62|q63|q64|q65|q66|q67|q68|q69|q70|q71|q72|q73|q74|q75|q76|q77|q78=>refine' A4l ?a ?l ?c ?k;(case a|l|c|k=>k_is))
  (case v0|v1|v2|v3|v4|v5|v6|v7|v8|v9|v10|v11|z0|z1|z2|z3|z4|z5|z6|z7|z8|z9|z10|z11|z12|z13|z14|z15|z16|z17=>k_is)