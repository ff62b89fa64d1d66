import PyProof.Rows.All
import Wide.All
import OpenK.AllK
import Wide.FinOn
import Lean
import PyProof.EqAt
import PyProof.EqKinds
import PyProof.TupleCall
import KE.LcSums
import KE.KDictOf
import PyProof.Cells
import PyProof.ZipIter
import KE.KTryMore
import KE.KSortTup
import PyProof.Rows.SortRuns
import PyProof.DictItems
import PyProof.NeKinds
import PyProof.Rows.SetFrom
import PyProof.CollectWalk
import KE.KSortedM
import KE.KRevIter
import PyProof.ReprRoads
import PyProof.ReprLen
import PyProof.CallFns
import PySem.Challenge.RW_meadshares_k07_dues_and_fitting
set_option Elab.async false
set_option linter.all false
set_option maxRecDepth 100000
open List (all_cons all_eq_true all_map any_cons any_eq_false any_eq_true any_map append_assoc append_nil countP_cons drop_of_length_le drop_sublist drop_zero eq_nil_of_length_eq_zero exists_cons_of_ne_nil ext_getElem filter filterMap_cons filter_append filter_cons_of_neg filter_cons_of_pos filter_sublist find?_cons findIdx? foldl_cons forIn_cons forIn_nil getD_eq_getElem?_getD getElem?_drop getElem?_eq_getElem getElem?_map getElem_drop getElem_mem getElem_take length_append length_cons length_drop length_filter_le length_map length_nil length_singleton length_take lookup lookup_append lookup_cons map_append map_congr_left map_cons map_drop map_id map_map map_nil mem_append mem_append_left mem_append_right mem_cons mem_filter mem_filterMap mem_iff_getElem mem_iff_getElem? mem_map mem_map_of_mem mem_of_getElem? mem_of_mem_drop mem_of_mem_take mem_range mem_reverse mem_singleton mem_zipIdx_iff_getElem? nodup_append nodup_cons nodup_iff_pairwise_ne nodup_nil not_mem_nil of_mem_zip pairwise_append pairwise_cons pairwise_iff_getElem pairwise_map pairwise_singleton perm_append_comm size_toArray sublist_nil sum_append sum_cons take_append_drop take_of_length_le take_sublist take_succ toArray zipIdx_cons zipIdx_nil zip_cons_cons)
open PySem.Heap (get?_push_size get?_update_other get?_update_self size_push size_update)
open Nat (add_sub_cancel eq_or_lt_of_le gcd_comm le_of_eq le_of_lt le_succ le_trans lt_irrefl lt_of_le_of_lt lt_of_lt_of_le lt_of_succ_lt lt_or_ge lt_succ_of_lt lt_succ_self lt_trans mod_lt ne_of_gt ne_of_lt not_lt pow_le_pow_right sub_zero zero_add zero_le)
def zjZ:=@PySem.wpAny_bind
def zjY:=@PySem.wpAny_pure
def zjX:=@PySem.Heap.get?_push_of_some
def zjW:=@List.getElem?_eq_some_iff
def zjV:=@decide_eq_true
def zjU:=@decide_eq_false
def zjT:=@PySem.Heap.lt_size
def zjS:=@List.mem_cons_of_mem
def zjR:=@List.mem_cons_self
def zjQ:=@Nat.le_refl
set_option hygiene false
local macro_rules | `(tactic| ac_nf) => `(tactic| intro nd f cdv A outer s H vs Q E hr h)
set_option hygiene true
local macro_rules | `(tactic| ac_rfl) => `(tactic| exact ⟨rfl, rfl, rfl, by decide +kernel, rfl, by decide +kernel, by decide +kernel⟩)
local macro_rules | `(tactic| omega) => `(tactic| lia)
namespace L2
open PySem PySem.Spec PyProof.Rows
abbrev Key:=Sum Int Str
def jW:Key->Value->Bool
 | .inl k,v=>Value.isInt k v
 | .inr x,v=>Value.isStrOf x v
def A8b (w:World):Key->Int
 | .inl k=>hashInt k
 | .inr x=>hashStr w x
theorem keyIs_shape:∀{k:Key}{v:Value},jW k v=true->(∃i t,k=Sum.inl i/\v=Value.int i t)\/(∃x t,k=Sum.inr x/\v=Value.str x t)
 | .inl i,v,h=>by
  obtain⟨t,e⟩:=Value.isInt_shape (k:=i) (v:=v) h;exact .inl ⟨i,t,rfl,e⟩
 | .inr x,v,h=>by
  obtain⟨t,e⟩:=Value.isStrOf_shape (x:=x) (v:=v) h;exact .inr ⟨x,t,rfl,e⟩
theorem A07 (i:Int)(t:Tok):jW (.inl i) (.int i t)=true:=by simp [jW,Value.isInt]
theorem A70 (x:Str)(t:Tok):jW (.inr x) (.str x t)=true:=by simp [jW,Value.isStrOf]
theorem A1y (a b:Int):decide ((Sum.inl a:Key)=Sum.inl b)=(a==b):=by
 by_cases e:a=b
 ·subst e;simp
 ·have h:¬(Sum.inl a:Key)=Sum.inl b:=fun q=>e (Sum.inl.inj q);rw [zjU h];exact(beq_eq_false_iff_ne.mpr e).symm
theorem A2a (a b:Str):decide ((Sum.inr a:Key)=Sum.inr b)=decide (a=b):=by
 by_cases e:a=b
 ·subst e;simp
 ·have h:¬(Sum.inr a:Key)=Sum.inr b:=fun q=>e (Sum.inr.inj q);rw [zjU h,zjU e]
theorem A3u (a:Int)(b:Str):decide ((Sum.inl a:Key)=Sum.inr b)=false:=zjU (fun q=>nomatch q)
theorem A3p (a:Str)(b:Int):decide ((Sum.inr a:Key)=Sum.inl b)=false:=zjU (fun q=>nomatch q)
def dR (prog:Program)(w:World):PySem.KeyKind prog w Key where
 is:=jW
 hash:=A8b w
 inj:=fun v a b ha hb=>by
  rcases keyIs_shape ha with⟨i,t,rfl,rfl⟩| ⟨x,t,rfl,rfl⟩
  ·rcases keyIs_shape hb with⟨j,u,rfl,e⟩| ⟨y,u,rfl,e⟩
   ·injection e with e1 _;rw [e1]
   ·exact nomatch e
  ·rcases keyIs_shape hb with⟨j,u,rfl,e⟩| ⟨y,u,rfl,e⟩
   ·exact nomatch e
   ·injection e with e1 _;rw [e1]
 byValue:=fun k v h=>by
  rcases keyIs_shape h with⟨i,t,rfl,rfl⟩| ⟨x,t,rfl,rfl⟩<;>rfl
 pyHash:=fun hv h=>by
  rcases keyIs_shape hv with⟨i,t,rfl,rfl⟩| ⟨x,t,rfl,rfl⟩
  ·exact wpAny_pyHash_int h
  ·exact wpAny_pyHash_str h
 eqBool:=fun hu hv h=>by
  rcases keyIs_shape hu with⟨i,t,rfl,rfl⟩| ⟨x,t,rfl,rfl⟩
  ·rcases keyIs_shape hv with⟨j,u,rfl,rfl⟩| ⟨y,u,rfl,rfl⟩
   ·rw [A1y]at h;exact wpAny_eqBool_int h
   ·rw [A3u]at h;exact SeqAt.EqAt.int_str i t y u _ _ _ _ h
  ·rcases keyIs_shape hv with⟨j,u,rfl,rfl⟩| ⟨y,u,rfl,rfl⟩
   ·rw [A3p]at h;exact SeqAt.EqAt.str_int x t j u _ _ _ _ h
   ·rw [A2a]at h;exact wpAny_eqBool_str h
 «strs»:=fun k x t v h=>by
  rcases keyIs_shape h with⟨i,u,rfl,e⟩| ⟨y,u,rfl,e⟩
  ·exact nomatch e
  ·injection e with e1 _;subst e1;cases v<;>rfl
theorem A81 (prog:Program)(w:World)(i:Int)(t:Tok):(dR prog w).is (.inl i) (.int i t)=true:=A07 i t
theorem A3c (prog:Program)(w:World)(x:Str)(t:Tok):(dR prog w).is (.inr x) (.str x t)=true:=A70 x t
inductive V where
 |non|bl (b:Bool)|int (i:Int)|str (x:Str)|byt (b:Array UInt8)|flt (b:UInt64)|ref (a:Addr)|ty (n:String)
 deriving DecidableEq
def RelV:V->Value->Prop
 | .non,u=>u=Value.none
 | .bl b,u=>u=Value.bool b
 | .int i,u=> ∃t,u=Value.int i t
 | .str x,u=> ∃t,u=Value.str x t
 | .byt b,u=> ∃t,u=Value.bytes b t
 | .flt b,u=> ∃t,u=Value.float b t
 | .ref a,u=>u=Value.ref a
 | .ty n,u=>u=Value.type n
abbrev Vals:List V->List Value->Prop:=Paired RelV
theorem Vals.length {xs:List V}{us:List Value}(r:Vals xs us):xs.length=us.length:=Paired.length r
theorem Vals.get:∀{xs:List V}{us:List Value}{i:Nat}{x:V},Vals xs us->xs[i]?=some x->∃u,us[i]?=some u/\RelV x u
 |_,_,_,_,.nil,e=>by simp at e
 |_,_,0,_,.cons r _,e=>by simp at e;subst e;exact⟨_,rfl,r⟩
 |_,_,i+1,x,.cons _ t,e=>by
  obtain⟨u,h1,h2⟩:=Vals.get (i:=i) (x:=x) t (by simpa using e);exact⟨u,by simpa using h1,h2⟩
theorem Vals.set {x:V}{u:Value}(r:RelV x u):∀{xs:List V}{us:List Value}(i:Nat),Vals xs us->Vals (xs.set i x) (us.set i u)
 |_,_,_,.nil=> .nil
 |_,_,0,.cons _ t=> .cons r t
 |_,_,i+1,.cons q t=> .cons q (Vals.set r i t)
theorem Vals.append:∀{xs ys:List V}{us ws:List Value},Vals xs us->Vals ys ws->Vals (xs++ys) (us++ws)
 |_,_,_,_,.nil,s=>s
 |_,_,_,_,.cons r t,s=> .cons r (Vals.append t s)
theorem Vals.take:∀{xs:List V}{us:List Value}(n:Nat),Vals xs us->Vals (xs.take n) (us.take n)
 |_,_,0,_=> .nil
 |_,_,_+1,.nil=> .nil
 |_,_,n+1,.cons r t=> .cons r (Vals.take n t)
theorem Vals.drop:∀{xs:List V}{us:List Value}(n:Nat),Vals xs us->Vals (xs.drop n) (us.drop n)
 |_,_,0,r=>r
 |_,_,_+1,.nil=> .nil
 |_,_,n+1,.cons _ t=>Vals.drop n t
def RelO:Option V->Option Value->Prop
 |some v,some u=>RelV v u
 |none,none=>True
 |_,_=>False
def KV {κ:Type}:List (κ×V)->List (κ×Value)->Prop:=Paired fun(p:κ×V) (q:κ×Value)=>p.1=q.1/\RelV p.2 q.2
def kV:Key->V
 | .inl i=> .int i
 | .inr x=> .str x
inductive HO where
  |lst (xs:List V)
  |tup (xs:List V)
  |dK (kvs:List (Key×V))|dT (kvs:List (List Key×V))
  |set (S:Int->Bool) (n:Nat)
  |ins (C dx:Addr) (fs:List (Str×V))
  |own (x:Addr)
  |xd (fs:List (Str×V))
  |met (f x:Addr)
  |rng (lo hi:Int)
  |frz (o:Obj) (u:HO)
  |tbl (ps:Array Value)
  |ext (φ:Heap->Prop)
abbrev Hp:=Addr->Option HO
def upd (H:Hp)(a:Addr)(o:HO):Hp:=fun b=>if b=a then some o else H b
theorem aG {H:Hp}{a:Addr}{o:HO}:upd H a o a=some o:=by unfold upd;rw [if_pos rfl]
theorem aY {H:Hp}{a b:Addr}{o:HO}(h:b≠a):upd H a o b=H b:=by unfold upd;rw [if_neg h]
theorem rQ {H:Hp}{a b:Addr}{o u:HO}(h:H a=some o)(h':H b=some u)(d:o≠u):a≠b:=by intro e;subst e;rw [h]at h';exact d (Option.some.inj h')
theorem bL {H:Hp}{a b:Addr}{o:HO}(h:H a=some o)(h':H b=none):a≠b:=by intro e;subst e;rw [h]at h';cases h'
section
variable (P:Program)(w:World)
def ObjOk (H:Hp)(h:Heap)(a:Addr):HO->Prop
 | .lst xs=>xs.length<=sizeLine/\∃(its:List Value)(n:Nat),Vals xs its/\h.get? a=some {cls:=.type "list",data:=.seq its.toArray n}
 | .tup xs=>xs.length<=sizeLine/\∃its:List Value,Vals xs its/\IsTup h a its.toArray
 | .dK kvs=>kvs.length<=sizeLine/\(a==sysModules)=false/\∃vs,KV kvs vs/\h.DictOf (dR P w) a vs
 | .dT kvs=>kvs.length<=sizeLine/\(a==sysModules)=false/\∃xs:List (List Key×Addr×Value),
   Paired (fun(p:List Key×V) (q:List Key×Addr×Value)=>p.1=q.1/\H q.2.1=some (.tup (p.1.map kV))/\RelV p.2 q.2.2) kvs xs/\
   ∃o es ep,h.get? a=some o/\o.ExactDict/\o.data= .dict es ep/\es.toList=xs.map (entryOfKey (tupleKind (dR P w)))/\(xs.map (·.1)).Nodup
 | .set S n=>h.SetOf (intKind P w) a S n
 | .ins C dx fs=>H dx=some (.own a)/\fs.length<=1000/\dx≠a/\h.get? a=some (W.instObj C dx)/\
   ∃mA,h.Ns1 dx mA/\(∀f,RelO (fs.lookup f) (mA f))/\PySem.Within mA (fs.map (·.1))
 | .own _=> ∃o,h.get? a=some o
 | .xd fs=> ∃mA,h.Ns1 a mA/\∀f,RelO (fs.lookup f) (mA f)
 | .rng lo hi=> ∃t u v,h.get? a=some {cls:=.type "range",data:=.fields #[.int lo t,.int hi u,.int 1 v]}
 | .frz o u=>h.get? a=some o/\ObjOk H h a u
 | .tbl ps=>h.get? a=some {cls:=.none,data:=.fields ps}
 | .met f x=>h.get? a=some (W.methodObj (.ref f) (.ref x))
 | .ext φ=>φ h/\(∃o,h.get? a=some o)/\∀h1 h2:Heap,φ h1->(∀o,h1.get? a=some o->h2.get? a=some o)->φ h2
def HOk (H:Hp)(h:Heap):Prop:=∀a o,H a=some o->ObjOk P w H h a o
end
section
variable {P:Program}{w:World}{H H':Hp}{h h':Heap}{a:Addr}{o:HO}
theorem ObjOk.lt (x:ObjOk P w H h a o):a<h.objs.size:=by
 cases o with
 |lst xs=>obtain⟨_,_,_,_,e⟩:=x;exact zjT e
 |tup xs=>obtain⟨_,_,_,p⟩:=x;exact p.lt
 |dK kvs=>obtain⟨_,_,_,_,o,_,_,e,_⟩:=x;exact zjT e
 |dT kvs=>obtain⟨_,_,_,_,o,_,_,e,_⟩:=x;exact zjT e
 |set S n=>obtain⟨o,_,_,_,e,_⟩:=x;exact zjT e
 |ins C dx fs=>obtain⟨_,_,_,e,_⟩:=x;exact zjT e
 |own y=>obtain⟨_,e⟩:=x;exact zjT e
 |xd fs=>obtain⟨_,⟨_,_,_,e,_⟩,_⟩:=x;exact zjT e
 |rng lo hi=>obtain⟨_,_,_,e⟩:=x;exact zjT e
 |frz ob u=>obtain⟨e,_⟩:=x;exact zjT e
 |tbl ps=>exact zjT (show h.get? a=some _ from x)
 |met f y=>exact zjT (show h.get? a=some _ from x)
 |ext φ=>obtain⟨_,⟨_,e⟩,_⟩:=x;exact zjT e
theorem Paired.mapP {α β:Type}{F G:α->β->Prop}:∀{l₁:List α}{l₂:List β},Paired F l₁ l₂->(∀a b,F a b->G a b)->Paired G l₁ l₂
 |_,_,.nil,_=> .nil
 |_,_,.cons r t,f=> .cons (f _ _ r) (Paired.mapP t f)
theorem ObjOk.stay (x:ObjOk P w H h a o)(k:∀b u,(b=a\/H b=some (.own a))->h.get? b=some u->h'.get? b=some u)
  (ho:∀b,H b=some (.own a)->H' b=some (.own a))(ht:∀b xs,H b=some (.tup xs)->H' b=some (.tup xs)):ObjOk P w H' h' a o:=by
 induction o with
 |lst xs=>obtain⟨z,its,n,r,e⟩:=x;exact⟨z,its,n,r,k _ _ (.inl rfl) e⟩
 |tup xs=>obtain⟨z,its,r,ob,e,c⟩:=x;exact⟨z,its,r,ob,k _ _ (.inl rfl) e,c⟩
 |dK kvs=>obtain⟨z,y,vs,r,ob,es,ep,e,c⟩:=x;exact⟨z,y,vs,r,ob,es,ep,k _ _ (.inl rfl) e,c⟩
 |dT kvs=>
  obtain⟨z,y,xs,r,ob,es,ep,e,c⟩:=x;exact⟨z,y,xs,Paired.mapP r fun p q z=> ⟨z.1,ht _ _ z.2.1,z.2.2⟩,ob,es,ep,k _ _ (.inl rfl) e,c⟩
 |set S n=>obtain⟨ob,es,ep,t,e,c⟩:=x;exact⟨ob,es,ep,t,k _ _ (.inl rfl) e,c⟩
 |ins C dx fs=>
  obtain⟨d,z,ne,e,mA,⟨od,es,ep,e2,c⟩,r⟩:=x;exact⟨ho _ d,z,ne,k _ _ (.inl rfl) e,mA,⟨od,es,ep,k _ _ (.inr d) e2,c⟩,r⟩
 |own y=>obtain⟨ob,e⟩:=x;exact⟨ob,k _ _ (.inl rfl) e⟩
 |xd fs=>obtain⟨mA,⟨od,es,ep,e,c⟩,r⟩:=x;exact⟨mA,⟨od,es,ep,k _ _ (.inl rfl) e,c⟩,r⟩
 |rng lo hi=>obtain⟨t,u,v,e⟩:=x;exact⟨t,u,v,k _ _ (.inl rfl) e⟩
 |frz ob u ih=>obtain⟨e,q⟩:=x;exact⟨k _ _ (.inl rfl) e,ih q⟩
 |tbl ps=>
  have e:h.get? a=some {cls:=.none,data:=.fields ps}:=x;show h'.get? a=some {cls:=.none,data:=.fields ps};exact k a _ (.inl rfl) e
 |met f y=>
  have e:h.get? a=some (W.methodObj (.ref f) (.ref y)):=x;show h'.get? a=some (W.methodObj (.ref f) (.ref y));exact k a _ (.inl rfl) e
 |ext φ=>obtain⟨p,⟨o,e⟩,st⟩:=x;exact⟨st _ _ p fun o q=>k _ _ (.inl rfl) q,⟨o,k _ _ (.inl rfl) e⟩,st⟩
theorem HOk.lt (x:HOk P w H h)(e:H a=some o):a<h.objs.size:=(x a o e).lt
theorem HOk.fresh (x:HOk P w H h)(e:h.objs.size<=a):H a=none:=by
 cases q:H a with
 |none=>rfl
 |some u=>exact absurd (lt_of_lt_of_le (x.lt q) e) (lt_irrefl _)
theorem HOk.kept (x:HOk P w H h)(k:∀b u,h.get? b=some u->h'.get? b=some u):HOk P w H h':=fun a o e=>
 (x a o e).stay (fun b u _ q=>k b u q) (fun _ q=>q) fun _ _ q=>q
theorem HOk.laid (x:HOk P w H h)(k:∀b u,h.get? b=some u->h'.get? b=some u)(hp:h.objs.size<=a)(new:ObjOk P w (upd H a o) h' a o):HOk P w (upd H a o) h':=fun b u e=>by
 have hn:=x.fresh hp;by_cases hb:b=a
 ·subst hb;rw [aG]at e;cases e;exact new
 ·rw [aY hb]at e;exact(x b u e).stay (fun c v _ q=>k c v q) (fun c q=>by rw [aY (bL q hn)];exact q) fun c xs q=>by rw [aY (bL q hn)];exact q
end
def Rd (H:Hp)(a:Addr)(u:HO):Prop:=H a=some u\/ ∃o,H a=some (.frz o u)
theorem Rd.ok {P:Program}{w:World}{H:Hp}{h:Heap}{a:Addr}{u:HO}(r:Rd H a u)(x:HOk P w H h):ObjOk P w H h a u:=by
 rcases r with r| ⟨o,r⟩
 ·exact x a u r
 ·obtain⟨_,q⟩:=x a _ r;exact q
def Mut:Option HO->Prop
 |some (.lst _)=>True
 |some (.dK _)=>True
 |some (.dT _)=>True
 |some (.set _ _)=>True
 |some (.ins _ _ _)=>True
 |some (.ext _)=>True
 |_=>False
section
variable {P:Program}{w:World}{H:Hp}{h h':Heap}{x e:Addr}{o':HO}
theorem HOk.write (ok:HOk P w H h)(mu:Mut (H x))(he:e=x\/H e=some (.own x))(k:∀b u,b≠e->h.get? b=some u->h'.get? b=some u)(heo:∃u,h'.get? e=some u)
  (new:ObjOk P w (upd H x o') h' x o'):HOk P w (upd H x o') h':=fun b u q=>by
 have nown:∀c y,H c=some (.own y)->c≠x:=fun c y r z=>by subst z;rw [r]at mu;exact mu
 have ntup:∀c xs,H c=some (.tup xs)->c≠x:=fun c xs r z=>by subst z;rw [r]at mu;exact mu
 by_cases hb:b=x
 ·subst hb;rw [aG]at q;cases q;exact new
 ·rw [aY hb]at q;by_cases hbe:b=e
  ·have q':H b=some (.own x):=by
    rcases he with z|z
    ·exact absurd (hbe.trans z) hb
    ·rw [hbe];exact z
   rw [q]at q';cases q';obtain⟨v,hv⟩:=heo;exact⟨v,by rw [hbe];exact hv⟩
  ·refine(ok b u q).stay (fun c v hc r=>k c v ?_ r) (fun c r=>by rw [aY (nown c b r)];exact r) fun c xs r=>by rw [aY (ntup c xs r)];exact r
   rcases hc with rfl|hc
   ·exact hbe
   ·rintro rfl;rcases he with z|z
    ·exact nown c b hc z
    ·rw [hc]at z;cases z;exact hb rfl
end
structure Un (fs ex:List Addr)(H H':Hp)(h h':Heap):Prop where
 keep:∀b o,h.get? b=some o->H b=none->b∉fs->b∉ex->h'.get? b=some o
 slot:∀b o,h.get? b=some o->H b=none->b∈fs->b∉ex->∃sl,h'.get? b=some {o with slots:=sl}
 free:∀b o,h.get? b=some o->H b=none->b∉ex->H' b=none
 there:∀b o,h.get? b=some o->b∉ex->∃o',h'.get? b=some o'
 tups:∀b xs,H b=some (.tup xs)->H' b=some (.tup xs)
 frzs:∀b o u,H b=some (.frz o u)->H' b=some (.frz o u)
 tbls:∀b ps,H b=some (.tbl ps)->∃more,H' b=some (.tbl (ps++more))
section
variable {fs fs' ex ex':List Addr}{H H1 H2:Hp}{h h1 h2 h':Heap}{a x e:Addr}{o:HO}
theorem Un.any (u:Un fs ex H H1 h h1){b:Addr}{ob:Obj}(q:h.get? b=some ob)(n:H b=none)(hx:b∉ex):∃sl,h1.get? b=some {ob with slots:=sl}:=by
 by_cases hb:b∈fs
 ·exact u.slot b ob q n hb hx
 ·exact⟨ob.slots,u.keep b ob q n hb hx⟩
theorem Un.kept (k:∀b u,h.get? b=some u->h'.get? b=some u):Un fs ex H H h h':=
 ⟨fun b ob q _ _ _=>k b ob q,fun b ob q _ _ _=> ⟨ob.slots,k b ob q⟩,fun _ _ _ n _=>n,fun b ob q _=> ⟨ob,k b ob q⟩,fun _ _ q=>q,fun _ _ _ q=>q,fun _ ps q=> ⟨#[],by rw [q];simp⟩⟩
theorem Un.refl:Un fs ex H H h h:=Un.kept fun _ _ q=>q
theorem Un.laid (k:∀b u,h.get? b=some u->h'.get? b=some u)(hp:h.objs.size<=a)(hn:H a=none):Un fs ex H (upd H a o) h h' where
 keep:=fun b u q _ _ _=>k b u q
 slot:=fun b u q _ _ _=> ⟨u.slots,k b u q⟩
 free:=fun b u q n _=>by rw [aY (ne_of_lt (lt_of_lt_of_le (zjT q) hp))];exact n
 there:=fun b u q _=> ⟨u,k b u q⟩
 tups:=fun b xs q=>by rw [aY (bL q hn)];exact q
 frzs:=fun b u xs q=>by rw [aY (bL q hn)];exact q
 tbls:=fun b ps q=> ⟨#[],by rw [aY (bL q hn),q];simp⟩
theorem Un.write (mu:Mut (H x))(he:e=x\/H e=some (.own x))(k:∀b u,b≠e->h.get? b=some u->h'.get? b=some u)(heo:∃u,h'.get? e=some u):Un fs ex H (upd H x o) h h':=by
 have hx:∀b,H b=none->b≠x:=fun b n z=>by subst z;rw [n]at mu;exact mu
 have hb:∀b,H b=none->b≠e:=fun b n z=>by
  subst z;rcases he with r|r
  ·exact hx b n r
  ·rw [n]at r;cases r
 have hm:∀b u,H b=some u->¬Mut (some u)->b≠x:=fun b u q nm z=>by subst z;rw [q]at mu;exact nm mu
 refine⟨fun b u q n _ _=>k b u (hb b n) q,fun b u q n _ _=> ⟨u.slots,k b u (hb b n) q⟩,fun b u q n _=>by rw [aY (hx b n)];exact n,fun b u q _=> ?_,
  fun b xs q=>by rw [aY (hm b _ q fun z=>z)];exact q,fun b u xs q=>by rw [aY (hm b _ q fun z=>z)];exact q,fun b ps q=> ⟨#[],by rw [aY (hm b _ q fun z=>z),q];simp⟩⟩
 by_cases hbe:b=e
 ·subst hbe;exact heo
 ·exact⟨u,k b u hbe q⟩
end
def trk (h:Heap)(H:Hp):List Addr:=(List.range h.objs.size).filter fun a=>(H a).isSome
def fZ (h:Heap)(H:Hp):Heap:=W.hideAll h (trk h H)
theorem A48 (h:Heap)(H:Hp):(fZ h H).objs.size=h.objs.size:=W.hideAll_size _ _
theorem A62 {h:Heap}{H:Hp}{b:Addr}{o:Obj}(e:h.get? b=some o)(n:H b=none):(fZ h H).get? b=some o:=
 W.hideAll_get _ e fun hm=>by
  have q:(H b).isSome=true:=(mem_filter.mp hm).2;rw [n]at q;simp at q
theorem A5a {h:Heap}{H:Hp}{b:Addr}{o:Obj}(e:(fZ h H).get? b=some o):h.get? b=some o/\H b=none:=by
 have e':h.get? b=some o:=W.of_hideAll (trk h H) e;refine⟨e',?_⟩;cases q:H b with
 |none=>rfl
 |some x=>
  have hm:b∈trk h H:=mem_filter.mpr ⟨mem_range.mpr (zjT e'),by simp [q]⟩;have z:(fZ h H).get? b=none:=W.hideAll_none (trk h H) hm;rw [z]at e;cases e
def A43 (g h:Heap)(L:Addr):List (Addr×Obj):=(List.range h.objs.size).filterMap fun a=>if a=L\/(g.get? a).isSome=true then none else(h.get? a).map fun o=>(a,o)
def rest (g h:Heap)(L d:Addr):List (Addr×Obj):=(A43 g h L).filter fun p=>decide (p.1≠d)
structure Mod (K:W.Frag)(mg:Str->Option Value)(base:Heap):Prop where
 kin:K.In base
 glob:base.Ns mainGlobals mg
 blt:∃mb,base.Ns builtinsNs mb/\∀x:Str,x≠ "__name__"->mb x=bootBuiltins x
 nolimit:base.NoLimit
structure Cx where
 prog:Program
 w:World
 K:W.Frag
 mg:Str->Option Value
 base:Heap
 A:Around
 N:List Str
 s₀:Shared
 H₀:Hp
 env:Env
 outer:List Env
 stack:List Env
 ex:List Addr
 fn:Str->Bool
 calm:Bool
 pn:List (Addr×Obj)
 xe:Value->Shared->Prop
def frs (l:List Env):List Addr:=l.filterMap (·.frame)
abbrev Cx.fs (X:Cx):List Addr:=frs X.outer
def Vis (sc:Scope)(x:Str):Prop:=sc.names.lookup x=some .local\/sc.names.lookup x=some .cell\/sc.names.lookup x=some .free
def Loc (sc:Scope)(x:Str):Prop:=sc.names.lookup x=some .local\/sc.names.lookup x=some .cell
def A21 (env:Env)(h:Heap)(m:Str->Option Value)(x:Str)(u:Value):Prop:=
 (env.kindOf x=some .local/\m x=some u)\/((env.kindOf x=some .cell\/env.kindOf x=some .free)/\∃c,env.cells.lookup x=some c/\h.IsCell c (some u))
structure Cx.Ok (X:Cx):Prop where
 mod:Mod X.K X.mg X.base
 kind:X.env.scope.kind= .function
 glob:X.env.globals=mainGlobals
 blt:X.env.builtins=builtinsNs
 above:X.s₀.heap.objs.size<=X.env.locals
 inj:∀x y c,X.env.cells.lookup x=some c->X.env.cells.lookup y=some c->x=y
 has:∀x,(X.env.kindOf x=some .cell\/X.env.kindOf x=some .free)->∃c,X.env.cells.lookup x=some c
 cab:∀x c,X.fn x=true->X.env.cells.lookup x=some c->X.s₀.heap.objs.size<=c
 hd:X.calm=true->X.A.handled=none
 frames:X.A.frames=some X.stack
 stk:X.stack=X.outer\/(X.stack=X.env::X.outer/\X.env.frame=some X.env.locals)
 exf:∀b∈X.ex,b≠X.env.locals/\∀x c,X.env.cells.lookup x=some c->c≠b
 bs:∀b o,X.base.get? b=some o->X.s₀.heap.get? b=some o/\X.H₀ b=none
 bsz:X.base.objs.size<=X.s₀.heap.objs.size
 noex:∀b o,X.base.get? b=some o->b∉X.ex
 exfs:∀b∈X.ex,b∉X.fs
 funs:X.s₀.heap.FunFrames X.base X.outer
 frf:∀b∈X.fs,X.H₀ b=none
structure Inv (X:Cx)(pins:List (Addr×Obj))(σ:List (Option V))(H:Hp)(s:Shared):Prop where
 ok:X.Ok
 os:s.os=X.s₀.os
 bare:AllBare s.gens
 base:Un X.fs X.ex X.H₀ H X.s₀.heap s.heap
 loc:∃m,s.heap.Ns X.env.locals m/\∀(i:Nat)(x:Str)(v:V),X.N[i]?=some x->σ[i]?=some (some v)->Vis X.env.scope x->∃u,RelV v u/\A21 X.env s.heap m x u
 cell:∀x c,X.env.cells.lookup x=some c->∃v,s.heap.IsCell c v
 free:H X.env.locals=none
 freeC:∀x c,X.env.cells.lookup x=some c->H c=none
 pin:∀p∈X.pn++pins,s.heap.get? p.1=some p.2/\H p.1=none/\p.1≠X.env.locals/\p.1∉X.fs/\∀v,p.2.data≠ .cell v
 hok:HOk X.prog X.w H s.heap
 len:σ.length=X.N.length
section
variable {X:Cx}{pins:List (Addr×Obj)}{σ:List (Option V)}{H H':Hp}{s:Shared}{h':Heap}
theorem Cx.Ok.nofr (ok:X.Ok){b:Addr}{o:Obj}(e:X.base.get? b=some o):b∉X.fs:=fun hb=>by
 have:=(ok.funs.mem hb).1;rw [e]at this;cases this
theorem Inv.bs (I:Inv X pins σ H s):∀b o,X.base.get? b=some o->s.heap.get? b=some o/\H b=none:=fun b o e=>
 ⟨I.base.keep b o (I.ok.bs b o e).1 (I.ok.bs b o e).2 (I.ok.nofr e) (I.ok.noex b o e),I.base.free b o (I.ok.bs b o e).1 (I.ok.bs b o e).2 (I.ok.noex b o e)⟩
theorem Inv.bk (I:Inv X pins σ H s):∀b o,X.base.get? b=some o->s.heap.get? b=some o:=fun b o e=>(I.bs b o e).1
theorem Inv.mod (I:Inv X pins σ H s):Mod X.K X.mg X.base:=I.ok.mod
theorem Inv.kIn (I:Inv X pins σ H s):X.K.In s.heap:=I.ok.mod.kin.keeps I.bk
theorem Inv.lt (I:Inv X pins σ H s):X.env.locals<s.heap.objs.size:=let ⟨_,hn,_⟩:=I.loc;hn.lt
theorem Inv.sz (I:Inv X pins σ H s):X.s₀.heap.objs.size<=s.heap.objs.size:=le_trans I.ok.above (le_of_lt I.lt)
theorem Inv.nofs (I:Inv X pins σ H s){a:Addr}(h:s.heap.objs.size<=a):a∉X.fs:=fun hb=>by
 obtain⟨_,o,ho,_⟩:=I.ok.funs.mem hb;exact absurd (lt_of_lt_of_le (zjT ho) (le_trans I.sz h)) (lt_irrefl _)
theorem Inv.cne (I:Inv X pins σ H s):∀x c,X.env.cells.lookup x=some c->c≠X.env.locals:=fun x c e z=>by
 obtain⟨v,o,ho,hd⟩:=I.cell x c e;obtain⟨m,⟨o',es,ep,ho',hd',_⟩,_⟩:=I.loc;rw [z,ho']at ho;cases ho;rw [hd']at hd;cases hd
theorem Inv.funs (I:Inv X pins σ H s):s.heap.FunFrames X.base X.outer:=by
 have all:∀(l:List Env),(∀b∈frs l,b∈X.fs)->X.s₀.heap.FunFrames X.base l->s.heap.FunFrames X.base l:=by
  intro l
  induction l with
  |nil=>intro _ _;trivial
  |cons env r ih=>
   intro hs hl;obtain⟨hk,⟨L,o,hf,hn,ho,hd⟩,hr⟩:=hl;have hL:L∈X.fs:=hs L (by unfold frs;rw [filterMap_cons,hf];exact zjR);obtain⟨sl,e⟩:=I.base.slot L o ho (I.ok.frf L hL) hL fun z=>I.ok.exfs L z hL;exact⟨hk,⟨L,_,hf,hn,e,hd⟩,ih (fun b hb=>hs b (by unfold frs;rw [filterMap_cons,hf];exact zjS _ hb)) hr⟩
 exact all X.outer (fun _ hb=>hb) I.ok.funs
theorem Inv.stack (I:Inv X pins σ H s):s.heap.FunFrames X.base X.stack:=by
 rcases I.ok.stk with e| ⟨e,hf⟩
 ·rw [e];exact I.funs
 ·rw [e];obtain⟨m,hn,_⟩:=I.loc;refine .cons (by rw [I.ok.kind];decide) hf hn ?_ I.funs;exact Heap.get?_none_of_le (le_trans I.ok.bsz I.ok.above)
theorem Inv.stkSub (I:Inv X pins σ H s):∀b∈frs X.stack,b∈X.env.locals::X.fs:=fun b hb=>by
 rcases I.ok.stk with e| ⟨e,hf⟩
 ·rw [e]at hb;exact zjS _ hb
 ·rw [e]at hb;unfold frs at hb;rw [filterMap_cons,hf]at hb;exact hb
theorem Inv.stkFree (I:Inv X pins σ H s):∀b∈frs X.stack,H b=none:=fun b hb=>by
 rcases mem_cons.mp (I.stkSub b hb)with e|hb
 ·rw [e];exact I.free
 ·obtain⟨_,o,ho,_⟩:=I.ok.funs.mem hb;exact I.base.free b o ho (I.ok.frf b hb) fun z=>I.ok.exfs b z hb
theorem Inv.step {g':Array GenState}{t':Nat}{d':Drawn}{ch:List Addr}(I:Inv X pins σ H s)
  (hch:∀b∈ch,(b∈X.ex\/X.s₀.heap.objs.size<=b)/\b≠X.env.locals/\(∀x c,X.env.cells.lookup x=some c->c≠b)/\∀p∈X.pn++pins,p.1≠b)
  (keep:∀b o,b≠X.env.locals->b∉X.fs->b∉ch->s.heap.get? b=some o->H b=none->h'.get? b=some o)
  (slot:∀b o,b≠X.env.locals->b∈X.fs->b∉ch->s.heap.get? b=some o->H b=none->∃sl,h'.get? b=some {o with slots:=sl})(free:∀b o,b∉ch->s.heap.get? b=some o->H b=none->H' b=none)
  (there:∀b o,b∉ch->s.heap.get? b=some o->∃o',h'.get? b=some o')
  (tups:∀b xs,H b=some (.tup xs)->H' b=some (.tup xs))(frzs:∀b o u,H b=some (.frz o u)->H' b=some (.frz o u))(tbls:∀b ps,H b=some (.tbl ps)->∃more,H' b=some (.tbl (ps++more)))
  (ns:∀m,s.heap.Ns X.env.locals m->h'.Ns X.env.locals m)(hok:HOk X.prog X.w H' h')(hg:AllBare g'):
  Inv X pins σ H' {s with heap:=h',gens:=g',drawn:=d',toks:=t'}:=by
 have neL:∀b o,X.s₀.heap.get? b=some o->b≠X.env.locals:=fun b o e=>ne_of_lt (lt_of_lt_of_le (zjT e) I.ok.above);have neC:∀b o,X.s₀.heap.get? b=some o->b∉X.ex->b∉ch:=fun b o e hx hb=>by
  rcases(hch b hb).1 with z|z
  ·exact hx z
  ·exact absurd (lt_of_lt_of_le (zjT e) z) (lt_irrefl _)
 have cellK:∀x c,X.env.cells.lookup x=some c->∀v,s.heap.IsCell c v->h'.IsCell c v:=fun x c e v ⟨o,ho,hd⟩=>by
  have nch:c∉ch:=fun z=>(hch c z).2.2.1 x c e rfl;by_cases hc:c∈X.fs
  ·obtain⟨sl,q⟩:=slot c o (I.cne x c e) hc nch ho (I.freeC x c e);exact⟨_,q,hd⟩
  ·exact⟨o,keep c o (I.cne x c e) hc nch ho (I.freeC x c e),hd⟩
 refine⟨I.ok,I.os,hg,⟨fun b o e n hb hx=> ?_,fun b o e n hb hx=> ?_,fun b o e n hx=> ?_,fun b o e hx=> ?_,fun b xs e=>tups b xs (I.base.tups b xs e),fun b o xs e=>frzs b o xs (I.base.frzs b o xs e),fun b ps e=> ?_⟩,?_,fun x c e=> ?_,?_,fun x c e=> ?_,fun p hp=> ?_,hok,I.len⟩
 ·exact keep b o (neL b o e) hb (neC b o e hx) (I.base.keep b o e n hb hx) (I.base.free b o e n hx)
 ·obtain⟨sl,e1⟩:=I.base.slot b o e n hb hx;obtain⟨sl',e2⟩:=slot b _ (neL b o e) hb (neC b o e hx) e1 (I.base.free b o e n hx);exact⟨sl',e2⟩
 ·obtain⟨o',e1⟩:=I.base.there b o e hx;exact free b o' (neC b o e hx) e1 (I.base.free b o e n hx)
 ·obtain⟨o',e1⟩:=I.base.there b o e hx;exact there b o' (neC b o e hx) e1
 ·obtain⟨m1,e1⟩:=I.base.tbls b ps e;obtain⟨m2,e2⟩:=tbls b _ e1;exact⟨m1++m2,by rw [e2,Array.append_assoc]⟩
 ·obtain⟨m,hn,hl⟩:=I.loc;refine⟨m,ns m hn,fun i x v e1 e2 e3=> ?_⟩;obtain⟨u,r,l⟩:=hl i x v e1 e2 e3;refine⟨u,r,?_⟩;rcases l with l| ⟨k,c,e,z⟩
  ·exact .inl l
  ·exact .inr ⟨k,c,e,cellK x c e _ z⟩
 ·obtain⟨v,z⟩:=I.cell x c e;exact⟨v,cellK x c e v z⟩
 ·obtain⟨m,⟨o,_,_,ho,_⟩,_⟩:=I.loc;exact free _ o (fun z=>(hch _ z).2.1 rfl) ho I.free
 ·obtain⟨v,o,ho,hd⟩:=I.cell x c e;exact free c o (fun z=>(hch c z).2.2.1 x c e rfl) ho (I.freeC x c e)
 ·obtain⟨e,n,ne,nf,d⟩:=I.pin p hp;have nch:p.1∉ch:=fun z=>(hch p.1 z).2.2.2 p hp rfl;exact⟨keep p.1 p.2 ne nf nch e n,free p.1 p.2 nch e n,ne,nf,d⟩
theorem Inv.un {t':Nat}(I:Inv X pins σ H s)(u:Un X.fs [] H H' s.heap h')(hok:HOk X.prog X.w H' h'):Inv X pins σ H' {s with heap:=h',toks:=t'}:=by
 obtain⟨m,⟨o,es,ep,ho,r⟩,_⟩:=id I.loc;obtain⟨sl,hL⟩:=u.any ho I.free (by simp);exact I.step (g':=s.gens) (d':=s.drawn) (ch:=[]) (fun _ z=>nomatch z) (fun b o _ hb _ e n=>u.keep b o e n hb (by simp)) (fun b o _ hb _ e n=>u.slot b o e n hb (by simp)) (fun b o _ e n=>u.free b o e n (by simp)) (fun b o _ e=>u.there b o e (by simp)) u.tups u.frzs u.tbls (fun m' hm=>by
  obtain⟨o',es',ep',ho',r'⟩:=hm;rw [ho]at ho';cases ho';exact⟨_,es',ep',hL,r'⟩) hok I.bare
theorem Inv.call {g':Array GenState}{t':Nat}{d':Drawn}{ch:List Addr}(I:Inv X pins σ H s)(u:Un (frs X.stack) ch H H' s.heap h')(hok:HOk X.prog X.w H' h')(hg:AllBare g')
  (hch:∀b∈ch,(b∈X.ex\/X.s₀.heap.objs.size<=b)/\b≠X.env.locals/\(∀x c,X.env.cells.lookup x=some c->c≠b)/\∀p∈X.pn++pins,p.1≠b):
  Inv X pins σ H' {s with heap:=h',gens:=g',drawn:=d',toks:=t'}:=by
 obtain⟨m,⟨o,es,ep,ho,r⟩,_⟩:=id I.loc;obtain⟨sl,hL⟩:=u.any ho I.free fun z=>(hch _ z).2.1 rfl;exact I.step (ch:=ch) hch (fun b o hL hb hc e n=>u.keep b o e n (fun z=>(mem_cons.mp (I.stkSub b z)).elim hL hb) hc) (fun b o _ _ hc e n=>u.any e n hc) (fun b o hc e n=>u.free b o e n hc) (fun b o hc e=>u.there b o e hc) u.tups u.frzs u.tbls (fun m' hm=>by
  obtain⟨o',es',ep',ho',r'⟩:=hm;rw [ho]at ho';cases ho';exact⟨_,es',ep',hL,r'⟩) hok hg
theorem Inv.turned {t':Nat}{it:Addr}(I:Inv X pins σ H s)(k:∀b o,b≠it->s.heap.get? b=some o->h'.get? b=some o)(hn:H it=none)(hL:it≠X.env.locals)
  (h1:it∈X.ex\/X.s₀.heap.objs.size<=it)(h2:∀x c,X.env.cells.lookup x=some c->c≠it)(h3:∀p∈X.pn++pins,p.1≠it):Inv X pins σ H {s with heap:=h',toks:=t'}:=by
 have nit:∀b u,H b=some u->b≠it:=fun b u e z=>by rw [z,hn]at e;cases e
 refine I.step (g':=s.gens) (d':=s.drawn) (ch:=[it]) (fun b hb=> ?_) (fun b o _ _ hc e _=>k b o (fun z=>hc (by simp [z])) e) (fun b o _ _ hc e _=> ⟨o.slots,k b o (fun z=>hc (by simp [z])) e⟩) (fun _ _ _ _ n=>n)
  (fun b o hc e=> ⟨o,k b o (fun z=>hc (by simp [z])) e⟩) (fun _ _ e=>e) (fun _ _ _ e=>e) (fun b ps e=> ⟨#[],by rw [e];simp⟩) (fun m hm=> ?_) (fun b u e=> ?_) I.bare
 ·have e:b=it:=by simpa using hb
  subst e;exact⟨h1,hL,h2,h3⟩
 ·obtain⟨o,es,ep,ho,r⟩:=hm;exact⟨o,es,ep,k _ o (Ne.symm hL) ho,r⟩
 ·refine(I.hok b u e).stay (fun c v hc q=>k c v ?_ q) (fun _ q=>q) fun _ _ q=>q;rcases hc with z|z
  ·rw [z];exact nit b u e
  ·exact nit c _ z
theorem Inv.tok (I:Inv X pins σ H s)(t:Nat):Inv X pins σ H {s with toks:=t}:=I.un (h':=s.heap) (t':=t) Un.refl I.hok
theorem Inv.kept {t':Nat}(I:Inv X pins σ H s)(k:∀b u,s.heap.get? b=some u->h'.get? b=some u):Inv X pins σ H {s with heap:=h',toks:=t'}:=I.un (Un.kept k) (I.hok.kept k)
theorem Inv.laid {a:Addr}{o:HO}{t':Nat}(I:Inv X pins σ H s)(k:∀b u,s.heap.get? b=some u->h'.get? b=some u)(hp:s.heap.objs.size<=a)(new:ObjOk X.prog X.w (upd H a o) h' a o):
  Inv X pins σ (upd H a o) {s with heap:=h',toks:=t'}:=I.un (Un.laid k hp (I.hok.fresh hp)) (I.hok.laid k hp new)
theorem Inv.write {x e:Addr}{o:HO}{t':Nat}(I:Inv X pins σ H s)(mu:Mut (H x))(he:e=x\/H e=some (.own x))(k:∀b u,b≠e->s.heap.get? b=some u->h'.get? b=some u)(heo:∃u,h'.get? e=some u)
  (new:ObjOk X.prog X.w (upd H x o) h' x o):Inv X pins σ (upd H x o) {s with heap:=h',toks:=t'}:=I.un (Un.write mu he k heo) (I.hok.write mu he k heo new)
theorem Inv.pins_of {pins':List (Addr×Obj)}(I:Inv X pins σ H s)(h:∀p∈pins',s.heap.get? p.1=some p.2/\H p.1=none/\p.1≠X.env.locals/\p.1∉X.fs/\∀v,p.2.data≠ .cell v):Inv X pins' σ H s:=
 ⟨I.ok,I.os,I.bare,I.base,I.loc,I.cell,I.free,I.freeC,fun p hp=>(mem_append.mp hp).elim (fun z=>I.pin p (mem_append_left _ z)) (h p),I.hok,I.len⟩
theorem vB {N:List Str}(hN:N.Nodup){i j:Nat}{x:Str}(a:N[i]?=some x)(b:N[j]?=some x):i=j:=by obtain⟨h1,e1⟩:=zjW.mp a;obtain⟨h2,e2⟩:=zjW.mp b;exact(List.getElem_inj hN).mp (e1.trans e2.symm)
theorem yG {M:Model}{A:Around}{E:Value->Shared->Prop}{i:Nat}{x:Str}{v:V}{u:Value}{Q:Unit->Shared->Prop}(I:Inv X pins σ H s)(hN:X.N.Nodup)(hi:X.N[i]?=some x)(hx:Loc X.env.scope x)(r:RelV v u)
  (h:∀s',Inv X pins (σ.set i (some v)) H s'->(∃a,Heap.SameBut a s.heap s'.heap/\(a=X.env.locals\/X.env.cells.lookup x=some a))->Q () s')(hf:X.fn x=true\/X.env.scope.names.lookup x=some .local:=by first|exact .inl rfl|exact .inr rfl|assumption):wpAny M A (storeName X.env x u) Q E s:=by
 obtain⟨m,hn,hl⟩:=id I.loc;have hcls:(X.env.scope.kind== .class|| (X.env.scope.kind== .module&&X.env.locals !=X.env.globals))=false:=by rw [I.ok.kind];rfl
 have hiσ:i<σ.length:=by rw [I.len];exact(zjW.mp hi).1
 have cne:=I.cne;have tracked:∀{a:Addr}{h':Heap},(∃o,s.heap.get? a=some o/\H a=none)->Heap.SameBut a s.heap h'->HOk X.prog X.w H h':=fun{a h'} ha hs b ob e=>by
  obtain⟨_,_,hfree⟩:=ha;refine(I.hok b ob e).stay (fun c w' hc q=>(hs.2 c ?_).trans q) (fun _ q=>q) fun _ _ q=>q;rintro rfl;rcases hc with rfl|hc
  ·rw [hfree]at e;cases e
  ·rw [hfree]at hc;cases hc
 rcases hx with hk|hk
 ·refine wpAny_storeName_local hk hn (fun h' hn' hs=> ?_) hcls;obtain⟨oL,_,_,hoL,_⟩:=id hn;refine h _ ⟨I.ok,I.os,I.bare,⟨fun b o e n hb hx=> ?_,fun b o e n hb hx=> ?_,I.base.free,fun b o e hx=> ?_,I.base.tups,I.base.frzs,I.base.tbls⟩,⟨_,hn',fun j y v' e1 e2 e3=> ?_⟩,fun y c e=> ?_,I.free,I.freeC,fun p hp=> ?_,tracked ⟨oL,hoL,I.free⟩ hs,by simpa using I.len⟩ ⟨_,hs,.inl rfl⟩
  ·exact(hs.2 b (ne_of_lt (lt_of_lt_of_le (zjT e) I.ok.above))).trans (I.base.keep b o e n hb hx)
  ·obtain⟨sl,e1⟩:=I.base.slot b o e n hb hx;exact⟨sl,(hs.2 b (ne_of_lt (lt_of_lt_of_le (zjT e) I.ok.above))).trans e1⟩
  ·obtain⟨o',e1⟩:=I.base.there b o e hx;exact⟨o',(hs.2 b (ne_of_lt (lt_of_lt_of_le (zjT e) I.ok.above))).trans e1⟩
  ·by_cases hj:j=i
   ·subst hj;rw [hi]at e1;cases e1;rw [List.getElem?_set_self hiσ]at e2;cases e2;exact⟨u,r,.inl ⟨hk,by simp⟩⟩
   ·rw [List.getElem?_set_ne (Ne.symm hj)]at e2;obtain⟨u',r',q⟩:=hl j y v' e1 e2 e3;refine⟨u',r',?_⟩;rcases q with⟨k,e⟩| ⟨k,c,e,z⟩
    ·refine .inl ⟨k,?_⟩;have:y≠x:=fun e=>hj (vB hN e1 (e▸hi));simp [this,e]
    ·exact .inr ⟨k,c,e,z.sameBut hs (cne y c e)⟩
  ·obtain⟨w',z⟩:=I.cell y c e;exact⟨w',z.sameBut hs (cne y c e)⟩
  ·obtain⟨e,n,ne,nf,d⟩:=I.pin p hp;exact⟨(hs.2 p.1 ne).trans e,n,ne,nf,d⟩
 ·have hfn:X.fn x=true:=by
   rcases hf with z|z
   ·exact z
   ·rw [z]at hk;cases hk
  obtain⟨c,hc⟩:=I.ok.has x (.inl hk);obtain⟨w',z⟩:=I.cell x c hc;refine wpAny_storeName_cell I.ok.kind hk hc z (fun h' hc' hs=> ?_);obtain⟨oc,hoc,hocd⟩:=id z;refine h {s with heap:=h'} ⟨I.ok,I.os,I.bare,⟨fun b o e n hb hx=> ?_,fun b o e n hb hx=> ?_,I.base.free,fun b o e hx=> ?_,I.base.tups,I.base.frzs,I.base.tbls⟩,⟨m,hn.sameBut hs (Ne.symm (cne x c hc)),fun j y v' e1 e2 e3=> ?_⟩,fun y c' e=> ?_,I.free,I.freeC,fun p hp=> ?_,tracked ⟨oc,hoc,I.freeC x c hc⟩ hs,by simpa using I.len⟩ ⟨c,hs,.inr hc⟩
  ·exact(hs.2 b (ne_of_lt (lt_of_lt_of_le (zjT e) (I.ok.cab x c hfn hc)))).trans (I.base.keep b o e n hb hx)
  ·obtain⟨sl,e1⟩:=I.base.slot b o e n hb hx;exact⟨sl,(hs.2 b (ne_of_lt (lt_of_lt_of_le (zjT e) (I.ok.cab x c hfn hc)))).trans e1⟩
  ·obtain⟨o',e1⟩:=I.base.there b o e hx;exact⟨o',(hs.2 b (ne_of_lt (lt_of_lt_of_le (zjT e) (I.ok.cab x c hfn hc)))).trans e1⟩
  ·by_cases hj:j=i
   ·subst hj;rw [hi]at e1;cases e1;rw [List.getElem?_set_self hiσ]at e2;cases e2;exact⟨u,r,.inr ⟨.inl hk,c,hc,hc'⟩⟩
   ·rw [List.getElem?_set_ne (Ne.symm hj)]at e2;obtain⟨u',r',q⟩:=hl j y v' e1 e2 e3;refine⟨u',r',?_⟩;rcases q with q| ⟨k,c',e,z'⟩
    ·exact .inl q
    ·refine .inr ⟨k,c',e,z'.sameBut hs ?_⟩;rintro rfl;exact hj (vB hN e1 (I.ok.inj _ _ _ e hc▸hi))
  ·by_cases hcc:c'=c
   ·subst hcc;exact⟨_,hc'⟩
   ·obtain⟨w2,z2⟩:=I.cell y c' e;exact⟨w2,z2.sameBut hs hcc⟩
  ·obtain⟨e,n,ne,nf,d⟩:=I.pin p hp;refine⟨(hs.2 p.1 ?_).trans e,n,ne,nf,d⟩;intro q;rw [q,hoc]at e;have q':oc=p.2:=Option.some.inj e;exact d w' (by rw [←q'];exact hocd)
theorem kY {M:Model}{A:Around}{E:Value->Shared->Prop}{i:Nat}{x:Str}{v:V}{u:Value}{Q:Unit->Shared->Prop}(I:Inv X pins σ H s)(hN:X.N.Nodup)(hi:X.N[i]?=some x)(hx:Loc X.env.scope x)(r:RelV v u)
  (h:∀s',Inv X pins (σ.set i (some v)) H s'->Q () s')(hf:X.fn x=true\/X.env.scope.names.lookup x=some .local:=by first|exact .inl rfl|exact .inr rfl|assumption):wpAny M A (storeName X.env x u) Q E s:=
 yG I hN hi hx r (fun s' I' _=>h s' I') hf
theorem Inv.call' {s':Shared}{ch:List Addr}(I:Inv X pins σ H s)(ho:s'.os=s.os)(u:Un (frs X.stack) ch H H' s.heap s'.heap)(hok:HOk X.prog X.w H' s'.heap)(hg:AllBare s'.gens)
  (hch:∀b∈ch,(b∈X.ex\/X.s₀.heap.objs.size<=b)/\b≠X.env.locals/\(∀x c,X.env.cells.lookup x=some c->c≠b)/\∀p∈X.pn++pins,p.1≠b):Inv X pins σ H' s':=by
 obtain⟨h',g',d',t',o'⟩:=s';have e:o'=s.os:=ho;subst e;exact I.call (g':=g') (t':=t') (d':=d') u hok hg hch
end
abbrev XK:=Value->Option Addr->Hp->Prop
abbrev St:=List (Option V)
abbrev VK:=V->Hp->Prop
abbrev TE:=St->Hp->VK->Prop
abbrev TT:=St->Hp->(Bool->Hp->Prop)->Prop
abbrev TA:=St->Hp->(List V->Hp->Prop)->Prop
structure dH where
 nx:St->Hp->Prop
 rt:VK
 bk:St->Hp->Prop:=fun _ _=>False
 ct:St->Hp->Prop:=fun _ _=>False
abbrev TS:=dH->St->Hp->Prop
def EP (X:Cx)(pins:List (Addr×Obj))(σ:St)(Q:VK)(u:Value)(s':Shared):Prop:=∃v H',Inv X pins σ H' s'/\RelV v u/\Q v H'
def TP (X:Cx)(pins:List (Addr×Obj))(σ:St)(Q:Bool->Hp->Prop)(b:Bool)(s':Shared):Prop:=∃H',Inv X pins σ H' s'/\Q b H'
def AP (X:Cx)(pins:List (Addr×Obj))(σ:St)(Q:List V->Hp->Prop)(us:List Value)(s':Shared):Prop:=∃vs H',Inv X pins σ H' s'/\Vals vs us/\Q vs H'
def SP (X:Cx)(pins:List (Addr×Obj))(D:dH)(f:Flow)(s':Shared):Prop:=
 match f with
 | .next=> ∃σ' H',Inv X pins σ' H' s'/\D.nx σ' H'
 | .brk=> ∃σ' H',Inv X pins σ' H' s'/\D.bk σ' H'
 | .cont=> ∃σ' H',Inv X pins σ' H' s'/\D.ct σ' H'
 | .ret u=> ∃v σ' H',Inv X pins σ' H' s'/\RelV v u/\D.rt v H'
def PE (X:Cx)(e:Expr)(t:TE):Prop:=
 ∀(pins:List (Addr×Obj))(s:Shared)(σ:St)(H:Hp)(Q:VK),Inv X pins σ H s->t σ H Q->wpAny (model X.prog X.w) X.A (eval e X.env) (EP X pins σ Q) X.xe s
def PT (X:Cx)(e:Expr)(t:TT):Prop:=
 ∀(pins:List (Addr×Obj))(s:Shared)(σ:St)(H:Hp)(Q:Bool->Hp->Prop),Inv X pins σ H s->t σ H Q->wpAny (model X.prog X.w) X.A (isTrue e X.env (eval e X.env)) (TP X pins σ Q) X.xe s
def PW (X:Cx)(e:Expr)(t:TT):Prop:=
 ∀(whole:Sem Value)(pins:List (Addr×Obj))(s:Shared)(σ:St)(H:Hp)(Q:Bool->Hp->Prop),Inv X pins σ H s->t σ H Q->wpAny (model X.prog X.w) X.A (isTrue e X.env whole) (TP X pins σ Q) X.xe s
theorem PW.pt {X:Cx}{e:Expr}{t:TT}(h:PW X e t):PT X e t:=h _
def PA (X:Cx)(es:List Expr)(t:TA):Prop:=
 ∀(pos:Pos)(pins:List (Addr×Obj))(s:Shared)(σ:St)(H:Hp)(Q:List V->Hp->Prop),Inv X pins σ H s->t σ H Q->wpAny (model X.prog X.w) X.A (spliced (backTo pos (starEach es X.env))) (AP X pins σ Q) X.xe s
def PS (X:Cx)(st:Stmt)(t:TS):Prop:=
 ∀(pins:List (Addr×Obj))(s:Shared)(σ:St)(H:Hp)(D:dH),Inv X pins σ H s->t D σ H->wpAny (model X.prog X.w) X.A (exec st X.env) (SP X pins D) X.xe s
def PSs (X:Cx)(st:List Stmt)(t:TS):Prop:=
 ∀(pins:List (Addr×Obj))(s:Shared)(σ:St)(H:Hp)(D:dH),Inv X pins σ H s->t D σ H->wpAny (model X.prog X.w) X.A (execs st X.env) (SP X pins D) X.xe s
theorem thn {α:Type}{t:Sem α}{Q Q':α->Shared->Prop}{M:Model}{A:Around}{E:Value->Shared->Prop}{s:Shared}(h:wpAny M A t Q E s)(hQ:∀a s,Q a s->Q' a s):wpAny M A t Q' E s:=wpAny_mono h hQ fun _ _ x=>x
section
variable {X:Cx}
def cS (i:Nat):TE:=fun σ H Q=> ∃v,σ[i]?=some (some v)/\Q v H
def tC (v:V):TE:=fun _ H Q=>Q v H
theorem A8f {i:Nat}{x:Str}{pos:Pos}(hN:X.N[i]?=some x)(hv:Vis X.env.scope x)(hd:(x==("__debug__":Str))=false:=by decide)(hcd:(x==("__classdict__":Str))=false:=by decide):PE X (.Name x pos) (cS i):=by
 intro pins s σ H Q I h;obtain⟨v,e,h⟩:=h;obtain⟨m,hn,hl⟩:=I.loc;obtain⟨u,r,l⟩:=hl i x v hN e hv;have fin:EP X pins σ Q u s:=⟨v,H,I,r,h⟩;rcases l with⟨hk,hm⟩| ⟨hk,c,hc,hcell⟩
 ·exact wpAny_Name (wpAny_loadName_local I.ok.kind hk hn hm fin) hd
 ·rcases hk with hk|hk
  ·exact wpAny_Name (wpAny_loadName_cell I.ok.kind hk hc hcell fin) hd
  ·exact wpAny_Name (wpAny_loadName_free I.ok.kind hk hc hcell fin hcd) hd
theorem aO {i j pos}:PE X (.Constant (.int i) j pos) (tC (.int i)):=fun _ _ _ H _ I h=>wpAny_Constant_int ⟨.int i,H,I.tok _,⟨_,rfl⟩,h⟩
theorem dA {b j pos}:PE X (.Constant (.bool b) j pos) (tC (.bl b)):=fun _ _ _ H _ I h=>Constant_bool ⟨.bl b,H,I,rfl,h⟩
def Gl (X:Cx)(x:Str):Prop:=X.env.kindOf x=some .globalImplicit
theorem sY {E:Value->Shared->Prop}{pins:List (Addr×Obj)}{s:Shared}{σ:St}{H:Hp}{x:Str}{u:Value}{pos:Pos}{Q:Value->Shared->Prop}(I:Inv X pins σ H s)(hg:Gl X x)(hm:X.mg x=some u)(h:Q u s)
  (hd:(x==("__debug__":Str))=false:=by decide):wpAny (model X.prog X.w) X.A (eval (.Name x pos) X.env) Q E s:=
 Calls.Name_function_global I.ok.kind hg (Calls.loadGlobal_global (by rw [I.ok.glob];exact I.mod.glob.keeps I.bk) hm h) hd
theorem iH {E:Value->Shared->Prop}{pins:List (Addr×Obj)}{s:Shared}{σ:St}{H:Hp}{x:Str}{u:Value}{pos:Pos}{Q:Value->Shared->Prop}(I:Inv X pins σ H s)(hg:Gl X x)(hm:X.mg x=none)(hv:bootBuiltins x=some u)(h:Q u s)
  (hn:x≠ "__name__":=by decide)(hd:(x==("__debug__":Str))=false:=by decide):wpAny (model X.prog X.w) X.A (eval (.Name x pos) X.env) Q E s:=by
 obtain⟨mb,h1,h2⟩:=I.mod.blt;exact Calls.Name_function_global I.ok.kind hg (Calls.loadGlobal_builtin (by rw [I.ok.glob];exact I.mod.glob.keeps I.bk) hm (by rw [I.ok.blt];exact h1.keeps I.bk) ((h2 x hn).trans hv) h) hd
theorem eP {x:Str}{v:V}{u:Value}{pos:Pos}(hg:Gl X x)(hm:X.mg x=some u)(r:RelV v u)(hd:(x==("__debug__":Str))=false:=by decide):PE X (.Name x pos) (tC v):=
 fun _ _ _ H _ I h=>sY I hg hm ⟨v,H,I,r,h⟩ hd
theorem fD {x:Str}{v:V}{u:Value}{pos:Pos}(hg:Gl X x)(hm:X.mg x=none)(hv:bootBuiltins x=some u)(r:RelV v u)(hn:x≠ "__name__":=by decide)(hd:(x==("__debug__":Str))=false:=by decide):PE X (.Name x pos) (tC v):=
 fun _ _ _ H _ I h=>iH I hg hm hv ⟨v,H,I,r,h⟩ hn hd
variable {a b:Expr}{ta tb:TE}{pos:Pos}
def tB (t:TE):TT:=fun σ H Q=>t σ H fun x H1=> ∃c,x= .bl c/\Q c H1
theorem bP {e:Expr}{t:TE}(h:PE X e t)(he:∀whole,isTrue e X.env whole=(do let v←whole;standAt e.pos;holding [v] (truthy v)):=by intro _;rfl):PT X e (tB t):=by intro pins s σ H Q I hw;refine isTrue_plain (thn (h pins s σ H _ I hw) fun v s1 ⟨x,H1,I1,r1,q1⟩=> ?_) (he _);obtain⟨d,rfl,q⟩:=q1;cases r1;exact wpAny_truthy_bool ⟨H1,I1,q⟩
variable {tA tB':TT}{rest:List Expr}
def A4u (t u:TT):TT:=fun σ H Q=>t σ H fun c H1=>if c=true then u σ H1 Q else Q false H1
def tOr (t u:TT):TT:=fun σ H Q=>t σ H fun c H1=>if c=true then Q true H1 else u σ H1 Q
def A5q (t:TT):TT:=fun σ H Q=>t σ H fun c H1=>Q (!c) H1
theorem rB (ha:PT X a tA):PW X (.BoolOp .And [a] pos) tA:=by
 intro wh pins s σ H Q I h;refine isTrue_and (thn (ha pins s σ H Q I h) fun c s1 e=> ?_);cases c with
 |true=>exact isTrue_and_nil e
 |false=>exact e
theorem jS (ha:PT X a tA):PW X (.BoolOp .Or [a] pos) tA:=by
 intro wh pins s σ H Q I h;refine isTrue_or (thn (ha pins s σ H Q I h) fun c s1 e=> ?_);cases c with
 |false=>exact isTrue_or_nil e
 |true=>exact e
theorem oW (ha:PT X a tA)(hb:PW X (.BoolOp .And (b::rest) pos) tB'):PW X (.BoolOp .And (a::b::rest) pos) (A4u tA tB'):=by
 intro wh pins s σ H Q I h;refine isTrue_and (thn (ha pins s σ H _ I h) fun c s1 ⟨H1,I1,q1⟩=> ?_);cases c with
 |true=>exact hb wh pins s1 σ H1 Q I1 q1
 |false=>exact⟨H1,I1,q1⟩
theorem iO (ha:PT X a tA)(hb:PW X (.BoolOp .Or (b::rest) pos) tB'):PW X (.BoolOp .Or (a::b::rest) pos) (tOr tA tB'):=by
 intro wh pins s σ H Q I h;refine isTrue_or (thn (ha pins s σ H _ I h) fun c s1 ⟨H1,I1,q1⟩=> ?_);cases c with
 |true=>exact⟨H1,I1,q1⟩
 |false=>exact hb wh pins s1 σ H1 Q I1 q1
theorem bZ (ha:PT X a tA):PT X (.UnaryOp .Not a pos) (A5q tA):=by intro pins s σ H Q I h;exact isTrue_not (ha pins s σ H (fun c H1=>Q (!c) H1) I h)
def A6a (ta tb:TE):TE:=fun σ H Q=>ta σ H fun x H1=> ∃c,x= .bl c/\if c=true then tb σ H1 Q else Q (.bl false) H1
def A9q (ta:TE):TE:=fun σ H Q=>ta σ H fun x H1=> ∃c,x= .bl c/\Q (.bl (!c)) H1
theorem eZ {op}{t:TE}(h:PE X a t):PE X (.BoolOp op [a] pos) t:=fun pins s σ H Q I hw=>BoolOp_one (h pins s σ H Q I hw)
theorem fC (ha:PE X a ta)(hb:PE X (.BoolOp .And (b::rest) pos) tb):PE X (.BoolOp .And (a::b::rest) pos) (A6a ta tb):=by
 intro pins s σ H Q I h;refine BoolOp_and (thn (ha pins s σ H _ I h) fun v s1 ⟨x,H1,I1,r1,q1⟩=> ?_);obtain⟨c,rfl,q1⟩:=q1;cases r1;refine wpAny_truthy_bool ?_;cases c with
 |true=>exact hb pins s1 σ H1 Q I1 q1
 |false=>exact⟨.bl false,H1,I1,rfl,q1⟩
theorem A45 (ha:PE X a ta):PE X (.UnaryOp .Not a pos) (A9q ta):=by intro pins s σ H Q I h;refine UnaryOp_ (thn (ha pins s σ H _ I h) fun v s1 ⟨x,H1,I1,r1,q1⟩=> ?_);obtain⟨c,rfl,q1⟩:=q1;cases r1;exact not_of (wpAny_truthy_bool ⟨.bl (!c),H1,I1,rfl,q1⟩)
end
def SqL (K:W.Frag)(H:Hp)(a:Addr)(xs:List V):Prop:=
 Rd H a (.lst xs)\/
  ∃(o:Obj)(its:Array Value)(n:Nat),K.lookup a=some o/\o.cls= .type "list"/\o.dict=none/\o.data= .seq its n/\its.size<=sizeLine/\Vals xs its.toList
def SqT (K:W.Frag)(H:Hp)(a:Addr)(xs:List V):Prop:=
 Rd H a (.tup xs)\/
  ∃(o:Obj)(its:Array Value)(n:Nat),K.lookup a=some o/\o.cls= .type "tuple"/\o.data= .seq its n/\its.size<=sizeLine/\Vals xs its.toList
def A3g:Value->Option V
 | .none=>some .non
 | .bool b=>some (.bl b)
 | .int i _=>some (.int i)
 | .str x _=>some (.str x)
 | .bytes b _=>some (.byt b)
 | .float b _=>some (.flt b)
 | .ref a=>some (.ref a)
 | .type n=>some (.ty n)
 |_=>none
theorem RelV.abs {x:V}{u:Value}(r:RelV x u):A3g u=some x:=by
 cases x with
 |non=>cases r;rfl
 |bl _=>cases r;rfl
 |int _=>obtain⟨t,rfl⟩:=r;rfl
 |str _=>obtain⟨t,rfl⟩:=r;rfl
 |byt _=>obtain⟨t,rfl⟩:=r;rfl
 |flt _=>obtain⟨t,rfl⟩:=r;rfl
 |ref _=>cases r;rfl
 |ty _=>cases r;rfl
theorem RelV.inj {x y:V}{u:Value}(r:RelV x u)(q:RelV y u):x=y:=Option.some.inj (r.abs.symm.trans q.abs)
theorem Vals.inj:∀{xs ys:List V}{us:List Value},Vals xs us->Vals ys us->xs=ys
 |_,_,_,.nil,.nil=>rfl
 |_,_,_,.cons r t,.cons r' t'=>by rw [r.inj r',Vals.inj t t']
section
variable {X:Cx}{pins:List (Addr×Obj)}{σ:St}{H:Hp}{s:Shared}{a:Addr}{xs ys:List V}
theorem SqL.of {K:W.Frag}(h:H a=some (.lst xs)):SqL K H a xs:=.inl (.inl h)
theorem SqT.of {K:W.Frag}(h:H a=some (.tup xs)):SqT K H a xs:=.inl (.inl h)
theorem Inv.list (I:Inv X pins σ H s)(h:SqL X.K H a xs):∃its:List Value,Vals xs its/\PlainL s.heap a its.toArray/\xs.length<=sizeLine:=by
 rcases h with h| ⟨o,its,n,hk,hc,hd,hs,hz,r⟩
 ·obtain⟨z,its,n,r,e⟩:=h.ok I.hok;exact⟨its,r,⟨_,n,e,rfl,rfl,rfl⟩,z⟩
 ·refine⟨its.toList,r,⟨o,n,I.kIn a o hk,hc,hd,by simpa using hs⟩,?_⟩;have e:=r.length;simp only [Array.length_toList]at e;omega
theorem Inv.tuple (I:Inv X pins σ H s)(h:SqT X.K H a xs):∃its:List Value,Vals xs its/\IsTup s.heap a its.toArray/\xs.length<=sizeLine:=by
 rcases h with h| ⟨o,its,n,hk,hc,hs,hz,r⟩
 ·obtain⟨z,its,r,p⟩:=h.ok I.hok;exact⟨its,r,p,z⟩
 ·refine⟨its.toList,r,⟨o,I.kIn a o hk,hc,n,by simpa using hs⟩,?_⟩;have e:=r.length;simp only [Array.length_toList]at e;omega
theorem Inv.list_inj (I:Inv X pins σ H s)(h:SqL X.K H a xs)(h':SqL X.K H a ys):xs=ys:=by
 obtain⟨its,r,⟨o,n,e,_,_,d⟩,_⟩:=I.list h;obtain⟨its',r',⟨o',n',e',_,_,d'⟩,_⟩:=I.list h';rw [e]at e';cases e';rw [d]at d';injection d' with d1 _
 have:its=its':=by simpa using congrArg Array.toList d1
 subst this;exact r.inj r'
theorem Inv.tuple_inj (I:Inv X pins σ H s)(h:SqT X.K H a xs)(h':SqT X.K H a ys):xs=ys:=by
 obtain⟨its,r,⟨o,e,_,n,d⟩,_⟩:=I.tuple h;obtain⟨its',r',⟨o',e',_,n',d'⟩,_⟩:=I.tuple h';rw [e]at e';cases e';rw [d]at d';injection d' with d1 _
 have:its=its':=by simpa using congrArg Array.toList d1
 subst this;exact r.inj r'
end
abbrev Cx.wish (X:Cx)(E:Value->Shared->Prop):Cx:={X with xe:=E}
abbrev Cx.nox (X:Cx):Cx:=X.wish fun _ _=>False
theorem Cx.Ok.wish {X:Cx}(ok:X.Ok)(E:Value->Shared->Prop):(X.wish E).Ok:=
 ⟨ok.mod,ok.kind,ok.glob,ok.blt,ok.above,ok.inj,ok.has,ok.cab,ok.hd,ok.frames,ok.stk,ok.exf,ok.bs,ok.bsz,ok.noex,ok.exfs,ok.funs,ok.frf⟩
theorem Cx.Ok.unwish {X:Cx}{E:Value->Shared->Prop}(ok:(X.wish E).Ok):X.Ok:=
 ⟨ok.mod,ok.kind,ok.glob,ok.blt,ok.above,ok.inj,ok.has,ok.cab,ok.hd,ok.frames,ok.stk,ok.exf,ok.bs,ok.bsz,ok.noex,ok.exfs,ok.funs,ok.frf⟩
section
variable {X:Cx}{pins:List (Addr×Obj)}{σ:St}{H:Hp}{s:Shared}{E:Value->Shared->Prop}
theorem Inv.wish (I:Inv X pins σ H s)(E:Value->Shared->Prop):Inv (X.wish E) pins σ H s:=⟨I.ok.wish E,I.os,I.bare,I.base,I.loc,I.cell,I.free,I.freeC,I.pin,I.hok,I.len⟩
theorem Inv.unwish (I:Inv (X.wish E) pins σ H s):Inv X pins σ H s:=⟨I.ok.unwish,I.os,I.bare,I.base,I.loc,I.cell,I.free,I.freeC,I.pin,I.hok,I.len⟩
theorem SP.unwish {D:dH}{f:Flow}{s':Shared}(h:SP (X.wish E) pins D f s'):SP X pins D f s':=by
 cases f with
 |next=>obtain⟨σ',H',I,q⟩:=h;exact⟨σ',H',I.unwish,q⟩
 |brk=>obtain⟨σ',H',I,q⟩:=h;exact⟨σ',H',I.unwish,q⟩
 |cont=>obtain⟨σ',H',I,q⟩:=h;exact⟨σ',H',I.unwish,q⟩
 |ret u=>obtain⟨v,σ',H',I,r,q⟩:=h;exact⟨v,σ',H',I.unwish,r,q⟩
theorem PSs.nox {st:List Stmt}{t:TS}(h:PSs X.nox st t):PSs X st t:=fun pins s σ H D I hw=>
 wpAny_mono (h pins s σ H D (I.wish _) hw) (fun _ _ q=>q.unwish) fun _ _ z=>False.elim z
end
section
variable {X:Cx}{st:Stmt}{rest:List Stmt}{t u:TS}{e:Expr}{te:TE}{pos:Pos}
def A8q:TS:=fun D σ H=>D.nx σ H
def nY (t u:TS):TS:=fun D σ H=>t {D with nx:=u D} σ H
theorem bU:PSs X [] A8q:=fun _ _ σ H _ I h=>wpAny_execs_nil ⟨σ,H,I,h⟩
theorem aU (h1:PS X st t)(h2:PSs X rest u):PSs X (st::rest) (nY t u):=by
 intro pins s σ H D I h;refine wpAny_execs_cons (thn (h1 pins s σ H {D with nx:=u D} I h) fun f s1 q=> ?_);cases f with
 |next=>
  obtain⟨σ',H',I',q⟩:=q;exact h2 pins s1 σ' H' D I' q
 |ret v=>exact q
 |brk=>exact q
 |cont=>exact q
theorem aM (h1:PS X st t):PSs X [st] t:=by
 intro pins s σ H D I h;refine wpAny_execs_cons (thn (h1 pins s σ H D I h) fun f s1 q=> ?_);cases f with
 |next=>exact wpAny_execs_nil q
 |ret v=>exact q
 |brk=>exact q
 |cont=>exact q
theorem Inv.quiet {pins:List (Addr×Obj)}{σ:St}{H:Hp}{s:Shared}(I:Inv X pins σ H s):interactive X.env=false:=by simp [interactive,I.ok.kind]
def wB (te:TE):TS:=fun D σ H=>te σ H fun _ H1=>D.nx σ H1
theorem dE (he:PE X e te)(hs:swapsWith e none pos.line X.env=pure false:=by rfl):PS X (.Expr e pos) (wB te):=by intro pins s σ H D I h;exact wpAny_Expr_any (thn (he pins s σ H _ I h) fun v s1 ⟨x,H1,I1,r1,q1⟩=> ⟨σ,H1,I1,q1⟩) I.quiet hs
def lF (te:TE):TS:=fun D σ H=>te σ H D.rt
theorem bA (he:PE X e te):PS X (.Return (some e) pos) (lF te):=by intro pins s σ H D I h;exact wpAny_Return_some (thn (he pins s σ H _ I h) fun v s1 ⟨x,H1,I1,r1,q1⟩=> ⟨x,σ,H1,I1,r1,q1⟩)
def A8h (c:TT)(t u:TS):TS:=fun D σ H=>c σ H fun b H1=>if b=true then t D σ H1 else u D σ H1
theorem bR {c:Expr}{a b:List Stmt}{tc:TT}(hc:PT X c tc)(ha:PSs X a t)(hb:PSs X b u):PS X (.If c a b pos) (A8h tc t u):=by
 intro pins s σ H D I h;refine wpAny_If (thn (hc pins s σ H _ I h) fun d s1 ⟨H1,I1,q1⟩=> ?_);cases d with
 |true=>exact ha pins s1 σ H1 D I1 q1
 |false=>exact hb pins s1 σ H1 D I1 q1
def A24:TS:=fun _ _ _=>False
theorem fJ {sts:List Stmt}:PSs X sts A24:=fun _ _ _ _ _ _ h=>h.elim
end
abbrev TG:=V->St->Hp->(St->Hp->Prop)->Prop
abbrev TGs:=List V->St->Hp->(St->Hp->Prop)->Prop
def PG (X:Cx)(target:Expr)(t:TG):Prop:=
 ∀(pins:List (Addr×Obj))(s:Shared)(σ:St)(H:Hp)(v:V)(u:Value)(Q:St->Hp->Prop),Inv X pins σ H s->RelV v u->t v σ H Q->
  wpAny (model X.prog X.w) X.A (assign target X.env u) (fun _ s'=> ∃σ' H',Inv X pins σ' H' s'/\Q σ' H') X.xe s
def PGs (X:Cx)(ts:List Expr)(t:TGs):Prop:=
 ∀(pins:List (Addr×Obj))(s:Shared)(σ:St)(H:Hp)(vs:List V)(us:List Value)(Q:St->Hp->Prop),Inv X pins σ H s->Vals vs us->t vs σ H Q->
  wpAny (model X.prog X.w) X.A (assignInOrder ((assignEach ts X.env).map (·.2)) us) (fun _ s'=> ∃σ' H',Inv X pins σ' H' s'/\Q σ' H') X.xe s
abbrev nN:=V->V->V->Hp->(Hp->Prop)->Prop
def wE (X:Cx)(t:nN):Prop:=
 ∀(pins:List (Addr×Obj))(s:Shared)(σ:St)(H:Hp)(o i v:V)(ov iv u:Value)(Q:Hp->Prop),Inv X pins σ H s->RelV o ov->RelV i iv->RelV v u->t o i v H Q->
  wpAny (model X.prog X.w) X.A (setItem ov iv u) (fun _ s'=> ∃H',Inv X pins σ H' s'/\Q H') X.xe s
abbrev TIp:=V->V->Hp->VK->Prop
def PIp (X:Cx)(op:Operator)(t:TIp):Prop:=
 ∀(pins:List (Addr×Obj))(s:Shared)(σ:St)(H:Hp)(x y:V)(v u:Value)(Q:VK),Inv X pins σ H s->RelV x v->RelV y u->t x y H Q->
  wpAny (model X.prog X.w) X.A (inplaceOp op v u) (EP X pins σ Q) X.xe s
section
variable {X:Cx}{pos:Pos}
def cJ (i:Nat):TG:=fun v σ H Q=>Q (σ.set i (some v)) H
theorem aJ {i:Nat}{x:Str}(hN:X.N.Nodup)(hi:X.N[i]?=some x)(hx:Loc X.env.scope x)(hf:X.fn x=true\/X.env.scope.names.lookup x=some .local:=by first|exact .inl rfl|exact .inr rfl|assumption):PG X (.Name x pos) (cJ i):=by intro pins s σ H v u Q I r h;exact wpAny_assign_Name (kY I hN hi hx r (fun s' I'=> ⟨_,H,I',h⟩) hf)
theorem nm1 (i:Nat)(hN:X.N.Nodup)(hi:X.N[i]?=some x:=by rfl)(hx:Loc X.env.scope x:=by exact .inl rfl)(hf:X.fn x=true\/X.env.scope.names.lookup x=some .local:=by first|exact .inl rfl|exact .inr rfl|assumption):PG X (.Name x pos) (cJ i):=aJ hN hi hx hf
def iA:TGs:=fun vs σ H Q=>vs=[]/\Q σ H
def dX (t:TG)(u:TGs):TGs:=fun vs σ H Q=> ∃v r,vs=v::r/\t v σ H fun σ' H'=>u r σ' H' Q
theorem bW:PGs X [] iA:=by intro pins s σ H vs us Q I r h;obtain⟨e,h⟩:=h;subst e;cases r;exact assignInOrder_nil ⟨σ,H,I,h⟩
theorem aX {e:Expr}{es:List Expr}{t:TG}{u:TGs}(h1:PG X e t)(h2:PGs X es u)
  (hs:(assignEach (e::es) X.env).map (·.2)=assign e X.env::(assignEach es X.env).map (·.2):=by rfl):PGs X (e::es) (dX t u):=by
 intro pins s σ H vs us Q I r h;obtain⟨v,vr,e1,h⟩:=h;subst e1;cases r with
 |cons r rr=>
  rw [hs];refine assignInOrder_cons (thn (h1 pins s σ H _ _ _ I r h) fun _ s1 ⟨σ1,H1,I1,q1⟩=> ?_);exact h2 pins s1 σ1 H1 _ _ Q I1 rr q1
def iX (K:W.Frag)(n:Nat)(t:TGs):TG:=fun v σ H Q=> ∃a xs,v= .ref a/\SqT K H a xs/\xs.length=n/\t xs σ H Q
theorem bV {es:List Expr}{k:Nat}{t:TGs}{n:Nat}(hc:X.calm=true)(h:PGs X es t)
  (hn:(assignEach es X.env).length=n:=by rfl)(hst:(assignEach es X.env).findIdx? (·.1)=none:=by rfl):PG X (.Tuple es k pos) (iX X.K n t):=by
 intro pins s σ H v u Q I r hw;obtain⟨a,xs,e1,hq,hl,hw⟩:=hw;subst e1;cases r;obtain⟨its,rv,ht,hz⟩:=I.tuple hq;refine assign_Tuple_tuple (I.ok.hd hc) ht (by simp [hn,←hl,rv.length]) hst fun h' hx=> ?_;have I1:Inv X pins σ H {s with heap:=h'}:=I.kept (t':=s.toks) fun b o e=>hx b o (ne_of_lt (zjT e)) e;exact h pins _ σ H xs _ Q I1 (by simpa using rv) hw
def A20 (to ti:TE)(t:nN):TG:=fun v σ H Q=>to σ H fun o H1=>ti σ H1 fun i H2=>t o i v H2 fun H3=>Q σ H3
theorem qW {o i:Expr}{to ti:TE}{t:nN}(ho:PE X o to)(hi:PE X i ti)(hs:wE X t)
  (ha:∀v,assign (.Subscript o i pos) X.env v=(do
   let ov←holding [v] (eval o X.env);let iv←holding [v,ov] (eval i X.env)
   standAt pos
   holding [v,ov,iv] (setItem ov iv v)
   release [v,ov,iv] []):=by intro _;rfl):PG X (.Subscript o i pos) (A20 to ti t):=by
 intro pins s σ H v u Q I r h;rw [ha];refine zjZ (wpAny_holding (thn (ho pins s σ H _ I h) fun ov s1 ⟨x,H1,I1,r1,q1⟩=> ?_));refine zjZ (wpAny_holding (thn (hi pins s1 σ H1 _ I1 q1) fun iv s2 ⟨y,H2,I2,r2,q2⟩=> ?_));refine zjZ (wpAny_standAt (zjZ (wpAny_holding (thn (hs pins s2 σ H2 x y v ov iv u _ I2 r1 r2 r q2) fun _ s3 ⟨H3,I3,q3⟩=> ?_))));exact wpAny_release ⟨σ,H3,I3,q3⟩
def iP (te:TE)(g:TG):TS:=fun D σ H=>te σ H fun x H1=>g x σ H1 D.nx
theorem dQ {tg e:Expr}{te:TE}{g:TG}(he:PE X e te)(hg:PG X tg g)(hs:swapsWithSole [tg] e pos.line X.env=pure false:=by rfl)(hw:swappedStores [tg] e X.env=pure none:=by rfl)
  (h1:(assignEach [tg] X.env).map (·.2)=[assign tg X.env]:=by rfl):PS X (.Assign [tg] e pos) (iP te g):=by
 intro pins s σ H D I h;refine wpAny_Assign_stores (thn (he pins s σ H _ I h) fun v s1 ⟨x,H1,I1,r1,q1⟩=> ?_) hs hw;rw [h1];exact thn (hg pins s1 σ H1 x v _ I1 r1 q1) fun _ s2 q=>q
theorem bQ {i:Nat}{x:Str}{e:Expr}{te:TE}{pos':Pos}(hN:X.N.Nodup)(hi:X.N[i]?=some x)(hx:Loc X.env.scope x)(he:PE X e te)(hs:swapsWith e (some (.Name x pos')) pos.line X.env=pure false:=by rfl)(hf:X.fn x=true\/X.env.scope.names.lookup x=some .local:=by first|exact .inl rfl|exact .inr rfl|assumption):
  PS X (.Assign [.Name x pos'] e pos) (iP te (cJ i)):=by
 intro pins s σ H D I h;refine wpAny_Assign_Name (thn (he pins s σ H _ I h) fun v s1 ⟨y,H1,I1,r1,q1⟩=> ?_) hs;exact kY I1 hN hi hx r1 (fun s2 I2=> ⟨_,H1,I2,q1⟩) hf
def A80 (i j:Nat)(ta:TA):TS:=fun D σ H=>ta σ H fun vs H1=> ∃v w,vs=[v,w]/\D.nx ((σ.set i (some v)).set j (some w)) H1
theorem jH {i j:Nat}{x y:Str}{a b:Expr}{ta:TA}{px py pt:Pos}{kt k2 pt2}(hc:X.calm=true)(hN:X.N.Nodup)(hi:X.N[i]?=some x)(hj:X.N[j]?=some y)(hij:i≠j)
  (hx:X.env.scope.names.lookup x=some .local)(hy:X.env.scope.names.lookup y=some .local)(ha:PA X [a,b] ta)
  (hw:swappedStores [.Tuple [.Name x px,.Name y py] kt pt] (.Tuple [a,b] k2 pt2) X.env=pure (some [x,y]))
  (hs:swapsWithSole [.Tuple [.Name x px,.Name y py] kt pt] (.Tuple [a,b] k2 pt2) pos.line X.env=pure false:=by rfl):
  PS X (.Assign [.Tuple [.Name x px,.Name y py] kt pt] (.Tuple [a,b] k2 pt2) pos) (A80 i j ta):=by
 intro pins s σ H D I h;rw [exec_Assign_arm];refine zjZ (wpAny_standAt ?_);rw [hs];refine zjZ (zjY ?_);rw [if_neg (by decide)];refine zjZ (Tuple_ (thn (ha _ pins s σ H _ I h) fun us s1 ⟨vs,H1,I1,r1,q1⟩=> ?_));obtain⟨v,w,e1,q1⟩:=q1;subst e1;obtain⟨u1,u2,rfl,rv,rw'⟩:∃u1 u2,us=[u1,u2]/\RelV v u1/\RelV w u2:=by
  cases r1 with
  |cons p q=>
   cases q with
   |cons p' q'=>
    cases q';exact⟨_,_,rfl,p,p'⟩
 refine wpAny_newObj_type ?_ (by show 2<=sizeLine;decide);have I2:Inv X pins σ H1 {s1 with heap:=s1.heap.push {cls:=.type "tuple",data:=.seq [u1,u2].toArray}}:=I1.kept (t':=s1.toks) fun b o e=>zjX _ e;rw [hw];refine zjZ (zjY ?_)
 show wpAny (model X.prog X.w) X.A (do rule "assign.swapped-stores";let items←unpackItems (.ref s1.heap.objs.size) 2 none;assignInOrder [fun v=>bindName X.env y v,fun v=>bindName X.env x v] items.reverse;pure Flow.next) _ _ _;refine zjZ (wpAny_rule (zjZ (unpackItems_tuple (items:=#[u1,u2]) (I.ok.hd hc) (IsTup.new s1.heap _) fun h' hx'=> ?_)));have I3:=I2.kept (h':=h') (t':=s1.toks) fun b o e=>hx' b o (ne_of_lt (zjT e)) e;show wpAny _ _ (assignInOrder [fun v=>bindName X.env y v,fun v=>bindName X.env x v] [u2,u1]>>=fun _=>pure Flow.next) _ _ _;refine zjZ (assignInOrder_cons (wpAny_bindName (kY I3 hN hj (.inl hy) rw' (fun s2 I4=> ?_) (.inr hy))));refine assignInOrder_cons (wpAny_bindName (kY I4 hN hi (.inl hx) rv (fun s3 I5=>assignInOrder_nil (zjY ?_)) (.inr hx)));rw [List.set_comm _ _ (Ne.symm hij)]at I5;exact⟨_,H1,I5,q1⟩
def A53 (i:Nat)(te:TE)(ti:TIp):TS:=fun D σ H=> ∃x,σ[i]?=some (some x)/\te σ H fun y H1=>ti x y H1 fun z H2=>D.nx (σ.set i (some z)) H2
theorem A9h {i:Nat}{x:Str}{e:Expr}{te:TE}{op:Operator}{ti:TIp}{pos':Pos}(hN:X.N.Nodup)(hi:X.N[i]?=some x)(hx:Loc X.env.scope x)(he:PE X e te)(ho:PIp X op ti)(hf:X.fn x=true\/X.env.scope.names.lookup x=some .local:=by first|exact .inl rfl|exact .inr rfl|assumption):
  PS X (.AugAssign (.Name x pos') op e pos) (A53 i te ti):=by
 intro pins s σ H D I h;obtain⟨v,e1,h⟩:=h;obtain⟨m,hn,hl⟩:=I.loc;have vis:Vis X.env.scope x:=by rcases hx with k|k;exact .inl k;exact .inr (.inl k)
 obtain⟨u,r,l⟩:=hl i x v hi e1 vis;refine wpAny_AugAssign_Name ?_;have go:wpAny (model X.prog X.w) X.A (eval e X.env) (fun w s₂=>wpAny (model X.prog X.w) X.A (inplaceOp op u w) (fun r s₃=>wpAny (model X.prog X.w) X.A (storeName X.env x r) (fun _=>SP X pins D .next) X.xe s₃) X.xe s₂) X.xe s:=by
  refine thn (he pins s σ H _ I h) fun w s1 ⟨y,H1,I1,r1,q1⟩=> ?_;refine thn (ho pins s1 σ H1 v y u w _ I1 r r1 q1) fun z s2 ⟨zv,H2,I2,r2,q2⟩=> ?_;exact kY I2 hN hi hx r2 (fun s3 I3=> ⟨_,H2,I3,q2⟩) hf
 rcases l with⟨hk,hm⟩| ⟨hk,c,hc,hcell⟩
 ·exact wpAny_loadName_local I.ok.kind hk hn hm go
 ·rcases hk with hk|hk
  ·exact wpAny_loadName_cell I.ok.kind hk hc hcell go
  ·rcases hx with k|k
   ·have:X.env.scope.names.lookup x=some .free:=hk;rw [k]at this;cases this
   ·have:X.env.scope.names.lookup x=some .free:=hk;rw [k]at this;cases this
def ipI (f:Int->Int->Int):TIp:=fun x y H Q=> ∃i j,x= .int i/\y= .int j/\Q (.int (f i j)) H
theorem A5l:PIp X .Add (ipI fun i j=>i+j):=by intro pins s σ H x y v u Q I r1 r2 h;obtain⟨i,j,e1,e2,q⟩:=h;subst e1;subst e2;obtain⟨t,rfl⟩:=r1;obtain⟨t',rfl⟩:=r2;exact iadd_int ⟨.int _,H,I.tok _,⟨_,rfl⟩,q⟩
end
section
variable {X:Cx}{pos:Pos}
def rY (c:TT)(tb:TS):TS:=fun D σ H=> ∃W:Nat->St->Hp->Prop,(∃m,W m σ H)/\∀m σ H,W m σ H->
 c σ H fun b H1=>if b=true then∃N:St->Hp->Prop,(∀σ' H',N σ' H'->∃m',m'<m/\W m' σ' H')/\tb {D with nx:=N,ct:=N,bk:=D.nx} σ H1 else D.nx σ H1
theorem qV {c:Expr}{body:List Stmt}{tc:TT}{tb:TS}(hp:PassesOwn (model X.prog X.w) X.A X.env X.xe)(hc:PT X c tc)(hb:PSs X body tb):PS X (.While c body [] pos) (rY tc tb):=by
 intro pins s σ H D I h;obtain⟨W,⟨m0,w0⟩,turn⟩:=h;refine wpAny_While (codeAny_whileLoop (fun n s'=> ∃σ' H',Inv X pins σ' H' s'/\W n σ' H') ?_ m0 ⟨σ,H,I,w0⟩);rintro n s1 ⟨σ1,H1,I1,w1⟩;refine wpAny_passesOwn hp (thn (hc pins s1 σ1 H1 _ I1 (turn n σ1 H1 w1)) fun b s2 ⟨H2,I2,q2⟩=> ?_);cases b with
 |true=>
  obtain⟨N,hN,q2⟩:=q2;rw [if_pos rfl];refine wpAny_passesOwn hp (thn (hb pins s2 σ1 H2 _ I2 q2) fun f s3 q3=> ?_);cases f with
  |next=>
   obtain⟨σ3,H3,I3,n3⟩:=q3;obtain⟨m',hm,w3⟩:=hN σ3 H3 n3;exact⟨m',hm,σ3,H3,I3,w3⟩
  |cont=>
   obtain⟨σ3,H3,I3,n3⟩:=q3;obtain⟨m',hm,w3⟩:=hN σ3 H3 n3;exact⟨m',hm,σ3,H3,I3,w3⟩
  |brk=>exact q3
  |ret v=>exact q3
 |false=>
  rw [if_neg Bool.false_ne_true];exact wpAny_execs_nil ⟨σ1,H2,I2,q2⟩
end
structure It where
 go:Nat->Hp->Prop
 yld:Nat->Hp->V->Hp->Prop
 stop:Nat->Hp->Prop
def eK (X:Cx)(pins:List (Addr×Obj))(H:Hp)(b:Addr):Prop:=
 H b=none/\b≠X.env.locals/\b∉X.fs/\(b∈X.ex\/X.s₀.heap.objs.size<=b)/\(∀x c,X.env.cells.lookup x=some c->c≠b)/\∀p∈X.pn++pins,p.1≠b
theorem Inv.fpOk {X:Cx}{pins:List (Addr×Obj)}{σ:St}{H H':Hp}{s:Shared}{b:Addr}(I:Inv X pins σ H s)(hb:s.heap.objs.size<=b)(hn:H' b=none):eK X pins H' b:=by
 refine⟨hn,ne_of_gt (lt_of_lt_of_le I.lt hb),I.nofs hb,.inr (le_trans I.sz hb),fun x c e z=> ?_,fun p hp z=> ?_⟩
 ·obtain⟨v,q⟩:=I.cell x c e;exact absurd (lt_of_lt_of_le q.lt (by rw [z];exact hb)) (lt_irrefl _)
 ·exact absurd (lt_of_lt_of_le (zjT (I.pin p hp).1) (by rw [z];exact hb)) (lt_irrefl _)
structure fQ (P:Program)(w:World)(K:W.Frag)(tg:Expr)(J:It)(fp:List Addr)(it:Addr)(tn:Nat->Heap->Prop):Prop where
 mem:it∈fp
 obj:∀i h,tn i h->∀b∈fp,∃o,h.get? b=some o/\∀v,o.data≠ .cell v
 keep:∀i h h',tn i h->(∀b∈fp,∀o,h.get? b=some o->h'.get? b=some o)->tn i h'
 item:∀(X:Cx),X.prog=P->X.w=w->X.K=K->X.calm=true->∀(i:Nat)(pins:List (Addr×Obj))(s:Shared)(σ:St)(H:Hp)(E:Value->Shared->Prop),Inv X pins σ H s->(∀b∈fp,eK X pins H b)->tn i s.heap->J.go i H->
  wpAny (model P w) X.A (pyNext (.ref it)) (fun r s1=> ∃u,r=some u/\
   wpAny (model P w) X.A (letOwnedTupleGo tg (.ref it) u) (fun _ s2=> ∃x H',Inv X pins σ H' s2/\RelV x u/\J.yld i H x H'/\tn (i+1) s2.heap/\∀b∈fp,H' b=none) E s1) E s
 done:∀(X:Cx),X.prog=P->X.w=w->X.K=K->X.calm=true->∀(i:Nat)(pins:List (Addr×Obj))(s:Shared)(σ:St)(H:Hp)(E:Value->Shared->Prop),Inv X pins σ H s->(∀b∈fp,eK X pins H b)->tn i s.heap->J.stop i H->
  wpAny (model P w) X.A (pyNext (.ref it)) (fun r s1=>r=none/\Inv X pins σ H s1) E s
 self:∀(A:Around)(i:Nat)(s:Shared)(Q:Value->Shared->Prop)(E:Value->Shared->Prop),tn i s.heap->Q (.ref it) s->wpAny (model P w) A (pyIter (.ref it)) Q E s
abbrev TI:=St->Hp->(It->Hp->Prop)->Prop
def PIE (X:Cx)(pins:List (Addr×Obj))(σ:St)(tg:Expr)(R:It->Hp->Prop)(itv:Value)(s2:Shared):Prop:=
 ∃(it:Addr)(fp:List Addr)(tn:Nat->Heap->Prop)(J:It)(H':Hp),itv= .ref it/\Inv X pins σ H' s2/\fQ X.prog X.w X.K tg J fp it tn/\tn 0 s2.heap/\(∀b∈fp,eK X pins H' b)/\R J H'
def PI (X:Cx)(tg iter:Expr)(wi:TI):Prop:=
 ∀(pins:List (Addr×Obj))(s:Shared)(σ:St)(H:Hp)(R:It->Hp->Prop),Inv X pins σ H s->wi σ H R->
  wpAny (model X.prog X.w) X.A (eval iter X.env) (fun v s1=>wpAny (model X.prog X.w) X.A (pyIter v) (PIE X pins σ tg R) X.xe s1) X.xe s
theorem mQ {M:Model}{A:Around}{E:Value->Shared->Prop}{s:Shared}{tg:Expr}{it:Addr}{u:Value}{o:Obj}{n:String}{vs:Array Value}{Q:Unit->Shared->Prop}(ho:s.heap.get? it=some o)(hc:o.cls= .type n)(hd:o.data= .fields vs)
    (hn:["enumerate","zip","dict_itemiterator","dict_reverseitemiterator","odict_iterator","itertools.zip_longest","itertools.pairwise"].contains n=false)(hQ:Q () s):wpAny M A (letOwnedTupleGo tg (.ref it) u) Q E s:=by
  unfold letOwnedTupleGo;cases tg<;>first
    |exact zjY hQ
    | (cases u<;>first
        |exact zjY hQ
        | (refine zjZ (wpAny_load ho ?_)
           rw [hc,hd];show wpAny M A (if (["enumerate","zip","dict_itemiterator","dict_reverseitemiterator","odict_iterator","itertools.zip_longest","itertools.pairwise"].contains n&&vs[0]?==some (rawInt _))=true then _ else _) Q E s;rw [if_neg (by intro h;rw [hn,Bool.false_and]at h;cases h)];exact zjY hQ))
def Itl (K:W.Frag)(a:Addr):It:=
 ⟨fun i H=> ∃xs x,SqL K H a xs/\xs[i]?=some x,fun i H x H'=>H'=H/\∀xs,SqL K H a xs->xs[i]?=some x,fun i H=> ∃xs,SqL K H a xs/\xs.length<=i⟩
def Itt (K:W.Frag)(a:Addr):It:=
 ⟨fun i H=> ∃xs x,SqT K H a xs/\xs[i]?=some x,fun i H x H'=>H'=H/\∀xs,SqT K H a xs->xs[i]?=some x,fun i H=> ∃xs,SqT K H a xs/\xs.length<=i⟩
def Itr (lo:Int)(n:Nat):It:=⟨fun i _=>i<n,fun i H x H'=>H'=H/\x= .int (lo+i),fun i _=>n<=i⟩
theorem A37 {P:Program}{w:World}{K:W.Frag}{tg:Expr}(a it:Addr):fQ P w K tg (Itl K a) [it] it (fun i h=>h.IsListIter it a i)where
 mem:=by simp
 obj:=fun i h st b hb=>by
  have e:b=it:=by simpa using hb
  subst e;obtain⟨o,e,c,d⟩:=st;exact⟨o,e,fun v z=>by rw [d]at z;cases z⟩
 keep:=fun i h h' st k=>st.at fun o e=>k it (by simp) o e
 item:=by
  intro X hP hw hK hc i pins s σ H E I hf st hg;subst hP hw hK;obtain⟨xs,x,hq,hx⟩:=hg;obtain⟨its,rv,p,hz⟩:=I.list hq;obtain⟨u,hu,ru⟩:=rv.get hx;obtain⟨f0,f1,f2,f3,f4,f5⟩:=hf it (by simp);refine wpAny_pyNext_list_item st p.isList (x:=u) (by simpa using hu) fun h' st' sb=> ?_;have I1:Inv X pins σ H {s with heap:=h'}:=I.turned (t':=s.toks) (fun b o hb e=>(sb.2 b hb).trans e) f0 f1 f3 f4 f5;obtain⟨o,e,c,d⟩:=id st';exact⟨u,rfl,mQ (s:={s with heap:=h'}) e c d (by decide) ⟨x,H,I1,ru,⟨rfl,fun ys hy=>by rw [I.list_inj hy hq];exact hx⟩,st',fun b hb=>(hf b hb).1⟩⟩
 done:=by
  intro X hP hw hK hc i pins s σ H E I hf st hg;subst hP hw hK;obtain⟨xs,hq,hx⟩:=hg;obtain⟨its,rv,p,hz⟩:=I.list hq;obtain⟨f0,f1,f2,f3,f4,f5⟩:=hf it (by simp);have hl:=rv.length;exact wpAny_pyNext_list_end (I.ok.hd hc) st p.isList (by simp;omega) fun h' eb=> ⟨rfl,I.turned (t':=s.toks) (fun b o hb e=>eb b o hb e) f0 f1 f3 f4 f5⟩
 self:=fun _ _ _ _ _ st h=>wpAny_pyIter_listiter st h
theorem A46 {P:Program}{w:World}{K:W.Frag}{tg:Expr}(a it:Addr):fQ P w K tg (Itt K a) [it] it (fun i h=>h.IsTupleIter it a i)where
 mem:=by simp
 obj:=fun i h st b hb=>by
  have e:b=it:=by simpa using hb
  subst e;obtain⟨o,e,c,d⟩:=st;exact⟨o,e,fun v z=>by rw [d]at z;cases z⟩
 keep:=fun i h h' st k=>st.at fun o e=>k it (by simp) o e
 item:=by
  intro X hP hw hK hc i pins s σ H E I hf st hg;subst hP hw hK;obtain⟨xs,x,hq,hx⟩:=hg;obtain⟨its,rv,p,hz⟩:=I.tuple hq;obtain⟨u,hu,ru⟩:=rv.get hx;obtain⟨f0,f1,f2,f3,f4,f5⟩:=hf it (by simp);refine wpAny_pyNext_tuple_item st (show s.heap.IsTuple a its.toArray from p) (x:=u) (by simpa using hu) fun h' st' sb=> ?_;have I1:Inv X pins σ H {s with heap:=h'}:=I.turned (t':=s.toks) (fun b o hb e=>(sb.2 b hb).trans e) f0 f1 f3 f4 f5;obtain⟨o,e,c,d⟩:=id st';exact⟨u,rfl,mQ (s:={s with heap:=h'}) e c d (by decide) ⟨x,H,I1,ru,⟨rfl,fun ys hy=>by rw [I.tuple_inj hy hq];exact hx⟩,st',fun b hb=>(hf b hb).1⟩⟩
 done:=by
  intro X hP hw hK hc i pins s σ H E I hf st hg;subst hP hw hK;obtain⟨xs,hq,hx⟩:=hg;obtain⟨its,rv,p,hz⟩:=I.tuple hq;obtain⟨f0,f1,f2,f3,f4,f5⟩:=hf it (by simp);have hl:=rv.length;exact wpAny_pyNext_tuple_end (I.ok.hd hc) st (show s.heap.IsTuple a its.toArray from p) (by simp;omega) fun h' eb=> ⟨rfl,I.turned (t':=s.toks) (fun b o hb e=>eb b o hb e) f0 f1 f3 f4 f5⟩
 self:=fun _ _ _ _ _ st h=>wpAny_pyIter_tupleiter st h
theorem A0l {P:Program}{w:World}{K:PySem.W.Frag}{tg:Expr}(it:Addr)(lo:Int)(n:Nat):fQ P w K tg (Itr lo n) [it] it (fun i h=>IsRangeIter h it (lo+(i:Nat)*1) ((n:Int) -(i:Nat)) 1)where
 mem:=by simp
 obj:=fun i h st b hb=>by
  have e:b=it:=by simpa using hb
  subst e;exact⟨_,st,fun v z=>by
   have z':Data.fields _=Data.cell v:=z;cases z'⟩
 keep:=fun i h h' st k=>k it (by simp) _ st
 item:=by
  intro X hP hw hK hc i pins s σ H E I hf st hg;subst hP hw hK;obtain⟨f0,f1,f2,f3,f4,f5⟩:=hf it (by simp);have W:=Walks.range (prog:=X.prog) (w:=X.w) (I.ok.hd hc) it lo 1 n;refine W.item i s _ _ hg st fun v h' tk hv st' kk=> ?_;obtain⟨t,rfl⟩:=hv;have I1:Inv X pins σ H {s with heap:=h',toks:=tk}:=I.turned (fun b o hb e=>kk b o (by simpa using hb) e) f0 f1 f3 f4 f5;refine⟨_,rfl,mQ (s:={s with heap:=h',toks:=tk}) (n:="range_iterator") st' rfl rfl (by decide) ⟨.int (lo+i),H,I1,⟨t,?_⟩,⟨rfl,rfl⟩,st',fun b hb=>(hf b hb).1⟩⟩;rw [Int.mul_one]
 done:=by
  intro X hP hw hK hc i pins s σ H E I hf st hg;subst hP hw hK;obtain⟨f0,f1,f2,f3,f4,f5⟩:=hf it (by simp);exact wpAny_pyNext_range_end (I.ok.hd hc) st (by have:n<=i:=hg;omega) fun h' eb=> ⟨rfl,I.turned (t':=s.toks) (fun b o hb e=>eb b o hb e) f0 f1 f3 f4 f5⟩
 self:=fun _ _ _ _ _ st h=>wpAny_pyIter_rangeiter st h
section
variable {X:Cx}{tg:Expr}
def A8w (K:W.Frag)(tl:TE):TI:=fun σ H R=>tl σ H fun x H1=> ∃a,x= .ref a/\(∃xs,SqL K H1 a xs)/\R (Itl K a) H1
def A2b (K:W.Frag)(tl:TE):TI:=fun σ H R=>tl σ H fun x H1=> ∃a,x= .ref a/\(∃xs,SqT K H1 a xs)/\R (Itt K a) H1
theorem dN {l:Expr}{tl:TE}(hl:PE X l tl):PI X tg l (A8w X.K tl):=by
 intro pins s σ H R I h;refine thn (hl pins s σ H _ I h) fun v s1 ⟨x,H1,I1,r1,q1⟩=> ?_;obtain⟨a,e,⟨xs,hq⟩,q⟩:=q1;subst e;cases r1;obtain⟨its,rv,p,hz⟩:=I1.list hq;refine wpAny_pyIter_list p.isList ?_;refine⟨s1.heap.objs.size,[s1.heap.objs.size],_,_,H1,rfl,I1.kept (t':=s1.toks) fun b o e=>zjX _ e,A37 a _,⟨_,get?_push_size _ rfl,rfl,rfl⟩,fun b hb=> ?_,q⟩;have e:b=s1.heap.objs.size:=by simpa using hb
 subst e;exact I1.fpOk (zjQ _) (I1.hok.fresh (zjQ _))
theorem cY {l:Expr}{tl:TE}(hl:PE X l tl):PI X tg l (A2b X.K tl):=by
 intro pins s σ H R I h;refine thn (hl pins s σ H _ I h) fun v s1 ⟨x,H1,I1,r1,q1⟩=> ?_;obtain⟨a,e,⟨xs,hq⟩,q⟩:=q1;subst e;cases r1;obtain⟨its,rv,p,hz⟩:=I1.tuple hq;refine wpAny_pyIter_tuple (show s1.heap.IsTuple a its.toArray from p) ?_;refine⟨s1.heap.objs.size,[s1.heap.objs.size],_,_,H1,rfl,I1.kept (t':=s1.toks) fun b o e=>zjX _ e,A46 a _,⟨_,get?_push_size _ rfl,rfl,rfl⟩,fun b hb=> ?_,q⟩;have e:b=s1.heap.objs.size:=by simpa using hb
 subst e;exact I1.fpOk (zjQ _) (I1.hok.fresh (zjQ _))
theorem A8p {pins:List (Addr×Obj)}{σ:St}{H:Hp}{s:Shared}{R:It->Hp->Prop}{E:Value->Shared->Prop}{lo hi:Int}{t u v:Tok}{tk:Nat}(I:Inv X pins σ H s)(h1:-(2^62)<=lo)(h2:lo<2^62)(h3:-(2^62)<=hi)(h4:hi<2^62)
  (q:R (Itr lo (hi - lo).toNat) H):wpAny (model X.prog X.w) X.A (pyIter (.ref s.heap.objs.size)) (PIE X pins σ tg R) E {s with heap:=s.heap.push {cls:=.type "range",data:=.fields #[.int lo t,.int hi u,.int 1 v]},toks:=tk}:=by
 refine wpAny_pyIter_range (IsRange.new ..) (small_one h1 h2 h3 h4) ?_;have I1:Inv X pins σ H {s with heap:=s.heap.push {cls:=.type "range",data:=.fields #[.int lo t,.int hi u,.int 1 v]},toks:=tk}:=I.kept fun b o e=>zjX _ e;refine⟨(s.heap.push {cls:=.type "range",data:=.fields #[.int lo t,.int hi u,.int 1 v]}).objs.size,[(s.heap.push {cls:=.type "range",data:=.fields #[.int lo t,.int hi u,.int 1 v]}).objs.size],_,_,H,rfl,
  I1.kept (t':=tk) fun b o e=>zjX _ e,A0l _ lo (hi - lo).toNat,?_,fun b hb=> ?_,q⟩
 ·have e1:lo+((0:Nat):Int)*1=lo:=by simp
  have e2:(((hi - lo).toNat:Nat):Int) -((0:Nat):Int)=Builtin.Range.rangeSize lo hi 1:=by rw [rangeSize_one];split<;>omega
  show IsRangeIter _ _ (lo+((0:Nat):Int)*1) ((((hi - lo).toNat:Nat):Int) -((0:Nat):Int)) 1;rw [e1,e2];exact get?_push_size _ rfl
 ·have e:b=(s.heap.push {cls:=.type "range",data:=.fields #[.int lo t,.int hi u,.int 1 v]}).objs.size:=by simpa using hb
  subst e;exact I1.fpOk (zjQ _) (I1.hok.fresh (zjQ _))
def A3f (ta:TA):TI:=fun σ H R=>ta σ H fun vs H1=> ∃j:Int,vs=[.int j]/\-(2^62)<=j/\j<2^62/\R (Itr 0 j.toNat) H1
theorem gK {a:Expr}{ta:TA}{p pos:Pos}(hg:Gl X "range")(hm:X.mg "range" =none)(ha:PA X [a] ta)(hs:starEach [a] X.env=[(false,eval a X.env)]:=by rfl):PI X tg (.Call (.Name "range" p) [a] [] pos) (A3f ta):=by
 intro pins s σ H R I h;refine Call_ (iH I hg hm boot_range (PyProof.Rows.callWith_type1 (thn (ha pos pins s σ H _ I h) fun us s1 ⟨vs,H1,I1,r1,q1⟩=> ?_) hs rfl));obtain⟨j,e,q1,q2,q⟩:=q1;subst e;cases r1 with
 |cons r rr=>
  cases rr;obtain⟨t,rfl⟩:=r;exact call_range_1 (A8p I1 (by omega) (by omega) q1 q2 (by simpa using q))
def A1f (wi:TI)(g:TG)(tb:TS):TS:=fun D σ H=>wi σ H fun J H1=> ∃W:Nat->Nat->St->Hp->Prop,(∃m,W 0 m σ H1)/\∀i m σ H,W i m σ H->
 (J.stop i H/\D.nx σ H)\/(J.go i H/\∃N:St->Hp->Prop,(∀σ' H',N σ' H'->∃m',m'<m/\W (i+1) m' σ' H')/\∀x H',J.yld i H x H'->g x σ H' fun σ2 H2=>tb {D with nx:=N,ct:=N,bk:=D.nx} σ2 H2)
def kZ (fp:List Addr)(h:Heap):List (Addr×Obj):=fp.filterMap fun b=>(h.get? b).map fun o=>(b,o)
theorem lS {fp:List Addr}{h:Heap}{b:Addr}{o:Obj}(hb:b∈fp)(e:h.get? b=some o):(b,o)∈kZ fp h:=mem_filterMap.mpr ⟨b,hb,by rw [e];rfl⟩
theorem A6o {fp:List Addr}{h:Heap}{p:Addr×Obj}(hp:p∈kZ fp h):p.1∈fp/\h.get? p.1=some p.2:=by
 obtain⟨b,hb,e⟩:=mem_filterMap.mp hp;cases q:h.get? b with
 |none=>rw [q]at e;cases e
 |some o=>
  rw [q]at e;have e':(b,o)=p:=Option.some.inj e;subst e';exact⟨hb,q⟩
theorem Inv.pinned {pins:List (Addr×Obj)}{σ:St}{H:Hp}{s:Shared}{fp:List Addr}(I:Inv X pins σ H s)(hf:∀b∈fp,eK X pins H b)(ho:∀b∈fp,∃o,s.heap.get? b=some o/\∀v,o.data≠ .cell v):Inv X (pins++kZ fp s.heap) σ H s:=
 I.pins_of fun p hp=>(mem_append.mp hp).elim (fun z=>I.pin p (mem_append_right _ z)) fun z=>by
  obtain⟨hb,e⟩:=A6o z;obtain⟨f0,f1,f2,_⟩:=hf p.1 hb;obtain⟨o,e',d⟩:=ho p.1 hb;rw [e]at e';cases e';exact⟨e,f0,f1,f2,d⟩
theorem Inv.unpinned {pins pl:List (Addr×Obj)}{σ:St}{H:Hp}{s:Shared}(I:Inv X (pins++pl) σ H s):Inv X pins σ H s:=I.pins_of fun p hp=>I.pin p (mem_append_right _ (mem_append_left _ hp))
theorem eF {iter:Expr}{body:List Stmt}{wi:TI}{g:TG}{tb:TS}{pos:Pos}(hp:PassesOwn (model X.prog X.w) X.A X.env X.xe)(hc:X.calm=true)(hi:PI X tg iter wi)(hg:PG X tg g)(hb:PSs X body tb)
  (hs:∀x,foldedSetIterable iter X.env x=pure x:=by intro _;rfl):PS X (.For tg iter body [] pos) (A1f wi g tb):=by
 intro pins s σ H D I h;refine wpAny_For (thn (hi pins s σ H _ I h) fun v s1 h1=>thn h1 fun itv s2 h2=> ?_) hs;obtain⟨it,fp,tn,J,H2,e,I2,T,st2,f2,W,⟨m0,w0⟩,turn⟩:=h2;subst e;have stat:∀{H':Hp},(∀b∈fp,H' b=none)->∀b∈fp,eK X pins H' b:=fun hn b hb=> ⟨hn b hb,(f2 b hb).2⟩;refine codeAny_forLoop_any (fun n s'=> ∃i σ' H',Inv X pins σ' H' s'/\tn i s'.heap/\(∀b∈fp,H' b=none)/\W i n σ' H') ?_ m0 ⟨0,σ,H2,I2,st2,fun b hb=>(f2 b hb).1,w0⟩;rintro n s3 ⟨i,σ3,H3,I3,st3,fr3,w3⟩;rcases turn i n σ3 H3 w3 with⟨stop,qn⟩| ⟨go,N,hN,step⟩
 ·refine wpAny_passesOwn hp (thn (T.done X rfl rfl rfl hc i pins s3 σ3 H3 X.xe I3 (stat fr3) st3 stop) fun r s4 ⟨hr,I4⟩=> ?_);subst hr;exact wpAny_execs_nil ⟨σ3,H3,I4,qn⟩
 ·refine wpAny_passesOwn hp (thn (T.item X rfl rfl rfl hc i pins s3 σ3 H3 X.xe I3 (stat fr3) st3 go) fun r s4 ⟨u,hr,h4⟩=> ?_);subst hr;refine wpAny_passesOwn hp (thn h4 fun _ s5 ⟨x,H5,I5,r5,y5,st5,fr5⟩=> ?_);have I5':=I5.pinned (stat fr5) (T.obj _ _ st5);refine wpAny_passesOwn hp (thn (hg _ s5 σ3 H5 x u _ I5' r5 (step x H5 y5)) fun _ s6 ⟨σ6,H6,I6,q6⟩=> ?_);refine wpAny_passesOwn hp (thn (hb _ s6 σ6 H6 _ I6 q6) fun f s7 q7=> ?_);have again:∀{σ7:St}{H7:Hp},Inv X (pins++kZ fp s5.heap) σ7 H7 s7->N σ7 H7->∃m,m<n/\∃i σ' H',Inv X pins σ' H' s7/\tn i s7.heap/\(∀b∈fp,H' b=none)/\W i m σ' H':=fun{σ7 H7} I7 n7=>by
   obtain⟨m',hm,w7⟩:=hN σ7 H7 n7;refine⟨m',hm,i+1,σ7,H7,I7.unpinned,T.keep _ _ _ st5 fun b hb o e=>(I7.pin (b,o) (mem_append_right _ (mem_append_right _ (lS hb e)))).1,fun b hb=> ?_,w7⟩;obtain⟨o,e,d⟩:=T.obj _ _ st5 b hb;exact(I7.pin (b,o) (mem_append_right _ (mem_append_right _ (lS hb e)))).2.1
  cases f with
  |next=>obtain⟨σ7,H7,I7,n7⟩:=q7;exact again I7 n7
  |cont=>obtain⟨σ7,H7,I7,n7⟩:=q7;exact again I7 n7
  |brk=>obtain⟨σ7,H7,I7,q7⟩:=q7;exact⟨σ7,H7,I7.unpinned,q7⟩
  |ret v=>obtain⟨x7,σ7,H7,I7,r7,q7⟩:=q7;exact⟨x7,σ7,H7,I7.unpinned,r7,q7⟩
end
theorem gU {K:PySem.W.Frag}{a:Addr}{xs:List V}{g:TG}{tb:TS}{D:dH}{σ:St}{H:Hp}(Pv:Nat->St->Hp->Prop)(h0:Pv 0 σ H)(hl:∀i σ H,i<=xs.length->Pv i σ H->SqL K H a xs)
  (hs:∀i x σ H,xs[i]?=some x->Pv i σ H->g x σ H fun σ2 H2=>tb {D with nx:=Pv (i+1),ct:=Pv (i+1),bk:=D.nx} σ2 H2)(hd:∀σ H,Pv xs.length σ H->D.nx σ H):
  ∃W:Nat->Nat->St->Hp->Prop,(∃m,W 0 m σ H)/\∀i m σ H,W i m σ H->
   ((Itl K a).stop i H/\D.nx σ H)\/((Itl K a).go i H/\∃N:St->Hp->Prop,(∀σ' H',N σ' H'->∃m',m'<m/\W (i+1) m' σ' H')/\∀x H',(Itl K a).yld i H x H'->g x σ H' fun σ2 H2=>tb {D with nx:=N,ct:=N,bk:=D.nx} σ2 H2):=by
 refine⟨fun i m σ H=>m=xs.length - i/\i<=xs.length/\Pv i σ H,⟨xs.length,by simp,zero_le _,h0⟩,?_⟩;rintro i m σ H ⟨rfl,hi,p⟩;have q:=hl i σ H hi p;by_cases hlt:i<xs.length
 ·refine .inr ⟨⟨xs,xs[i],q,by simp [hlt]⟩,Pv (i+1),fun σ' H' p'=> ⟨xs.length -(i+1),by omega,rfl,hlt,p'⟩,fun x H' y=> ?_⟩;obtain⟨e,y⟩:=y;subst e;exact hs i x σ _ (y xs q) p
 ·have e:i=xs.length:=by omega
  subst e;exact .inl ⟨⟨xs,q,zjQ _⟩,hd σ H p⟩
theorem gE {K:PySem.W.Frag}{a:Addr}{xs:List V}{g:TG}{tb:TS}{D:dH}{σ:St}{H:Hp}(Pv:Nat->St->Hp->Prop)(h0:Pv 0 σ H)(hl:∀i σ H,i<=xs.length->Pv i σ H->SqT K H a xs)
  (hs:∀i x σ H,xs[i]?=some x->Pv i σ H->g x σ H fun σ2 H2=>tb {D with nx:=Pv (i+1),ct:=Pv (i+1),bk:=D.nx} σ2 H2)(hd:∀σ H,Pv xs.length σ H->D.nx σ H):
  ∃W:Nat->Nat->St->Hp->Prop,(∃m,W 0 m σ H)/\∀i m σ H,W i m σ H->
   ((Itt K a).stop i H/\D.nx σ H)\/((Itt K a).go i H/\∃N:St->Hp->Prop,(∀σ' H',N σ' H'->∃m',m'<m/\W (i+1) m' σ' H')/\∀x H',(Itt K a).yld i H x H'->g x σ H' fun σ2 H2=>tb {D with nx:=N,ct:=N,bk:=D.nx} σ2 H2):=by
 refine⟨fun i m σ H=>m=xs.length - i/\i<=xs.length/\Pv i σ H,⟨xs.length,by simp,zero_le _,h0⟩,?_⟩;rintro i m σ H ⟨rfl,hi,p⟩;have q:=hl i σ H hi p;by_cases hlt:i<xs.length
 ·refine .inr ⟨⟨xs,xs[i],q,by simp [hlt]⟩,Pv (i+1),fun σ' H' p'=> ⟨xs.length -(i+1),by omega,rfl,hlt,p'⟩,fun x H' y=> ?_⟩;obtain⟨e,y⟩:=y;subst e;exact hs i x σ _ (y xs q) p
 ·have e:i=xs.length:=by omega
  subst e;exact .inl ⟨⟨xs,q,zjQ _⟩,hd σ H p⟩
theorem gM {lo:Int}{n:Nat}{g:TG}{tb:TS}{D:dH}{σ:St}{H:Hp}(Pv:Nat->St->Hp->Prop)(h0:Pv 0 σ H)
  (hs:∀i σ H,i<n->Pv i σ H->g (.int (lo+i)) σ H fun σ2 H2=>tb {D with nx:=Pv (i+1),ct:=Pv (i+1),bk:=D.nx} σ2 H2)(hd:∀σ H,Pv n σ H->D.nx σ H):
  ∃W:Nat->Nat->St->Hp->Prop,(∃m,W 0 m σ H)/\∀i m σ H,W i m σ H->
   ((Itr lo n).stop i H/\D.nx σ H)\/((Itr lo n).go i H/\∃N:St->Hp->Prop,(∀σ' H',N σ' H'->∃m',m'<m/\W (i+1) m' σ' H')/\∀x H',(Itr lo n).yld i H x H'->g x σ H' fun σ2 H2=>tb {D with nx:=N,ct:=N,bk:=D.nx} σ2 H2):=by
 refine⟨fun i m σ H=>m=n - i/\i<=n/\Pv i σ H,⟨n,by simp,zero_le _,h0⟩,?_⟩;rintro i m σ H ⟨rfl,hi,p⟩;by_cases hlt:i<n
 ·refine .inr ⟨hlt,Pv (i+1),fun σ' H' p'=> ⟨n -(i+1),by omega,rfl,hlt,p'⟩,fun x H' y=> ?_⟩;obtain⟨e,y⟩:=y;subst e y;exact hs i σ _ hlt p
 ·have e:i=n:=by omega
  subst e;exact .inl ⟨zjQ _,hd σ H p⟩
theorem tD {c:TT}{tb:TS}{D:dH}{σ:St}{H:Hp}(Pv:St->Hp->Prop)(μ:St->Hp->Nat)(h0:Pv σ H)
  (hs:∀σ H,Pv σ H->c σ H fun b H1=>if b=true then tb {D with nx:=fun σ' H'=>Pv σ' H'/\μ σ' H'<μ σ H,ct:=fun σ' H'=>Pv σ' H'/\μ σ' H'<μ σ H,bk:=D.nx} σ H1 else D.nx σ H1)
  (mono:∀σ H Q Q',(∀b H1,Q b H1->Q' b H1)->c σ H Q->c σ H Q'):rY c tb D σ H:=by
 refine⟨fun m σ H=>m=μ σ H/\Pv σ H,⟨_,rfl,h0⟩,?_⟩;rintro m σ H ⟨rfl,p⟩;refine mono σ H _ _ (fun b H1 q=> ?_) (hs σ H p);cases b with
 |true=>exact⟨_,fun σ' H' ⟨p',l⟩=> ⟨_,l,rfl,p'⟩,q⟩
 |false=>exact q
abbrev R2:=V->V->Hp->VK->Prop
def OpR (X:Cx)(f:Value->Value->Sem Value)(r:R2):Prop:=
 ∀(pins:List (Addr×Obj))(s:Shared)(σ:St)(H:Hp)(x y:V)(v u:Value)(Q:VK),Inv X pins σ H s->RelV x v->RelV y u->r x y H Q->
  wpAny (model X.prog X.w) X.A (f v u) (EP X pins σ Q) X.xe s
def UnR (X:Cx)(f:Value->Sem Value)(r:V->Hp->VK->Prop):Prop:=
 ∀(pins:List (Addr×Obj))(s:Shared)(σ:St)(H:Hp)(x:V)(v:Value)(Q:VK),Inv X pins σ H s->RelV x v->r x H Q->
  wpAny (model X.prog X.w) X.A (f v) (EP X pins σ Q) X.xe s
def dF (X:Cx)(f:Value)(r:List V->Hp->VK->Prop):Prop:=
 ∀(pins:List (Addr×Obj))(s:Shared)(σ:St)(H:Hp)(xs:List V)(us:List Value)(Q:VK),Inv X pins σ H s->Vals xs us->r xs H Q->
  wpAny (model X.prog X.w) X.A (call f us) (EP X pins σ Q) X.xe s
def tOp (r:R2)(ta tb:TE):TE:=fun σ H Q=>ta σ H fun x H1=>tb σ H1 fun y H2=>r x y H2 Q
def tUn (r:V->Hp->VK->Prop)(ta:TE):TE:=fun σ H Q=>ta σ H fun x H1=>r x H1 Q
def rI (C:Int->Int->Prop)(g:Int->Int->V):R2:=fun x y H Q=> ∃i j,x= .int i/\y= .int j/\C i j/\Q (g i j) H
def rI0 (g:Int->Int->V):R2:=fun x y H Q=> ∃i j,x= .int i/\y= .int j/\Q (g i j) H
def rU (g:Int->V):V->Hp->VK->Prop:=fun x H Q=> ∃i,x= .int i/\Q (g i) H
section
variable {X:Cx}{a b c:Expr}{ta tb tc:TE}{pos:Pos}
theorem qI (ha:PE X a ta)(hb:PE X b tb){pins:List (Addr×Obj)}{s:Shared}{σ:St}{H:Hp}{R:V->V->Hp->Prop}(I:Inv X pins σ H s)
  (h:ta σ H fun x H1=>tb σ H1 fun y H2=>R x y H2){Q:Value->Shared->Prop}{f:Value->Value->Sem Value}
  (hf:∀v u s2 x y H2,Inv X pins σ H2 s2->RelV x v->RelV y u->R x y H2->wpAny (model X.prog X.w) X.A (f v u) Q X.xe s2):
  wpAny (model X.prog X.w) X.A (eval a X.env) (fun v s₁=>wpAny (model X.prog X.w) X.A (eval b X.env) (fun u s₂=>wpAny (model X.prog X.w) X.A (f v u) Q X.xe s₂) X.xe s₁) X.xe s:=by
 refine thn (ha pins s σ H _ I h) fun v s1 ⟨x,H1,I1,r1,q1⟩=> ?_;refine thn (hb pins s1 σ H1 _ I1 q1) fun u s2 ⟨y,H2,I2,r2,q2⟩=> ?_;exact hf v u s2 x y H2 I2 r1 r2 q2
theorem bD {op:Operator}{r:R2}(ho:OpR X (binaryOp op) r)(ha:PE X a ta)(hb:PE X b tb):PE X (.BinOp a op b pos) (tOp r ta tb):=by intro pins s σ H Q I h;exact wpAny_BinOp (qI ha hb I h fun v u s2 x y H2 I2 rx ry q=>ho pins s2 σ H2 x y v u Q I2 rx ry q)
theorem jI {op:UnaryOp}{r:V->Hp->VK->Prop}(ho:UnR X (unaryOp op) r)(ha:PE X a ta):PE X (.UnaryOp op a pos) (tUn r ta):=by intro pins s σ H Q I h;exact UnaryOp_ (thn (ha pins s σ H _ I h) fun v s1 ⟨x,H1,I1,r1,q1⟩=>ho pins s1 σ H1 x v Q I1 r1 q1)
theorem opI {f:Value->Value->Sem Value}{C:Int->Int->Prop}{g:Int->Int->Int}
  (rule:∀(i j:Int)(t u:Tok)(s:Shared)(Q:Value->Shared->Prop)(E:Value->Shared->Prop),C i j->Q (.int (g i j) s.toks) {s with toks:=s.toks+1}->wpAny (model X.prog X.w) X.A (f (.int i t) (.int j u)) Q E s):
  OpR X f (rI C fun i j=> .int (g i j)):=by
 intro pins s σ H x y v u Q I rx ry h;obtain⟨i,j,rfl,rfl,hc,q⟩:=h;obtain⟨t,rfl⟩:=rx;obtain⟨t',rfl⟩:=ry;exact rule i j t t' s _ _ hc ⟨.int (g i j),H,I.tok _,⟨_,rfl⟩,q⟩
theorem sI {f:Value->Value->Sem Value}{g:Int->Int->Int}
  (rule:∀(i j:Int)(t u:Tok)(s:Shared)(Q:Value->Shared->Prop)(E:Value->Shared->Prop),Q (.int (g i j) s.toks) {s with toks:=s.toks+1}->wpAny (model X.prog X.w) X.A (f (.int i t) (.int j u)) Q E s):
  OpR X f (rI0 fun i j=> .int (g i j)):=by
 intro pins s σ H x y v u Q I rx ry h;obtain⟨i,j,rfl,rfl,q⟩:=h;obtain⟨t,rfl⟩:=rx;obtain⟨t',rfl⟩:=ry;exact rule i j t t' s _ _ ⟨.int (g i j),H,I.tok _,⟨_,rfl⟩,q⟩
theorem lV {f:Value->Value->Sem Value}{g:Int->Int->Bool}
  (rule:∀(i j:Int)(t u:Tok)(s:Shared)(Q:Value->Shared->Prop)(E:Value->Shared->Prop),Q (.bool (g i j)) s->wpAny (model X.prog X.w) X.A (f (.int i t) (.int j u)) Q E s):
  OpR X f (rI0 fun i j=> .bl (g i j)):=by
 intro pins s σ H x y v u Q I rx ry h;obtain⟨i,j,rfl,rfl,q⟩:=h;obtain⟨t,rfl⟩:=rx;obtain⟨t',rfl⟩:=ry;exact rule i j t t' s _ _ ⟨.bl (g i j),H,I,rfl,q⟩
def A77 (i j:Int):Prop:=0<j/\j<1073741824
def A5n (i j:Int):Prop:=0<=j/\j<=1000000/\i.natAbs<2^64
def CMul (i j:Int):Prop:=(-(2^64)<i/\i<2^64)\/(-(2^64)<j/\j<2^64)
theorem CMul.ok {i j:Int}(h:CMul i j):IntMulOk i j:=by
 rcases h with⟨h1,h2⟩| ⟨h1,h2⟩
 ·exact .of_left (intBits_le_64 h1 h2)
 ·exact .of_right (intBits_le_64 h1 h2)
theorem eJ:OpR X (binaryOp .Add) (rI0 fun i j=> .int (i+j)):=sI fun _ _ _ _ _ _ _ q=>add_int q
theorem gZ:OpR X (binaryOp .Sub) (rI0 fun i j=> .int (i - j)):=sI fun _ _ _ _ _ _ _ q=>sub_int q
theorem eG:OpR X (binaryOp .Mult) (rI CMul fun i j=> .int (i*j)):=opI fun _ _ _ _ _ _ _ hc q=>mul_int q hc.ok
theorem jM:OpR X (binaryOp .FloorDiv) (rI A77 fun i j=> .int (i/j)):=opI fun i j _ _ _ _ _ hc q=>by
 have h1:(0:Int)<j:=hc.1;have h2:j<1073741824:=hc.2;exact floordiv_int (by omega) (by rw [Int.fdiv_eq_ediv_of_nonneg i (by omega)];exact q) (.inl (PyProof.noPylong_small (by omega)))
theorem iI:OpR X (binaryOp .Mod) (rI (fun _ j=>0<j) fun i j=> .int (i%j)):=opI fun i j _ _ _ _ _ hc q=>by
 have h1:(0:Int)<j:=hc;exact mod_int' (by omega) (by rw [Int.fmod_eq_emod_of_nonneg i (by omega)];exact q)
theorem A7s:OpR X (binaryOp .Pow) (rI A5n fun i j=> .int (i^j.toNat)):=opI fun _ _ _ _ _ _ _ hc q=>pow_int_small hc.1 hc.2.1 hc.2.2 q
theorem unI {f:Value->Sem Value}{g:Int->Int}
  (rule:∀(i:Int)(t:Tok)(s:Shared)(Q:Value->Shared->Prop)(E:Value->Shared->Prop),Q (.int (g i) s.toks) {s with toks:=s.toks+1}->wpAny (model X.prog X.w) X.A (f (.int i t)) Q E s):
  UnR X f (rU fun i=> .int (g i)):=by
 intro pins s σ H x v Q I rx h;obtain⟨i,rfl,q⟩:=h;obtain⟨t,rfl⟩:=rx;exact rule i t s _ _ ⟨.int (g i),H,I.tok _,⟨_,rfl⟩,q⟩
theorem jN:UnR X (unaryOp .USub) (rU fun i=> .int (-i)):=unI fun _ _ _ _ _ q=>neg_int q
end
def scal:V->V->Bool
 | .non,.non=>true| .non,.int _=>true| .int _,.non=>true| .non,.bl _=>true| .bl _,.non=>true| .non,.str _=>true| .str _,.non=>true
 | .int _,.int _=>true| .bl _,.bl _=>true| .str _,.str _=>true| .byt _,.byt _=>true
 | .int _,.str _=>true| .str _,.int _=>true| .bl _,.str _=>true| .str _,.bl _=>true
 |_,_=>false
def rEq:R2:=fun x y H Q=>scal x y=true/\Q (.bl (decide (x=y))) H
def rNe:R2:=fun x y H Q=>scal x y=true/\Q (.bl (!decide (x=y))) H
theorem tE {i j:Int}:decide (V.int i=V.int j)=(i==j):=by rw [Bool.eq_iff_iff];simp
theorem uM {i j:Bool}:decide (V.bl i=V.bl j)=(i==j):=by rw [Bool.eq_iff_iff];simp
theorem vV {i j:Str}:decide (V.str i=V.str j)=(i==j):=by rw [Bool.eq_iff_iff];simp
theorem xY {i j:Array UInt8}:decide (V.byt i=V.byt j)=(i.toList==j.toList):=by rw [Bool.eq_iff_iff];cases i;cases j;simp
section
variable {X:Cx}{a b c:Expr}{ta tb tc:TE}{pos:Pos}
theorem bX {pins:List (Addr×Obj)}{σ:St}{H:Hp}{s:Shared}{Q:VK}{k k':Bool}(I:Inv X pins σ H s)(q:Q (.bl k) H)(e:k=k'):EP X pins σ Q (.bool k') s:=by subst e;exact⟨.bl k,H,I,rfl,q⟩
theorem eX:OpR X (compareOp .Eq) rEq:=by
 intro pins s σ H x y v u Q I rx ry h;obtain⟨hs,q⟩:=h;cases x with
 |non=>
  cases rx;cases y with
  |non=>cases ry;exact PySem.EqNone.eq_none_none (bX I q (by simp))
  |bl j=>cases ry;exact PySem.EqNone.eq_none_bool (bX I q (by simp))
  |int j=>obtain⟨t',rfl⟩:=ry;exact PySem.EqNone.eq_none_int (bX I q (by simp))
  |str j=>obtain⟨t',rfl⟩:=ry;exact PySem.EqNone.eq_none_str (bX I q (by simp))
  |_=>exact absurd (show false=true from hs) Bool.false_ne_true
 |bl i=>
  cases rx;cases y with
  |non=>cases ry;exact PySem.EqNone.eq_bool_none (bX I q (by simp))
  |bl j=>cases ry;exact eq_bool (bX I q uM)
  |str j=>obtain⟨t',rfl⟩:=ry;exact PySem.EqMixed.eq_bool_str (bX I q (by simp))
  |_=>exact absurd (show false=true from hs) Bool.false_ne_true
 |int i=>
  obtain⟨t,rfl⟩:=rx;cases y with
  |non=>cases ry;exact PySem.EqNone.eq_int_none (bX I q (by simp))
  |int j=>obtain⟨t',rfl⟩:=ry;exact eq_int (bX I q tE)
  |str j=>obtain⟨t',rfl⟩:=ry;exact PySem.EqMixed.eq_int_str (bX I q (by simp))
  |_=>exact absurd (show false=true from hs) Bool.false_ne_true
 |str i=>
  obtain⟨t,rfl⟩:=rx;cases y with
  |non=>cases ry;exact PySem.EqNone.eq_str_none (bX I q (by simp))
  |bl j=>cases ry;exact PySem.EqMixed.eq_str_bool (bX I q (by simp))
  |int j=>obtain⟨t',rfl⟩:=ry;exact PySem.EqMixed.eq_str_int (bX I q (by simp))
  |str j=>obtain⟨t',rfl⟩:=ry;exact eq_str (bX I q vV)
  |_=>exact absurd (show false=true from hs) Bool.false_ne_true
 |byt i=>
  obtain⟨t,rfl⟩:=rx;cases y with
  |byt j=>obtain⟨t',rfl⟩:=ry;exact W.eq_bytes (bX I q xY)
  |_=>exact absurd (show false=true from hs) Bool.false_ne_true
 |_=>cases y<;>exact absurd (show false=true from hs) Bool.false_ne_true
theorem nQ:OpR X (compareOp .NotEq) rNe:=by
 intro pins s σ H x y v u Q I rx ry h;obtain⟨hs,q⟩:=h;cases x with
 |non=>
  cases rx;cases y with
  |non=>cases ry;exact PySem.EqNone.ne_none_none (bX I q (by simp))
  |bl j=>cases ry;exact PySem.EqNone.ne_none_bool (bX I q (by simp))
  |int j=>obtain⟨t',rfl⟩:=ry;exact PySem.EqNone.ne_none_int (bX I q (by simp))
  |str j=>obtain⟨t',rfl⟩:=ry;exact PySem.EqNone.ne_none_str (bX I q (by simp))
  |_=>exact absurd (show false=true from hs) Bool.false_ne_true
 |bl i=>
  cases rx;cases y with
  |non=>cases ry;exact PySem.EqNone.ne_bool_none (bX I q (by simp))
  |bl j=>cases ry;exact ne_bool (bX I q (congrArg not uM))
  |str j=>obtain⟨t',rfl⟩:=ry;exact PySem.EqMixed.ne_bool_str (bX I q (by simp))
  |_=>exact absurd (show false=true from hs) Bool.false_ne_true
 |int i=>
  obtain⟨t,rfl⟩:=rx;cases y with
  |non=>cases ry;exact PySem.EqNone.ne_int_none (bX I q (by simp))
  |int j=>obtain⟨t',rfl⟩:=ry;exact ne_int (bX I q (congrArg not tE))
  |str j=>obtain⟨t',rfl⟩:=ry;exact PySem.EqMixed.ne_int_str (bX I q (by simp))
  |_=>exact absurd (show false=true from hs) Bool.false_ne_true
 |str i=>
  obtain⟨t,rfl⟩:=rx;cases y with
  |non=>cases ry;exact PySem.EqNone.ne_str_none (bX I q (by simp))
  |bl j=>cases ry;exact PySem.EqMixed.ne_str_bool (bX I q (by simp))
  |int j=>obtain⟨t',rfl⟩:=ry;exact PySem.EqMixed.ne_str_int (bX I q (by simp))
  |str j=>obtain⟨t',rfl⟩:=ry;exact ne_str (bX I q (congrArg not vV))
  |_=>exact absurd (show false=true from hs) Bool.false_ne_true
 |byt i=>
  obtain⟨t,rfl⟩:=rx;cases y with
  |byt j=>obtain⟨t',rfl⟩:=ry;exact W.ne_bytes (bX I q (congrArg not xY))
  |_=>exact absurd (show false=true from hs) Bool.false_ne_true
 |_=>cases y<;>exact absurd (show false=true from hs) Bool.false_ne_true
theorem oY:OpR X (compareOp .Lt) (rI0 fun i j=> .bl (decide (i<j))):=lV fun _ _ _ _ _ _ _ q=>lt_int q
theorem iG:OpR X (compareOp .LtE) (rI0 fun i j=> .bl (decide (i<=j))):=lV fun _ _ _ _ _ _ _ q=>le_int q
theorem nL:OpR X (compareOp .Gt) (rI0 fun i j=> .bl (decide (j<i))):=lV fun _ _ _ _ _ _ _ q=>gt_int q
theorem lD:OpR X (compareOp .GtE) (rI0 fun i j=> .bl (decide (j<=i))):=lV fun _ _ _ _ _ _ _ q=>ge_int q
theorem nomark (b:Expr){op:CmpOp}(h:op≠ .In:=by decide)(h2:op≠ .NotIn:=by decide):behindInMarks op b=false:=by
 have e1:(op==CmpOp.In)=false:=by cases op<;>first|rfl|exact absurd rfl h
 have e2:(op==CmpOp.NotIn)=false:=by cases op<;>first|rfl|exact absurd rfl h2
 cases b<;>simp [behindInMarks,e1,e2]
theorem dD {op:CmpOp}{r:R2}(ho:OpR X (compareOp op) r)(ha:PE X a ta)(hb:PE X b tb)(hm:behindInMarks op b=false):PE X (.Compare a [op] [b] pos) (tOp r ta tb):=by intro pins s σ H Q I h;exact wpAny_Compare1 (qI ha hb I h fun v u s2 x y H2 I2 rx ry q=>ho pins s2 σ H2 x y v u Q I2 rx ry q) hm
def A22 (t:TE):TT:=fun σ H Q=>t σ H fun x H'=> ∃k,x= .bl k/\Q k H'
theorem cI {op:CmpOp}{r:R2}(ho:OpR X (compareOp op) r)(ha:PE X a ta)(hb:PE X b tb)(hm:behindInMarks op b=false):PT X (.Compare a [op] [b] pos) (A22 (tOp r ta tb)):=by
 intro pins s σ H Q I h;refine wpAny_isTrue_Compare1 (thn (ha pins s σ H _ I h) fun v s1 ⟨x,H1,I1,r1,q1⟩=>thn (hb pins s1 σ H1 _ I1 q1) fun u s2 ⟨y,H2,I2,r2,q2⟩=>
  thn (ho pins s2 σ H2 x y v u _ I2 r1 r2 q2) fun c s3 ⟨z,H3,I3,r3,k,e,q3⟩=> ?_) hm
 subst e;cases r3;exact wpAny_truthy_bool ⟨H3,I3,q3⟩
def A7z (r r':R2)(ta tb tc:TE):TE:=fun σ H Q=>ta σ H fun x H1=>tb σ H1 fun y H2=>r x y H2 fun z H3=> ∃k,z= .bl k/\
 (if k=true then tc σ H3 fun w' H4=>r' y w' H4 Q else Q (.bl false) H3)
theorem rH {op op':CmpOp}{r r':R2}(ho:OpR X (compareOp op) r)(ho':OpR X (compareOp op') r')(ha:PE X a ta)(hb:PE X b tb)(hc:PE X c tc)
  (hm:lastMarks [op,op'] [b,c]=false:=by with_unfolding_all rfl):PE X (.Compare a [op,op'] [b,c] pos) (A7z r r' ta tb tc):=by
 intro pins s σ H Q I h;refine Compare_chain (thn (ha pins s σ H _ I h) fun v s1 ⟨x,H1,I1,r1,q1⟩=>chain_link (thn (hb pins s1 σ H1 _ I1 q1) fun u s2 ⟨y,H2,I2,r2,q2⟩=>
  thn (ho pins s2 σ H2 x y v u _ I2 r1 r2 q2) fun d s3 ⟨z,H3,I3,r3,k,e,q3⟩=> ?_)) hm
 subst e;cases r3;refine wpAny_truthy_bool ?_;cases k with
 |false=>exact ite_ff ⟨.bl false,H3,I3,rfl,q3⟩
 |true=>exact ite_tt (chain_last (thn (hc pins s3 σ H3 _ I3 q3) fun w' s4 ⟨z',H4,I4,r4,q4⟩=>ho' pins s4 σ H4 y z' u w' Q I4 r2 r4 q4))
theorem mE:(sizeLine:Nat)<2^63:=by rw [sizeLine_eq];decide
theorem dJ {x:V}{us:List Value}(r:Vals [x] us):∃u,us=[u]/\RelV x u:=by
 cases r with
 |cons r1 r2=>cases r2;exact⟨_,rfl,r1⟩
theorem oF {x y:V}{us:List Value}(r:Vals [x,y] us):∃u w',us=[u,w']/\RelV x u/\RelV y w':=by
 cases r with
 |cons r1 r2=>
  cases r2 with
  |cons r3 r4=>cases r4;exact⟨_,_,rfl,r1,r3⟩
theorem lN:dF X (.builtin "abs") (fun xs H Q=> ∃i,xs=[.int i]/\Q (.int (if i<0 then -i else i)) H):=by intro pins s σ H xs us Q I r h;obtain⟨i,rfl,q⟩:=h;obtain⟨u,rfl,t,rfl⟩:=dJ r;exact call_abs_int fun u tk=> ⟨.int (if i<0 then -i else i),H,I.tok _,⟨_,rfl⟩,q⟩
theorem rE:dF X (.type "int") (fun xs H Q=>(∃i,xs=[.int i]/\Q (.int i) H)\/ ∃k,xs=[.bl k]/\Q (.int (if k then 1 else 0)) H):=by
 intro pins s σ H xs us Q I r h;rcases h with⟨i,rfl,q⟩| ⟨k,rfl,q⟩
 ·obtain⟨u,rfl,t,rfl⟩:=dJ r;exact call_int_int ⟨.int i,H,I,⟨_,rfl⟩,q⟩
 ·obtain⟨u,rfl,r1⟩:=dJ r;cases r1;exact call_int_bool ⟨.int (if k then 1 else 0),H,I.tok _,⟨_,rfl⟩,q⟩
end
structure ObjM (h:Heap)(x dx C:Addr)(mA:Str->Option Value):Prop where
 obj:h.get? x=some (W.instObj C dx)
 ns:h.Ns1 dx mA
 ne:dx≠x
theorem A05 {h:Heap}{dx:Addr}{mA:Str->Option Value}(n:h.Ns1 dx mA):∃od,h.get? dx=some od/\∀name,W.lookIn name od=some (mA name):=by
 obtain⟨o,es,ep,ho,hd,hk,_,hm⟩:=n;refine⟨o,ho,fun name=> ?_⟩;have e:=hm name;unfold nsFind findBy at e;rw [←Array.find?_toList]at e;unfold W.lookIn;rw [hd];dsimp only
 split
 ·rename_i y q;rw [q]at e;exact congrArg some e
 ·rename_i q;rw [q]at e;have a:es.toList.any (·.refKey)=false:=by
   rw [any_eq_false];intro y hy;obtain⟨z,t,hkey⟩:=hk y (Array.mem_toList_iff.mp hy);simp [DictEntry.refKey,hkey]
  have a':¬es.toList.any (·.refKey)=true:=by rw [a];exact Bool.false_ne_true
  rw [if_neg a'];exact congrArg some e
theorem ObjM.look {h:Heap}{x dx C:Addr}{mA:Str->Option Value}(I:ObjM h x dx C mA):∃od,W.InstAt h x (W.instObj C dx) C (some od)/\∀name,W.lookIn name od=some (mA name):=
 let ⟨od,ho,hl⟩:=A05 I.ns
 ⟨od,⟨I.obj,rfl,rfl,ho⟩,hl⟩
section
variable {prog:Program}{w:World}{A:Around}{E:Value->Shared->Prop}{s:Shared}{K:W.Frag}{x dx C f:Addr}{mA:Str->Option Value}{name:Str}{v:Value}
end
def eO (f:Str)(v:V):List (Str×V)->List (Str×V)
 | []=> [(f,v)]
 | (g,x)::r=>if g=f then(g,v)::r else(g,x)::eO f v r
section
variable {P:Program}{w:World}{H H':Hp}{h h':Heap}{a C dx:Addr}{fs fs':List (Str×V)}
theorem A84 (hok:HOk P w H h)(e:H a=some (.ins C dx fs)):∃mA,ObjM h a dx C mA/\(∀f,RelO (fs.lookup f) (mA f))/\PySem.Within mA (fs.map (·.1))/\fs.length<=1000/\H dx=some (.own a):=by obtain⟨d,z,ne,ob,mA,n,r,q⟩:=(show ObjOk P w H h a (.ins C dx fs)from hok a _ e);exact⟨mA,⟨ob,n,ne⟩,r,q,z,d⟩
end
structure Cls (K:W.Frag)(C:Addr):Prop where
 pg:W.plainGet K C Str.empty=true
 hd:W.hasDictIn K C=true
 po:W.plainOver K C=true
 sa:W.findIn K (.ref C) "__setattr__" =some (some (.builtin "object.__setattr__"))
theorem Cls.get {K:W.Frag}{C:Addr}(c:Cls K C)(f:Str):W.plainGet K C f=true:=c.pg
section
variable {X:Cx}{pins:List (Addr×Obj)}{σ:St}{H:Hp}{s:Shared}{a C dx:Addr}{fs:List (Str×V)}{f:Str}{v:V}{A:Around}{E:Value->Shared->Prop}
end
section
variable {X:Cx}{o e value:Expr}{f:Str}{pos pos' tpos:Pos}{ta tv:TE}
end
section
variable {X:Cx}{pins:List (Addr×Obj)}{σ:St}{H:Hp}{s:Shared}{A:Around}{E:Value->Shared->Prop}{Q:Value->Shared->Prop}{c:Value}{b:Bool}
inductive TyOf (K:W.Frag) (H:Hp):V->Value->Prop where
 |non:TyOf K H .non (.type "NoneType")
 |bl (x:Bool):TyOf K H (.bl x) (.type "bool")
 |int (i:Int):TyOf K H (.int i) (.type "int")
 |str (x:Str):TyOf K H (.str x) (.type "str")
 |flt (x:UInt64):TyOf K H (.flt x) (.type "float")
 |lst {a:Addr} {xs:List V} (e:H a=some (.lst xs)):TyOf K H (.ref a) (.type "list")
 |frz {a:Addr} {o:Obj} {xs:List V} (e:H a=some (.frz o (.lst xs))):TyOf K H (.ref a) (.type "list")
 |tup {a:Addr} {xs:List V} (e:H a=some (.tup xs)):TyOf K H (.ref a) (.type "tuple")
 |dK {a:Addr} {kvs:List (Key×V)} (e:H a=some (.dK kvs)):TyOf K H (.ref a) (.type "dict")
 |dT {a:Addr} {kvs:List (List Key×V)} (e:H a=some (.dT kvs)):TyOf K H (.ref a) (.type "dict")
 |ins {a C dx:Addr} {fs:List (Str×V)} (e:H a=some (.ins C dx fs)) (cl:Cls K C) (ha:W.findIn K (.ref C) "__class__" =some (some (.builtin "object.__class__")))
   (hn:W.specialIn K (.builtin "object.__class__") "__get__" =some (some (.builtin "getset_descriptor.__get__"))) (htk:W.takesIn K (.builtin "object.__class__")=some true)
   (hm:W.mroIn K C (.type "object")=some true):TyOf K H (.ref a) (.ref C)
theorem A1e {x:V}{u t:Value}(I:Inv X pins σ H s)(rx:RelV x u)(ty:TyOf X.K H x t)(e:W.kitOne X.K t c=some b)(h:∀tk,Q (.bool b) {s with toks:=tk}):
  wpAny (model X.prog X.w) A (call (.builtin "isinstance") [u,c]) Q E s:=by
 cases ty with
 |non=>cases (show u=Value.none from rx);exact W.kia_one W.kitx_none I.kIn True.intro e (fun z=>nomatch z) h
 |bl y=>cases (show u=Value.bool y from rx);exact W.kia_one W.kitx_bool I.kIn True.intro e (fun z=>nomatch z) h
 |int i=>obtain⟨t,q⟩:=(show∃t,u=Value.int i t from rx);cases q;exact W.kia_one W.kitx_int I.kIn True.intro e (fun z=>nomatch z) h
 |str y=>obtain⟨t,q⟩:=(show∃t,u=Value.str y t from rx);cases q;exact W.kia_one W.kitx_str I.kIn True.intro e (fun z=>nomatch z) h
 |flt y=>obtain⟨t,q⟩:=(show∃t,u=Value.float y t from rx);cases q;exact W.kia_one W.kitx_float I.kIn True.intro e (fun z=>nomatch z) h
 | @lst a xs ea=>
  cases (show u=Value.ref a from rx);obtain⟨_,_,n,_,h1⟩:=(show ObjOk X.prog X.w H s.heap a (.lst xs)from I.hok a _ ea);exact W.kia_one W.kitx_list I.kIn ⟨_,h1,rfl⟩ e (fun z=>nomatch z) h
 | @frz a ob xs ea=>
  cases (show u=Value.ref a from rx);obtain⟨_,_,_,n,_,h1⟩:=(show ObjOk X.prog X.w H s.heap a (.frz ob (.lst xs))from I.hok a _ ea);exact W.kia_one W.kitx_list I.kIn ⟨_,h1,rfl⟩ e (fun z=>nomatch z) h
 | @tup a xs ea=>
  cases (show u=Value.ref a from rx);obtain⟨_,_,_,p⟩:=(show ObjOk X.prog X.w H s.heap a (.tup xs)from I.hok a _ ea);obtain⟨o,h1,h2,_⟩:=p;exact W.kia_one W.kitx_tuple I.kIn ⟨o,h1,h2⟩ e (fun z=>nomatch z) h
 | @dK a kvs ea=>
  cases (show u=Value.ref a from rx);obtain⟨_,_,vs,_,p⟩:=(show ObjOk X.prog X.w H s.heap a (.dK kvs)from I.hok a _ ea);obtain⟨o,es,ep,h1,h2,_⟩:=p;exact W.kia_one W.kitx_dict I.kIn ⟨o,h1,h2.1⟩ e (fun z=>nomatch z) h
 | @dT a kvs ea=>
  cases (show u=Value.ref a from rx);obtain⟨_,_,xs,_,o,es,ep,h1,h2,_⟩:=(show ObjOk X.prog X.w H s.heap a (.dT kvs)from I.hok a _ ea);exact W.kia_one W.kitx_dict I.kIn ⟨o,h1,h2.1⟩ e (fun z=>nomatch z) h
 | @ins a C dx fs ea cl ha hn htk hm=>
  cases (show u=Value.ref a from rx);obtain⟨mA,O,_⟩:=A84 I.hok ea;obtain⟨od,J,_⟩:=O.look;exact W.kia_one (W.kitx_own (cl.get _) cl.hd ha hn htk hm) I.kIn J e (fun z=>nomatch z) h
end
structure Room (k:Nat)(A:Around):Prop where
 hd:A.handled=none
 dp:A.depth+3*k+5<recursionLimit
 un:A.units+16*k+200<cLine
 gd:A.guards=some []
theorem Room.mono {j k:Nat}{A:Around}(r:Room k A)(h:j<=k):Room j A:=⟨r.hd,by have:=r.dp;omega,by have:=r.un;omega,r.gd⟩
theorem Room.deeper {k:Nat}{A:Around}(r:Room (k+1) A)(env:Env):Room k (A.deeper env):=
 ⟨r.hd,by have:=r.dp;show A.depth+1+3*k+5<_;omega,by have:=r.un;show A.units+3+16*k+200<_;omega,r.gd⟩
theorem Room.depth {k:Nat}{A:Around}(r:Room k A):A.depth<recursionLimit:=by have:=r.dp;omega
theorem Room.units {k:Nat}{A:Around}(r:Room k A):A.units+64<cLine:=by have:=r.un;omega
def jO:TA:=fun _ H Q=>Q [] H
def cE (ta:TE)(tr:TA):TA:=fun σ H Q=>ta σ H fun x H1=>tr σ H1 fun xs H2=>Q (x::xs) H2
section
variable {X:Cx}{e:Expr}{es:List Expr}{te:TE}{t:TA}{pos:Pos}
theorem aA:PA X [] jO:=fun _ _ _ _ H Q I h=>Calls.spliced_nil ⟨[],H,I,.nil,h⟩
theorem bC (ha:PE X e te)(hr:PA X es t)(hs:starEach (e::es) X.env=(false,eval e X.env)::starEach es X.env:=by rfl):PA X (e::es) (cE te t):=by intro pos pins s σ H Q I h;rw [hs];show wpAny _ _ (spliced ((false,eval e X.env)::backTo pos (starEach es X.env))) _ _ s;refine Calls.spliced_cons (thn (ha pins s σ H _ I h) fun u s1 ⟨x,H1,I1,r1,q1⟩=> ?_);exact thn (hr pos pins s1 σ H1 _ I1 q1) fun us s2 ⟨xs,H2,I2,r2,q2⟩=> ⟨x::xs,H2,I2,.cons r1 r2,q2⟩
def mY (t:TA):TE:=fun σ H Q=>t σ H fun xs H1=>xs.length<=sizeLine/\∀p,H1 p=none->Q (.ref p) (upd H1 p (.tup xs))
def rD (t:TA):TE:=fun σ H Q=>t σ H fun xs H1=>xs.length<=sizeLine/\∀p,H1 p=none->Q (.ref p) (upd H1 p (.lst xs))
theorem cF {x1}(h:PA X es t):PE X (.Tuple es x1 pos) (mY t):=by intro pins s σ H Q I hq;refine wpAny_Tuple_spliced (thn (h pos pins s σ H _ I hq) fun us s1 ⟨xs,H1,I1,r,z,q⟩=> ⟨by rw [←r.length];exact z,?_⟩);have hf:H1 s1.heap.objs.size=none:=I1.hok.fresh (zjQ _);refine⟨.ref s1.heap.objs.size,upd H1 s1.heap.objs.size (.tup xs),I1.laid (t':=s1.toks) (fun b u e=>zjX _ e) (zjQ _) ?_,rfl,q _ hf⟩;exact⟨z,us,r,⟨_,get?_push_size _ rfl,rfl,_,rfl⟩⟩
theorem dS (h:PA X es t):PE X (.List es pos) (rD t):=by intro pins s σ H Q I hq;refine wpAny_List_spliced (thn (h pos pins s σ H _ I hq) fun us s1 ⟨xs,H1,I1,r,z,q⟩=> ⟨by rw [←r.length];exact z,?_⟩);have hf:H1 s1.heap.objs.size=none:=I1.hok.fresh (zjQ _);refine⟨.ref s1.heap.objs.size,upd H1 s1.heap.objs.size (.lst xs),I1.laid (t':=s1.toks) (fun b u e=>zjX _ e) (zjQ _) ?_,rfl,q _ hf⟩;exact⟨z,us,0,r,get?_push_size _ rfl⟩
end
abbrev Sp:=List V->Hp->VK->XK->Prop
abbrev CXT:=List Env->Hp->Shared->XK->Value->Shared->Prop
structure nA (P:Program)(w:World)(K:W.Frag)(mg:Str->Option Value)(base:Heap)(A:Around)(outer:List Env)(s:Shared)(H:Hp):Prop where
 frames:A.frames=some outer
 mod:Mod K mg base
 bs:∀b o,base.get? b=some o->s.heap.get? b=some o/\H b=none
 bsz:base.objs.size<=s.heap.objs.size
 funs:s.heap.FunFrames base outer
 frf:∀b∈frs outer,H b=none
 hok:HOk P w H s.heap
 bare:AllBare s.gens
def CE (outer:List Env)(P:Program)(w:World)(H:Hp)(s:Shared)(Q:VK)(u:Value)(s':Shared):Prop:=
 ∃v H',s'.os=s.os/\AllBare s'.gens/\Un (frs outer) [] H H' s.heap s'.heap/\HOk P w H' s'.heap/\RelV v u/\Q v H'
def CR (CX:CXT)(outer:List Env)(P:Program)(w:World)(H:Hp)(s:Shared)(Q:VK)(E:XK)(r:Result)(s':Shared):Prop:=
 match r with
 | .ok (.ret u)=>CE outer P w H s Q u s'
 | .ok _=>False
 | .error e=>CX outer H s E e s'
structure FnOk (P:Program)(w:World)(K:W.Frag)(mg:Str->Option Value)(base:Heap)(CX:CXT)(k:Nat)(f:Addr)(fd:FuncData)(ps:List Str)(sp:Sp):Prop where
 len:∀vs H Q E,sp vs H Q E->vs.length=ps.length
 run:∀(A:Around)(outer:List Env)(s:Shared)(H:Hp)(args:Args)(us:List Value)(vs:List V)(Q:VK)(E:XK),Room k A->nA P w K mg base A outer s H->BindsTo s fd args (ps.zip us)->Vals vs us->sp vs H Q E->
  codeAny (model P w) A (.call (.ref f) args) (CR CX outer P w H s Q E) s
theorem FnOk.imp {P:Program}{w:World}{K:W.Frag}{mg:Str->Option Value}{base:Heap}{CX:CXT}{k:Nat}{f:Addr}{fd:FuncData}{ps:List Str}{sp sp':Sp}(F:FnOk P w K mg base CX k f fd ps sp)
  (h:∀vs H Q E,sp' vs H Q E->sp vs H Q E):FnOk P w K mg base CX k f fd ps sp':=
 ⟨fun vs H Q E q=>F.len vs H Q E (h _ _ _ _ q),fun A outer s H args us vs Q E hr he hb hv hs=>F.run A outer s H args us vs Q E hr he hb hv (h _ _ _ _ hs)⟩
section
variable {X:Cx}{pins:List (Addr×Obj)}{σ:St}{H:Hp}{s s':Shared}
theorem Inv.env0 (I:Inv X pins σ H s):nA X.prog X.w X.K X.mg X.base X.A X.stack s H:=
 ⟨I.ok.frames,I.ok.mod,I.bs,le_trans I.ok.bsz I.sz,I.stack,I.stkFree,I.hok,I.bare⟩
theorem Inv.after {Q:VK}{u:Value}(I:Inv X pins σ H s)(h:CE X.stack X.prog X.w H s Q u s'):EP X pins σ Q u s':=by obtain⟨v,H',os,bare,un,hok,r,q⟩:=h;obtain⟨hh,g,d,t,os'⟩:=s';obtain rfl:os'=s.os:=os;exact⟨v,H',I.call (h':=hh) (g':=g) (d':=d) (t':=t) (ch:=[]) un hok bare (fun b z=>absurd z (by simp)),r,q⟩
end
def pD (sp:Sp)(dvs:List V)(E:XK)(t:TA):TE:=fun σ H Q=>t σ H fun vs H1=>sp (vs++dvs) H1 Q E
def Binds (K:W.Frag)(fd:FuncData)(ps:List Str)(ds:List Value):Prop:=
 ∀(s:Shared)(us:List Value),K.In s.heap->(us++ds).length=ps.length->BindsTo s fd ⟨us,[]⟩ (ps.zip (us++ds))
theorem Binds.all {K:W.Frag}{fd:FuncData}{ps:List Str}(h:∀us:List Value,us.length=ps.length->bindArgs fd ⟨us,[]⟩=pure (ps.zip us)):Binds K fd ps []:=fun s us _ hl=>by
 rw [append_nil]at hl⊢;exact .of_eq (h us hl)
def pN (CX:CXT)(X:Cx)(E:XK):Prop:=∀(pins:List (Addr×Obj))(σ:St)(H:Hp)(s:Shared)(e:Value)(s':Shared),Inv X pins σ H s->CX X.stack H s E e s'->X.xe e s'
section
variable {X:Cx}{CX:CXT}{k:Nat}{f C:Addr}{fd:FuncData}{ps:List Str}{sp:Sp}{dvs:List V}{ds:List Value}{E:XK}{x m:Str}{p pos apos:Pos}{e o:Expr}{es:List Expr}{ta:TE}{t:TA}
theorem A9a {pins:List (Addr×Obj)}{σ:St}{H:Hp}{s:Shared}{Q:VK}{us:List Value}{vs:List V}(F:FnOk X.prog X.w X.K X.mg X.base CX k f fd ps sp)(hr:Room k X.A)(hb:Binds X.K fd ps ds)(hd:Vals dvs ds)(hx:pN CX X E)
  (I:Inv X pins σ H s)(r:Vals vs us)(h:sp (vs++dvs) H Q E):wpAny (model X.prog X.w) X.A (call (.ref f) us) (EP X pins σ Q) X.xe s:=by
 have r2:Vals (vs++dvs) (us++ds):=r.append hd;have hl:(us++ds).length=ps.length:=by rw [←r2.length];exact F.len _ _ _ _ h
 refine wpAny_call (codeAny_mono (F.run X.A X.stack s H ⟨us,[]⟩ (us++ds) (vs++dvs) Q E hr I.env0 (hb s us I.kIn hl) r2 h) fun r s' hq=> ?_);cases r with
 |error e=>exact hx pins σ H s e s' I hq
 |ok fl=>
  cases fl with
  |ret u=>exact I.after hq
  |next=>exact False.elim hq
  |brk=>exact False.elim hq
  |cont=>exact False.elim hq
theorem vC (F:FnOk X.prog X.w X.K X.mg X.base CX k f fd ps sp)(hr:Room k X.A)(hg:Gl X x)(hm:X.mg x=some (.ref f))(hk:W.keepIn X.K (.ref f)=true)(hb:Binds X.K fd ps ds)(hd:Vals dvs ds)(hx:pN CX X E)
  (ha:PA X (e::es) t)(hdb:(x==("__debug__":Str))=false:=by decide)(he:starEach (e::es) X.env=(false,eval e X.env)::starEach es X.env:=by rfl)(hpl:(backTo pos (starEach es X.env)).any (·.1)=false:=by rfl):
  PE X (.Call (.Name x p) (e::es) [] pos) (pD sp dvs E t):=by
 intro pins s σ H Q I h;refine wpAny_Call_Name_kw (sY I hg hm ?_ hdb);refine W.callWith_K (h₀:=X.base) I.ok.mod.kin hk (thn (ha pos pins s σ H _ I h) fun us s1 ⟨vs,H1,I1,r,q⟩=> ⟨I1.kIn,?_⟩) he hpl;exact A9a F hr hb hd hx I1 r q
end
section
variable {X:Cx}{CX:CXT}{k:Nat}{f C:Addr}{fd:FuncData}{ps ks:List Str}{sp:Sp}{E:XK}{x m:Str}{p pos apos kpos:Pos}{e o:Expr}{es:List Expr}{kws:List Keyword}{te ta:TE}{t tk:TA}{nm:Option Str}
variable {g:List Value->List Value->List Value}{gV:List V->List V->List V}
end
structure gL (N P:List Str)(sc:Scope):Prop where
 kind:sc.kind= .function
 co:sc.isCoroutine=false
 gen:sc.isGenerator=false
 nd:N.Nodup
 pre:N.take P.length=P
 par:∀x∈P,sc.names.lookup x=some .local\/sc.names.lookup x=some .cell
 nofree:∀y∈sc.names,y.2≠ .free
theorem zH {kindOf:Str->Option NameKind}{x:Str}:∀{binds:List (Str×Value)}{m:Str->Option Value},(∀v,(x,v)∉binds)->bindL kindOf binds m x=m x
 | [],_,_=>rfl
 | (n,v)::r,m,h=>by
  unfold bindL;rw [zH fun w hw=>h w (zjS _ hw)]
  split
  ·have:x≠n:=by rintro rfl;exact h v zjR
   simp [this]
  ·rfl
theorem xW {kindOf:Str->Option NameKind}{x:Str}:∀{binds:List (Str×Value)}{m:Str->Option Value},(∀v,(x,v)∉binds)->bindC kindOf binds m x=m x
 | [],_,_=>rfl
 | (n,v)::r,m,h=>by
  unfold bindC;rw [xW fun w hw=>h w (zjS _ hw)]
  split
  ·rfl
  ·have:x≠n:=by rintro rfl;exact h v zjR
   simp [this]
theorem xP {kindOf:Str->Option NameKind}{x:Str}{v:Value}:∀{P:List Str}{vs:List Value}{i:Nat}{m:Str->Option Value},P.Nodup->P[i]?=some x->vs[i]?=some v->kindOf x=some .local->
  bindL kindOf (P.zip vs) m x=some v
 | [],_,_,_,_,h,_,_=>by simp at h
 |_::_,[],_,_,_,_,h,_=>by simp at h
 |p::P,w::vs,0,m,nd,h1,h2,hk=>by
  simp at h1 h2;subst h1;subst h2;show bindL kindOf ((p,w)::P.zip vs) m p=_;unfold bindL;rw [zH fun v hv=>(nodup_cons.mp nd).1 (of_mem_zip hv).1,if_pos hk];simp
 |p::P,w::vs,i+1,m,nd,h1,h2,hk=>by
  show bindL kindOf ((p,w)::P.zip vs) m x=_;unfold bindL;exact xP (i:=i) (nodup_cons.mp nd).2 (by simpa using h1) (by simpa using h2) hk
theorem xT {kindOf:Str->Option NameKind}{x:Str}{v:Value}:∀{P:List Str}{vs:List Value}{i:Nat}{m:Str->Option Value},P.Nodup->P[i]?=some x->vs[i]?=some v->kindOf x≠some .local->
  bindC kindOf (P.zip vs) m x=some v
 | [],_,_,_,_,h,_,_=>by simp at h
 |_::_,[],_,_,_,_,h,_=>by simp at h
 |p::P,w::vs,0,m,nd,h1,h2,hk=>by
  simp at h1 h2;subst h1;subst h2;show bindC kindOf ((p,w)::P.zip vs) m p=_;unfold bindC;rw [xW fun v hv=>(nodup_cons.mp nd).1 (of_mem_zip hv).1,if_neg hk];simp
 |p::P,w::vs,i+1,m,nd,h1,h2,hk=>by
  show bindC kindOf ((p,w)::P.zip vs) m x=_;unfold bindC;exact xT (i:=i) (nodup_cons.mp nd).2 (by simpa using h1) (by simpa using h2) hk
def start (N:List Str)(vs:List V):St:=vs.map some++List.replicate (N.length - vs.length) none
def fA (CX:CXT)(P:Program)(w:World)(K:W.Frag)(mg:Str->Option Value)(base:Heap)(N:List Str)(qual:Str)(scope:Scope)(f:Addr)(cd:Value)(A:Around)(outer:List Env)(s:Shared)(H:Hp)(E:XK):Cx where
 prog:=P
 w:=w
 K:=K
 mg:=mg
 base:=base
 A:=A.deeper (envOfC qual scope s.heap.objs.size f cd)
 N:=N
 s₀:=s
 H₀:=H
 env:=envOfC qual scope s.heap.objs.size f cd
 outer:=outer
 stack:=envOfC qual scope s.heap.objs.size f cd::outer
 ex:=[]
 calm:=true
 fn:=fun _=>true
 pn:=[]
 xe:=fun e s'=>wpAny (model P w) (A.deeper (envOfC qual scope s.heap.objs.size f cd)) (leaving (envOfC qual scope s.heap.objs.size f cd) e) (fun _ s''=>CX outer H s E e s'') (fun e' s''=>CX outer H s E e' s'') s'
theorem yB {sc:Scope}{n:Nat}{x:Str}(h:sc.names.lookup x=some .cell):∃c,(cellsFrom n sc.names []).lookup x=some c:=by have q:=W.cellsFrom_some sc.names n [] (.inl h);exact Option.isSome_iff_exists.mp q
theorem A7w {CX:CXT}{P:Program}{w:World}{K:W.Frag}{mg:Str->Option Value}{base:Heap}{N ps:List Str}{qual:Str}{scope:Scope}{f:Addr}{cd:Value}{A:Around}{outer:List Env}{s s1:Shared}{H:Hp}{E:XK}{us:List Value}{vs:List V}
  (S:gL N ps scope)(hd:A.handled=none)(e0:nA P w K mg base A outer s H)(hl:vs.length=ps.length)(r:Vals vs us)
  (x:InCallC s s.heap.objs.size (bindL (envOfC qual scope s.heap.objs.size f cd).kindOf (ps.zip us) fun _=>none) (cellsFrom (s.heap.objs.size+1) scope.names []) (bindC (envOfC qual scope s.heap.objs.size f cd).kindOf (ps.zip us) fun _=>none) s1):
  Inv (fA CX P w K mg base N qual scope f cd A outer s H E) [] (start N vs) H s1:=by
 have hpl:ps.length<=N.length:=by have:=congrArg List.length S.pre;rw [length_take]at this;omega
 obtain⟨h1,tk,rfl,hk⟩:=x.done;have noA:∀b:Addr,b∉(fA CX P w K mg base N qual scope f cd A outer s H E).ex:=fun b z=>absurd (show b∈([]:List Addr)from z) (by simp);refine⟨⟨e0.mod,S.kind,rfl,rfl,zjQ _,fun y z c h1 h2=> ?_,fun y hy=> ?_,fun y c _ h=> ?_,fun _=>hd,Around.frames_deeper e0.frames,.inr ⟨rfl,rfl⟩,fun b z=>absurd z (noA b),e0.bs,e0.bsz,fun b _ _=>noA b,fun b z=>absurd z (noA b),e0.funs,e0.frf⟩,
  rfl,e0.bare,Un.kept hk,⟨_,x.toInCall.ns,fun i y v h1 h2 h3=> ?_⟩,fun y c h=> ⟨_,x.cell y c h⟩,e0.hok.fresh (zjQ _),fun y c h=> ?_,fun p hp=>absurd (show p∈([]:List (Addr×Obj))from hp) (by simp),e0.hok.kept hk,?_⟩
 ·exact name_of_addr x.apart (PySem.mem_of_lookup h1) (PySem.mem_of_lookup h2)
 ·have hy:scope.names.lookup y=some .cell\/scope.names.lookup y=some .free:=hy;rcases hy with hy|hy
  ·exact yB hy
  ·exact absurd rfl (S.nofree _ (PySem.mem_of_lookup hy))
 ·exact le_of_lt (x.above y c (PySem.mem_of_lookup h))
 ·have hi:i<vs.length:=by
   unfold start at h2;by_cases hi:i<vs.length
   ·exact hi
   ·rw [List.getElem?_append_right (by simpa using hi)]at h2;rw [List.getElem?_replicate]at h2
    split at h2<;>cases h2
  have ha:vs[i]?=some v:=by
   unfold start at h2;rw [List.getElem?_append_left (by simpa using hi),getElem?_map]at h2;cases e:vs[i]? with
   |none=>rw [e]at h2;cases h2
   |some a=>rw [e]at h2;cases h2;rfl
  obtain⟨u,hu,rv⟩:=r.get ha;have hp:ps[i]?=some y:=by
   rw [←S.pre,List.getElem?_take_of_lt (by omega)];exact h1
  have ndP:ps.Nodup:=by rw [←S.pre];exact S.nd.sublist (take_sublist _ _)
  refine⟨u,rv,?_⟩;rcases S.par y (mem_of_getElem? hp)with k|k
  ·exact .inl ⟨k,xP ndP hp hu k⟩
  ·obtain⟨c,e⟩:=yB (n:=s.heap.objs.size+1) k;refine .inr ⟨.inl k,c,e,?_⟩;have q:=x.cell y c e;rw [xT ndP hp hu (by show scope.names.lookup y≠_;rw [k];decide)]at q;exact q
 ·exact e0.hok.fresh (le_of_lt (x.above y c (PySem.mem_of_lookup h)))
 ·unfold start;show _=N.length;rw [length_append,length_map,List.length_replicate];omega
theorem A41 {CX:CXT}{P:Program}{w:World}{K:W.Frag}{mg:Str->Option Value}{base:Heap}{k:Nat}{f:Addr}{name qual:Str}{params:Arguments}{body:List Stmt}{scope:Scope}{dV kV doc pm cdv ct oc:Value}{an od:Option Addr}
  {osl:Array (Option Value)}{N ps:List Str}{sp:Sp}(lk:K.lookup f=some ⟨oc,od,.func (W.fnOf name qual params body scope dV kV doc pm an cdv ct),osl⟩)(hcd:W.codeIn K cdv qual=true)(S:gL N ps scope)
  (len:∀vs H Q E,sp vs H Q E->vs.length=ps.length)
  (hbody:∀(A:Around)(outer:List Env)(s:Shared)(H:Hp)(vs:List V)(Q:VK)(E:XK),Room k (A.deeper (envOfC qual scope s.heap.objs.size f cdv))->sp vs H Q E->
   ∃t,PSs (fA CX P w K mg base N qual scope f cdv A outer s H E) body t/\t {nx:=fun _ H'=>Q .non H',rt:=Q} (start N vs) H):
  FnOk P w K mg base CX (k+1) f (W.fnOf name qual params body scope dV kV doc pm an cdv ct) ps sp:=by
 refine⟨len,fun A outer s H args us vs Q E hr e0 hb r hsp=> ?_⟩;have hl:=len _ _ _ _ hsp;have KX:K.In s.heap:=e0.mod.kin.keeps fun b o e=>(e0.bs b o e).1;have lim:s.heap.NoLimit:=e0.mod.nolimit.keeps fun b o e=>(e0.bs b o e).1;have hkind:∀y∈ps.zip us,scope.names.lookup y.1=some .local\/(scope.names.lookup y.1=some .cell/\((cellsFrom (s.heap.objs.size+1) scope.names []).lookup y.1).isSome=true):=fun⟨n,v⟩ hy=>by
  rcases S.par n (of_mem_zip hy).1 with q|q
  ·exact .inl q
  ·exact .inr ⟨q,W.cellsFrom_some _ _ _ (.inl q)⟩
 refine codeAny_call_function hr.depth (KX _ _ lk) rfl S.co S.gen rfl (W.codeRec_of KX hcd) (hb _ _ _ _ ?_);refine wpAny_newFunctionEnv_cells S.kind hkind fun env he s1 x=> ?_;subst he;refine⟨lim.keeps x.toInCall.keep,codeAny_func ?_⟩;obtain⟨t,ht,hq⟩:=hbody A outer s H vs Q E (hr.deeper _) hsp;have I:Inv (fA CX P w K mg base N qual scope f cdv A outer s H E) [] (start N vs) H s1:=A7w S hr.hd e0 hl r x;refine wpAny_mono (ht [] s1 (start N vs) H _ I hq) (fun fl s' hs=> ?_) fun e s' hs=>hs;have fin:∀{σ':St}{H':Hp}{v:V}{u:Value},Inv (fA CX P w K mg base N qual scope f cdv A outer s H E) [] σ' H' s'->RelV v u->Q v H'->CE outer P w H s Q u s':=
  fun{σ' H' v u} J rv q=> ⟨v,H',J.os,J.bare,J.base,J.hok,rv,q⟩
 cases fl with
 |ret u=>
  obtain⟨v,σ',H',J,rv,q⟩:=hs;exact fin J rv q
 |next=>
  obtain⟨σ',H',J,q⟩:=hs;exact fin (v:=V.non) (u:=Value.none) J rfl q
 |brk=>
  obtain⟨_,_,_,q⟩:=hs;exact False.elim q
 |cont=>
  obtain⟨_,_,_,q⟩:=hs;exact False.elim q
section
variable {X:Cx}{x:Str}{p pos:Pos}{e:Expr}{es:List Expr}{t:TA}{id T:String}{r:List V->Hp->VK->Prop}
def tCB (r:List V->Hp->VK->Prop)(t:TA):TE:=fun σ H Q=>t σ H fun vs H1=>r vs H1 Q
theorem bH (hc:dF X (.builtin id) r)(hg:Gl X x)(hm:X.mg x=none)(hv:bootBuiltins x=some (.builtin id))(ha:PA X (e::es) t)(hn:x≠ "__name__":=by decide)(hdb:(x==("__debug__":Str))=false:=by decide)
  (he:starEach (e::es) X.env=(false,eval e X.env)::starEach es X.env:=by rfl)(hpl:(backTo pos (starEach es X.env)).any (·.1)=false:=by rfl):PE X (.Call (.Name x p) (e::es) [] pos) (tCB r t):=by
 intro pins s σ H Q I h;refine wpAny_Call_Name_kw (iH I hg hm hv ?_ hn hdb);exact PyProof.Rows.callWith_builtin1 (thn (ha pos pins s σ H _ I h) fun us s1 ⟨vs,H1,I1,r1,q1⟩=>hc pins s1 σ H1 vs us Q I1 r1 q1) he hpl
theorem fO (hc:dF X (.type T) r)(hg:Gl X x)(hm:X.mg x=none)(hv:bootBuiltins x=some (.type T))(ha:PA X (e::es) t)(hn:x≠ "__name__":=by decide)(hdb:(x==("__debug__":Str))=false:=by decide)
  (he:starEach (e::es) X.env=(false,eval e X.env)::starEach es X.env:=by rfl)(hpl:(backTo pos (starEach es X.env)).any (·.1)=false:=by rfl):PE X (.Call (.Name x p) (e::es) [] pos) (tCB r t):=by
 intro pins s σ H Q I h;refine wpAny_Call_Name_kw (iH I hg hm hv ?_ hn hdb);exact PyProof.Rows.callWith_type1 (thn (ha pos pins s σ H _ I h) fun us s1 ⟨vs,H1,I1,r1,q1⟩=>hc pins s1 σ H1 vs us Q I1 r1 q1) he hpl
end
end L2
namespace HT
open PySem PyProof.Rows
def lexLt:List Int->List Int->Bool
 | [],[]=>false
 | [],_::_=>true
 |_::_,[]=>false
 |x::xs,y::ys=>if x=y then lexLt xs ys else decide (x<y)
theorem lexLt_cons (x y:Int)(xs ys:List Int):lexLt (x::xs) (y::ys)=if x=y then lexLt xs ys else decide (x<y):=rfl
theorem A28:lexLt [] []=false:=rfl
theorem A55 (y:Int)(ys:List Int):lexLt [] (y::ys)=true:=rfl
theorem A8m (x:Int)(xs:List Int):lexLt (x::xs) []=false:=rfl
theorem A3k (A:Around)(s:Shared)(a:Int)(t:Tok)(c:Int)(u:Tok):∃e,SeqAt.EqAt A s (.int a t) (.int c u) e/\(e=true↔a=c):=
 ⟨(a==c),SeqAt.EqAt.int_int a t c u,by simp⟩
theorem A63 (A:Around)(s:Shared)(a:Int)(t:Tok)(c:Int)(u:Tok)(prog:Program)(w:World)(E:Value->Shared->Prop)(Q:Value->Shared->Prop)(h:Q (.bool (decide (a<c))) s):
  wpAny (model prog w) A (richCompare .Lt (.int a t) (.int c u)) Q E s:=
 (PyProof.Rows.lt_int h:wpAny (model prog w) A (compareOp .Lt (.int a t) (.int c u)) Q E s)
section
open PySem.SeqAt
open PySem.AutoSeq1 (wpAny_loadPart')
open PySem.MeetsSeq PySem.MeetsSeq2 PySem.MeetsSeq3
theorem A1w (l b:Addr)(items items2:Array Value)(n n2:Nat)(dd dd2:Option Addr)(sl sl2:Array (Option Value))(ns ms:List Int)(hi:IntsAre items.toList ns)(hj:IntsAre items2.toList ms):
  Meets (Builtin.«tuple.__lt__» ⟨[.ref l,.ref b],[]⟩)
   (fun _ R s=>s.heap.get? l=some {cls:=.type "tuple",dict:=dd,data:=.seq items n,slots:=sl}/\s.heap.get? b=some {cls:=.type "tuple",dict:=dd2,data:=.seq items2 n2,slots:=sl2}/\
    R (.ok (.ret (.bool (lexLt ns ms)))) s):=
 .of_wp fun prog w A R s h=>by
  obtain⟨hp,g,d,tk,os⟩:=s;obtain⟨hl,hb,h⟩:=h;have f2:=AutoSeq1.sub_tuple_tuple;have z1:items.size=ns.length:=by rw [←hi.length];simp
  have z2:items2.size=ms.length:=by rw [←hj.length];simp
  wp_walk using wpAny_loadPart' hl,wpAny_loadPart' hb,wpAny_forIn_list _ (fun rest b s'=>b.1=none/\s'=⟨hp,g,d,tk,os⟩/\∃(vs ws:List Value)(ns' ms':List Int),rest=vs.zip ws/\
   IntsAre vs ns'/\IntsAre ws ms'/\ns'.length+items2.size=ms'.length+items.size/\R (.ok (.ret (.bool (lexLt ns' ms')))) ⟨hp,g,d,tk,os⟩) _
  case turn=>
   rintro⟨y,x⟩ rest b s' ⟨hb',rfl,vs,ws,ns',ms',hz,hvi,hwi,hlen,hR⟩;cases hvi with
   |nil=>rw [List.zip_nil_left]at hz;cases hz
   |cons a t hvi'=>
    cases hwi with
    |nil=>rw [List.zip_nil_right]at hz;cases hz
    |cons c u hwi'=>
     rw [zip_cons_cons]at hz;injection hz with hyx hrest
     injection hyx with hy hx;subst hy hx;rw [lexLt_cons]at hR;simp only [length_cons]at hlen;obtain⟨e,he,hiff⟩:=A3k A.in1 ⟨hp,g,d,tk,os⟩ a t c u;refine zjZ (he prog w _ _ ?_);cases e with
     |true=>
      rw [if_pos (hiff.mp rfl)]at hR
      wp_walk
      exact⟨rfl,rfl,_,_,_,_,hrest,hvi',hwi',by omega,hR⟩
     |false=>
      rw [if_neg (fun q=>absurd (hiff.mpr q) Bool.false_ne_true)]at hR;have hri:=A63 A.in1 ⟨hp,g,d,tk,os⟩ a t c u prog w
      wp_walk using hri
      exact⟨_,rfl,by simpa using hR⟩
  case fin=>
   rintro⟨b1,b2⟩ s' ⟨hb',rfl,vs,ws,ns',ms',hz,hvi,hwi,hlen,hR⟩;simp only at hb';subst hb';have hv:lexLt ns' ms'=decide (items.size<items2.size):=by
    cases hvi with
    |nil=>
     cases hwi with
     |nil=>
      simp only [length_nil]at hlen;rw [A28];exact(zjU (by omega)).symm
     |cons c u hw=>
      simp only [length_nil,length_cons]at hlen;rw [A55];exact(zjV (by omega)).symm
    |cons a t hv=>
     cases hwi with
     |nil=>
      simp only [length_nil,length_cons]at hlen;rw [A8m];exact(zjU (by omega)).symm
     |cons c u hw=>
      rw [zip_cons_cons]at hz;cases hz
   rw [hv]at hR
   wp_walk
   exact⟨_,rfl,by simpa [Builtin.Tuple.tupleCompareSizes]using hR⟩
  case h=>
   exact⟨rfl,rfl,items.toList,items2.toList,ns,ms,rfl,hi,hj,by omega,h⟩
end
section
variable {prog:Program}{w:World}{A:Around}{E:Value->Shared->Prop}{s:Shared}
theorem lt_tupInts {l b:Addr}{items items2:Array Value}{ns ms:List Int}{Q:Value->Shared->Prop}(hl:IsTup s.heap l items)(hb:IsTup s.heap b items2)(hi:IntsAre items.toList ns)(hj:IntsAre items2.toList ms)
  (hu:A.units<cLine)(h:Q (.bool (lexLt ns ms)) s):wpAny (model prog w) A (compareOp .Lt (.ref l) (.ref b)) Q E s:=by
 obtain⟨⟨cls,dd,data,sl⟩,ho,hc,n,hd⟩:=id hl;obtain⟨⟨cls2,dd2,data2,sl2⟩,ho2,hc2,n2,hd2⟩:=id hb;simp only at hc hd hc2 hd2;subst hc hd hc2 hd2;exact richCompare_meets_room (op:=.Lt) ⟨_,ho,rfl⟩ ⟨_,ho2,rfl⟩ PySem.F.slot_tuple_lt PySem.F.entry_tuple_lt (PySem.F.args_tuple_lt_2 _ _) (A1w l b items items2 n n2 dd dd2 sl sl2 ns ms hi hj)
  ⟨ho,ho2,show Value.bool (lexLt ns ms)≠Value.notImplemented/\Q (.bool (lexLt ns ms)) s from⟨(fun x=>nomatch x),h⟩⟩ hu
theorem cat_tup {t b:Addr}{vs ws:List Value}{Q:Value->Shared->Prop}(ht:IsTup s.heap t vs.toArray)(hb:IsTup s.heap b ws.toArray)(hv:vs≠[])
  (h1:ws=[]->Q (.ref t) s)(h2:ws≠[]->Q (.ref s.heap.objs.size) {s with heap:=s.heap.push {cls:=.type "tuple",data:=.seq (vs++ws).toArray}})
  (hsz:vs.length+ws.length<=sizeLine):wpAny (model prog w) A (binaryOp .Add (.ref t) (.ref b)) Q E s:=by
 obtain⟨⟨cls,dd,data,sl⟩,ho,hc,n,hd⟩:=id ht;obtain⟨⟨cls2,dd2,data2,sl2⟩,ho2,hc2,n2,hd2⟩:=id hb;simp only at hc hd hc2 hd2;subst hc hd hc2 hd2;have e:vs.toArray++ws.toArray=(vs++ws).toArray:=by simp
 by_cases hw:ws=[]
 ·exact concat_meets ⟨_,ho,rfl⟩ ⟨_,ho2,rfl⟩ noFill_tuple_add seq_tuple_add PySem.F.slot_tuple_add PySem.F.entry_tuple_add (PySem.F.args_tuple_add_2 _ _)
   (tuple_addW1 t b vs.toArray ws.toArray n n2 dd dd2 sl sl2 (by simpa using hv) (by simp [hw])) ⟨ho,ho2,h1 hw⟩
 ·refine concat_meets ⟨_,ho,rfl⟩ ⟨_,ho2,rfl⟩ noFill_tuple_add seq_tuple_add PySem.F.slot_tuple_add PySem.F.entry_tuple_add (PySem.F.args_tuple_add_2 _ _)
   (tuple_addW2 t b vs.toArray ws.toArray n n2 dd dd2 sl sl2 (by simpa using hv) (by simpa using hw) (by rw [size_toArray,size_toArray];exact hsz)) ⟨ho,ho2,?_⟩
  rw [e];exact h2 hw
def sIx (n d:Nat):Option Int->Nat
 |none=>d
 |some v=>if v<0 then(v+(n:Int)).toNat else min v.toNat n
theorem sIx_nat (n d k:Nat):sIx n d (some (k:Int))=min k n:=by show(if (k:Int)<0 then((k:Int)+(n:Int)).toNat else min (k:Int).toNat n)=min k n;rw [if_neg (by omega),Int.toNat_natCast]
theorem A1s (n d:Nat)(hd:d<=n)(o:Option Int):sIx n d o<=n:=by
 cases o with
 |none=>exact hd
 |some v=>
  show(if v<0 then(v+(n:Int)).toNat else min v.toNat n)<=n;by_cases hv:v<0
  ·rw [if_pos hv];omega
  ·rw [if_neg hv];exact Nat.min_le_right _ _
theorem yZ (v:Int)(n d:Nat):(if v<0 then max (v+(n:Int)) 0 else min v (n:Int))=((sIx n d (some v):Nat):Int):=by
 show(if v<0 then max (v+(n:Int)) 0 else min v (n:Int))=(((if v<0 then(v+(n:Int)).toNat else min v.toNat n):Nat):Int);by_cases hv:v<0
 ·simp only [if_pos hv];omega
 ·simp only [if_neg hv];omega
theorem A52 (lo hi:Option Int)(n:Nat):Builtin.Slice.sliceAdjust lo hi 1 (n:Int)=(((sIx n 0 lo:Nat):Int),((sIx n n hi:Nat):Int)):=by
 have h1:¬((1:Int)<0):=by omega
 unfold Builtin.Slice.sliceAdjust;simp only [h1,if_false];refine Prod.ext ?_ ?_
 ·cases lo with
  |none=>rfl
  |some v=>exact yZ v n 0
 ·cases hi with
  |none=>rfl
  |some v=>exact yZ v n n
theorem A0p (i j:Nat):Builtin.Slice.slicePlaces (i:Int) (j:Int) 1=j - i:=by
 unfold Builtin.Slice.slicePlaces;have h1:(1:Int)>0:=by omega
 simp only [h1,if_true,Int.ediv_one]
 split<;>omega
theorem wT {v:Value}{o:Option Int}{Q:Option Int->Shared->Prop}(p:IsPart v o)(h:Q o s):wpAny (model prog w) A (Builtin.Slice.slicePartIndex v) Q E s:=by
 cases p with
 |none=>exact slicePart_none h
 |int i t=>exact slicePart_int h
theorem sliceApplied_gen {sl:Addr}{vl vu:Value}{lo hi:Option Int}{n:Nat}{Q:Int×Int×Nat->Shared->Prop}(hs:s.heap.IsSliceOf sl vl vu .none)(pl:IsPart vl lo)(pu:IsPart vu hi)
  (h:Q (((sIx n 0 lo:Nat):Int),1,sIx n n hi - sIx n 0 lo) s):wpAny (model prog w) A (Builtin.Slice.sliceApplied (.ref sl) (pure (n:Int))) Q E s:=by
 obtain⟨os,hos,hcs,hds⟩:=id hs;unfold Builtin.Slice.sliceApplied Builtin.Slice.sliceFields;refine zjZ (zjZ (wpAny_field hos hds (x:=vl) rfl (zjZ (wpAny_field hos hds (x:=vu) rfl (zjZ (wpAny_field hos hds (x:=.none) rfl (zjY ?_)))))));refine zjZ (slicePart_none ?_);show wpAny _ _ (if ((1:Int)==0)=true then _ else _) _ _ s;rw [if_neg (by decide)];refine zjZ (wT pl (zjZ (wT pu (zjZ (zjY ?_)))));show wpAny _ _ (match Builtin.Slice.sliceAdjust lo hi 1 (n:Int)with| (lo,hi)=>pure (lo,(1:Int),Builtin.Slice.slicePlaces lo hi 1)) _ _ s;rw [A52 lo hi n];show wpAny _ _ (pure (((sIx n 0 lo:Nat):Int),(1:Int),Builtin.Slice.slicePlaces ((sIx n 0 lo:Nat):Int) ((sIx n n hi:Nat):Int) 1)) _ _ s;rw [A0p];exact zjY h
theorem A7e (xs:Array Value)(i k:Nat):((List.range k).filterMap fun(m:Nat)=>xs[((i:Int)+(m:Int)*1).toNat]?).toArray=((xs.toList.drop i).take k).toArray:=by
 have e:(fun(m:Nat)=>xs[((i:Int)+(m:Int)*1).toNat]?)=fun m=>xs[i+m]?:=by
  funext m
  have:((i:Int)+(m:Int)*1).toNat=i+m:=by omega
  rw [this]
 rw [e];have:=pick_run xs i k;rw [List.filterMap_map]at this;have e2:((fun x=>xs[x]?)∘fun x=>i+x)=fun m=>xs[i+m]?:=rfl;rw [e2]at this;rw [this]
theorem getItem_tuple_cut {t sl:Addr}{items:Array Value}{vl vu:Value}{lo hi:Option Int}{Q:Value->Shared->Prop}(ht:IsTup s.heap t items)(hs:s.heap.IsSliceOf sl vl vu .none)(pl:IsPart vl lo)(pu:IsPart vu hi)
  (hw:¬(sIx items.size 0 lo=0/\sIx items.size items.size hi=items.size))
  (h:Q (.ref s.heap.objs.size) {s with heap:=s.heap.push {cls:=.type "tuple",data:=.seq ((items.toList.drop (sIx items.size 0 lo)).take (sIx items.size items.size hi - sIx items.size 0 lo)).toArray}})
  (hsz:items.size<=sizeLine):wpAny (model prog w) A (getItem (.ref t) (.ref sl)) Q E s:=by
 have htake:sizeOk (.seq ((items.toList.drop (sIx items.size 0 lo)).take (sIx items.size items.size hi - sIx items.size 0 lo)).toArray):=by
  show((items.toList.drop (sIx items.size 0 lo)).take (sIx items.size items.size hi - sIx items.size 0 lo)).toArray.size<=sizeLine;rw [size_toArray,length_take,length_drop,Array.length_toList];omega
 have hj:sIx items.size items.size hi<=items.size:=A1s _ _ (zjQ _) hi;obtain⟨os,hos,hcs,hds⟩:=id hs;have hTs:s.TypeIs (.ref sl) "slice":=⟨os,hos,hcs⟩;unfold getItem
 try with_reducible refine wpAny_holding ?_
 first|refine zjZ (zjY ?_)|skip
 refine zjZ (wpAny_sequenceKey ht.typeIs (by decide) ?_);refine zjZ (wpAny_callSpecial?_slot (name:=Str.ofString "__getitem__") ht.typeIs PyProof.Rows.slot_tuple_getitem
  (wpAny_call_entry PyProof.Rows.slot_tuple_getitem ht.typeIs entry_tuple_getitem ?_ (args_tuple_getitem _ _)))
 show wpAny _ _ (Builtin.Tuple.tupleItemsOf (.ref t)>>=_) _ _ s;refine zjZ (tupleItemsOf_ ht ?_);refine zjZ (wpAny_typeOf hTs ?_);rw [if_pos (by decide)];refine zjZ (sliceApplied_gen hs pl pu ?_);have hno:¬((((sIx items.size 0 lo:Nat):Int)==0&&(1:Int)==1&&(sIx items.size items.size hi - sIx items.size 0 lo)==items.size)=true):=by
  intro q;rw [Bool.and_eq_true,Bool.and_eq_true]at q;have q1:((sIx items.size 0 lo:Nat):Int)=0:=eq_of_beq q.1.1;have q2:sIx items.size items.size hi - sIx items.size 0 lo=items.size:=eq_of_beq q.2;exact hw ⟨by omega,by omega⟩
 show wpAny _ _ (if (((sIx items.size 0 lo:Nat):Int)==0&&(1:Int)==1&&(sIx items.size items.size hi - sIx items.size 0 lo)==items.size)=true then _ else _) _ _ s;rw [if_neg hno,A7e]
 first
  |exact zjZ (m:=Builtin.Tuple.tupleExact _) (wpAny_newObj_type (zjY ⟨_,rfl,zjY h⟩) htake)
  |exact zjZ (m:=Builtin.Tuple.tupleExact _) (wpAny_newObj_type (zjZ (zjY (zjY ⟨_,rfl,zjY h⟩))) htake)
  |exact zjZ (zjZ (m:=Builtin.Tuple.tupleExact _) (wpAny_newObj_type (zjY (zjY ⟨_,rfl,zjY h⟩)) htake))
  |exact zjZ (zjZ (m:=Builtin.Tuple.tupleExact _) (wpAny_newObj_type (zjY ⟨_,rfl,zjY h⟩) htake))
end
end HT
namespace L2
open PySem PySem.Spec PyProof.Rows
abbrev TO:=St->Hp->(Option Int->Hp->Prop)->Prop
def PO (X:Cx)(e:Option Expr)(t:TO):Prop:=
 ∀(pins:List (Addr×Obj))(s:Shared)(σ:St)(H:Hp)(Q:Option Int->Hp->Prop),Inv X pins σ H s->t σ H Q->
  wpAny (model X.prog X.w) X.A (evalPart e X.env) (fun u s'=> ∃o H',Inv X pins σ H' s'/\IsPart u o/\Q o H') X.xe s
def A1k:TO:=fun _ H Q=>Q none H
def A1h (t:TE):TO:=fun σ H Q=>t σ H fun x H1=> ∃i,x= .int i/\Q (some i) H1
theorem lK {ns:List Int}:∀{us:List Value},Vals (ns.map V.int) us->IntsAre us ns:=by
 induction ns with
 |nil=>intro us r;rw [map_nil]at r;cases r;exact .nil
 |cons n ns ih=>
  intro us r;rw [map_cons]at r;cases r with
  |cons r1 r2=>
   obtain⟨t,e⟩:=r1;subst e;exact .cons n t (ih r2)
section
variable {X:Cx}{e:Expr}{te:TE}{lo hi:Option Expr}{tl th:TO}{pos p2:Pos}
theorem iT:PO X none A1k:=by intro pins s σ H Q I h;rw [evalPart_none];exact zjY ⟨none,H,I,.none,h⟩
theorem gC (h:PE X e te):PO X (some e) (A1h te):=by intro pins s σ H Q I hw;rw [evalPart_some];refine thn (h pins s σ H _ I hw) fun u s1 ⟨x,H1,I1,r1,q1⟩=> ?_;obtain⟨i,rfl,q⟩:=q1;obtain⟨t,rfl⟩:=r1;exact⟨some i,H1,I1,.int i t,q⟩
def SlR (X:Cx)(r:V->Option Int->Option Int->Hp->VK->Prop):Prop:=
 ∀(pins:List (Addr×Obj))(s:Shared)(σ:St)(H:Hp)(x:V)(v vl vu:Value)(lo hi:Option Int)(sl:Addr)(Q:VK),Inv X pins σ H s->RelV x v->s.heap.IsSliceOf sl vl vu .none->IsPart vl lo->IsPart vu hi->r x lo hi H Q->
  ∃T id,typeLookup (.type T) "__getitem__" =pure (some (.builtin id))/\s.TypeIs v T/\wpAny (model X.prog X.w) X.A (getItem v (.ref sl)) (EP X pins σ Q) X.xe s
def tSl (r:V->Option Int->Option Int->Hp->VK->Prop)(te:TE)(tl th:TO):TE:=fun σ H Q=>te σ H fun x H1=>tl σ H1 fun l H2=>th σ H2 fun u H3=>r x l u H3 Q
theorem gJ {r:V->Option Int->Option Int->Hp->VK->Prop}(hr:SlR X r)(he:PE X e te)(hl:PO X lo tl)(hu:PO X hi th):PE X (.Subscript e (.Slice lo hi none p2) pos) (tSl r te tl th):=by intro pins s σ H Q I h;refine Subscript_ (thn (he pins s σ H _ I h) fun v s1 ⟨x,H1,I1,r1,q1⟩=> ?_);refine wpAny_Slice (thn (hl pins s1 σ H1 _ I1 q1) fun vl s2 ⟨l,H2,I2,pl,q2⟩=>thn (hu pins s2 σ H2 _ I2 q2) fun vu s3 ⟨u,H3,I3,pu,q3⟩=> ?_);rw [evalPart_none];refine zjY ?_;have I4:Inv X pins σ H3 {s3 with heap:=s3.heap.push {cls:=.type "slice",data:=.fields #[vl,vu,.none]}}:=I3.kept (t':=s3.toks) fun b ob q=>zjX _ q;obtain⟨T,id,hT,ht,hg⟩:=hr pins {s3 with heap:=s3.heap.push {cls:=.type "slice",data:=.fields #[vl,vu,.none]}} σ H3 x v vl vu l u s3.heap.objs.size Q I4 r1 (Heap.IsSliceOf.new ..) pl pu q3;show wpAny (model X.prog X.w) X.A (subscriptTail e (.Slice lo hi none p2) v (.ref s3.heap.objs.size)) (EP X pins σ Q) X.xe {s3 with heap:=s3.heap.push {cls:=.type "slice",data:=.fields #[vl,vu,.none]}};exact tail_any (ops:=[.ref s3.heap.objs.size,v]) ht hT hg (by with_unfolding_all rfl)
def cutV (xs:List V)(lo hi:Option Int):List V:=(xs.drop (HT.sIx xs.length 0 lo)).take (HT.sIx xs.length xs.length hi - HT.sIx xs.length 0 lo)
theorem kC (xs:List V)(lo hi:Option Int):(cutV xs lo hi).length<=xs.length:=by unfold cutV;rw [length_take,length_drop];omega
def A2y (K:W.Frag):R2:=fun x y H Q=> ∃a b ns ms,x= .ref a/\y= .ref b/\SqT K H a (ns.map V.int)/\SqT K H b (ms.map V.int)/\Q (.bl (HT.lexLt ns ms)) H
theorem zA (hu:X.A.units<cLine):OpR X (compareOp .Lt) (A2y X.K):=by intro pins s σ H x y v u Q I rx ry h;obtain⟨a,b,ns,ms,rfl,rfl,ha,hb,q⟩:=h;cases rx;cases ry;obtain⟨its,r1,p1,_⟩:=I.tuple ha;obtain⟨its2,r2,p2,_⟩:=I.tuple hb;have i1:IntsAre its.toArray.toList ns:=lK r1;have i2:IntsAre its2.toArray.toList ms:=lK r2;exact HT.lt_tupInts p1 p2 i1 i2 hu ⟨.bl (HT.lexLt ns ms),H,I,rfl,q⟩
theorem Vals.nil_iff {xs:List V}{us:List Value}(r:Vals xs us):us=[]↔xs=[]:=by
 cases r with
 |nil=>simp
 |cons _ _=>simp
end
def ixN (n:Nat)(i:Int):Option Nat:=if 0<=i then(if i<n then some i.toNat else none)else if -(n:Int)<=i then some (i+n).toNat else none
def atI {α:Type}(xs:List α)(i:Int):Option α:=(ixN xs.length i).bind fun j=>xs[j]?
theorem yV {n:Nat}{i:Int}{j:Nat}(h:ixN n i=some j):seqIndex? i n=some j/\j<n/\-(n:Int)<=i/\i<n:=by
 unfold ixN at h;by_cases h0:0<=i
 ·rw [if_pos h0]at h;by_cases h1:i<n
  ·rw [if_pos h1]at h;have e:i.toNat=j:=Option.some.inj h;exact⟨by rw [seqIndex_of h0 h1,e],by omega,by omega,h1⟩
  ·rw [if_neg h1]at h;cases h
 ·rw [if_neg h0]at h;by_cases h1:-(n:Int)<=i
  ·rw [if_pos h1]at h;have e:(i+n).toNat=j:=Option.some.inj h;exact⟨by rw [seqIndex_neg (by omega) h1,e],by omega,h1,by omega⟩
  ·rw [if_neg h1]at h;cases h
theorem jV {α:Type}{xs:List α}{i:Int}{v:α}(h:atI xs i=some v):∃j,seqIndex? i xs.length=some j/\xs[j]?=some v/\j<xs.length/\-(xs.length:Int)<=i/\i<xs.length:=by
 unfold atI at h;cases e:ixN xs.length i with
 |none=>rw [e]at h;cases h
 |some j=>
  rw [e]at h;obtain⟨h1,h2,h3,h4⟩:=yV e;exact⟨j,h1,h,h2,h3,h4⟩
theorem cC {α:Type}{xs:List α}{j:Nat}{v:α}(h:xs[j]?=some v):atI xs (j:Int)=some v:=by
 have hj:j<xs.length:=(zjW.mp h).1;have e:ixN xs.length (j:Int)=some j:=by
  unfold ixN;rw [if_pos (by omega),if_pos (by omega)];simp
 unfold atI;rw [e];exact h
def A34 (b:Expr):Prop:=∀o i,subscripted b false o i=operate [o,i] (getItem o i)
def IxR (X:Cx)(r:R2):Prop:=
 ∀(value slice:Expr)(pins:List (Addr×Obj))(s:Shared)(σ:St)(H:Hp)(x y:V)(v u:Value)(Q:VK),Inv X pins σ H s->RelV x v->RelV y u->r x y H Q->
  subscripted slice false v u=operate [v,u] (getItem v u)->wpAny (model X.prog X.w) X.A (subscriptTail value slice v u) (EP X pins σ Q) X.xe s
def MtR (X:Cx)(id:String)(r:V->List V->Hp->VK->Prop):Prop:=
 ∀(pins:List (Addr×Obj))(s:Shared)(σ:St)(H:Hp)(x:V)(xs:List V)(v:Value)(us:List Value)(Q:VK),Inv X pins σ H s->RelV x v->Vals xs us->r x xs H Q->
  wpAny (model X.prog X.w) X.A (call (.builtin id) (v::us)) (EP X pins σ Q) X.xe s
section
variable {X:Cx}{a b:Expr}{ta tb:TE}{pos:Pos}
theorem bK {r:R2}(hr:IxR X r)(ha:PE X a ta)(hb:PE X b tb)(hs:A34 b):PE X (.Subscript a b pos) (tOp r ta tb):=by intro pins s σ H Q I h;exact Subscript_ (qI ha hb I h fun v u s2 x y H2 I2 rx ry q=>hr a b pins s2 σ H2 x y v u Q I2 rx ry q (hs _ _))
def A57 (K:W.Frag):R2:=fun x y H Q=> ∃p xs i v,x= .ref p/\y= .int i/\SqL K H p xs/\atI xs i=some v/\Q v H
def hJ (K:W.Frag):R2:=fun x y H Q=> ∃p xs i v,x= .ref p/\y= .int i/\SqT K H p xs/\atI xs i=some v/\Q v H
theorem fG:IxR X (A57 X.K):=by
 intro value slice pins s σ H x y v u Q I rx ry h hs;obtain⟨p,xs,i,z,rfl,rfl,hq,he,q⟩:=h;cases rx;obtain⟨t,rfl⟩:=ry;obtain⟨its,r,pl,hz⟩:=I.list hq;obtain⟨j,h1,h2,h3,h4,h5⟩:=jV he;obtain⟨w,ew,rw'⟩:=r.get h2;have hl:=r.length;have hn:=mE;have fin:EP X pins σ Q w s:=⟨z,H,I,rw',q⟩;by_cases h0:0<=i
 ·have hj:i.toNat=j:=by
   rw [seqIndex_of h0 h5]at h1;exact Option.some.inj h1
  exact item_listR pl.isList h0 (by omega) (by rw [hj];simpa using ew) fin hs
 ·have hj:(i+(its.toArray.size:Int)).toNat=j:=by
   rw [seqIndex_neg (by omega) h4]at h1;rw [size_toArray,←hl];exact Option.some.inj h1
  exact subscriptTail_builtinR (x:=w) pl.isList.typeIs slot_list_getitem.lookup
   (wpAny_getItem_list_neg (Q:=fun r s'=>r=w/\EP X pins σ Q r s') pl.isList (by omega) (by rw [size_toArray]<;>omega) (by omega) (by rw [hj];simpa using ew) ⟨rfl,fin⟩) hs
theorem cA:IxR X (hJ X.K):=by
 intro value slice pins s σ H x y v u Q I rx ry h hs;obtain⟨p,xs,i,z,rfl,rfl,hq,he,q⟩:=h;cases rx;obtain⟨t,rfl⟩:=ry;obtain⟨its,r,pl,hz⟩:=I.tuple hq;obtain⟨j,h1,h2,h3,h4,h5⟩:=jV he;obtain⟨w,ew,rw'⟩:=r.get h2;have hl:=r.length;have hn:=mE;have fin:EP X pins σ Q w s:=⟨z,H,I,rw',q⟩;exact subscriptTail_builtinR (x:=w) pl.typeIs slot_tuple_getitem.lookup
  (getItem_tuple (j:=j) (Q:=fun r s'=>r=w/\EP X pins σ Q r s') pl (by omega) (by omega) (by rw [size_toArray,←hl];exact h1) (by simpa using ew) ⟨rfl,fin⟩) hs
theorem A5h (its:List Value)(n j:Nat)(u:Value):Obj.mapSeq (·.setIfInBounds j u) {cls:=.type "list",data:=.seq its.toArray n}={cls:=.type "list",data:=.seq (its.set j u).toArray n}:=by simp [Obj.mapSeq]
theorem Inv.lst {pins:List (Addr×Obj)}{σ:St}{H:Hp}{s:Shared}{p:Addr}{xs:List V}(I:Inv X pins σ H s)(h:H p=some (.lst xs)):
  ∃(its:List Value)(n:Nat),Vals xs its/\s.heap.get? p=some {cls:=.type "list",data:=.seq its.toArray n}/\xs.length<=sizeLine:=by
 obtain⟨z,its,n,r,e⟩:=I.hok p _ h;exact⟨its,n,r,e,z⟩
theorem Inv.lstUpd {pins:List (Addr×Obj)}{σ:St}{H:Hp}{s:Shared}{p:Addr}{xs ys:List V}{its its':List Value}{n n':Nat}{f:Obj->Obj}(I:Inv X pins σ H s)(h:H p=some (.lst xs))
  (ho:s.heap.get? p=some {cls:=.type "list",data:=.seq its.toArray n})(hf:f {cls:=.type "list",data:=.seq its.toArray n}={cls:=.type "list",data:=.seq its'.toArray n'})(r:Vals ys its')(hz:ys.length<=sizeLine)(t:Nat):
  Inv X pins σ (upd H p (.lst ys)) {s with heap:=s.heap.update p f,toks:=t}:=by
 have e:(s.heap.update p f).get? p=some {cls:=.type "list",data:=.seq its'.toArray n'}:=by
  rw [get?_update_self f ho (by rw [hf]<;>rfl),hf]
 refine I.write (x:=p) (e:=p) (by rw [h];trivial) (.inl rfl) (fun b u hb q=>(get?_update_other _ _ (Ne.symm hb)).trans q) ⟨_,e⟩ ?_;exact⟨hz,its',n',r,e⟩
def A3q:V->V->V->Hp->(Hp->Prop)->Prop:=fun o i v H Q=> ∃p xs k j,o= .ref p/\i= .int k/\H p=some (.lst xs)/\ixN xs.length k=some j/\Q (upd H p (.lst (xs.set j v)))
theorem nT:wE X A3q:=by
 intro pins s σ H o i v ov iv u Q I ro ri rv h;obtain⟨p,xs,k,j,rfl,rfl,hp,hj,q⟩:=h;cases ro;obtain⟨t,rfl⟩:=ri;obtain⟨its,n,r,ho,hz⟩:=I.lst hp;obtain⟨h1,h2,h3,h4⟩:=yV hj;have hl:=r.length;have hn:=mE;have I':Inv X pins σ (upd H p (.lst (xs.set j v))) {s with heap:=s.heap.update p (Obj.mapSeq (·.setIfInBounds j u))}:=
  I.lstUpd hp ho (A5h its n j u) (r.set rv j) (by rw [List.length_set];exact hz) s.toks
 by_cases h0:0<=k
 ·have hk:k.toNat=j:=by
   rw [seqIndex_of h0 h4]at h1;exact Option.some.inj h1
  exact W.ki_setAt ho h0 (by omega) (by rw [size_toArray,←hl];exact h4) (by rw [hk];exact⟨_,I',q⟩)
 ·have hk:(k+(its.toArray.size:Int)).toNat=j:=by
   rw [seqIndex_neg (by omega) h3]at h1;rw [size_toArray,←hl];exact Option.some.inj h1
  exact W.ki_setBack ho (by omega) (by rw [size_toArray,←hl];exact h3) (by omega) (by rw [hk];exact⟨_,I',q⟩)
theorem A2m (lo hi:Option Int)(n:Nat):(sliceBounds lo hi none n).1=((HT.sIx n 0 lo:Nat):Int)/\(sliceBounds lo hi none n).2.1=((HT.sIx n n hi:Nat):Int)/\(sliceBounds lo hi none n).2.2=1:=by
 refine⟨?_,?_,rfl⟩
 ·cases lo with
  |none=>simp [sliceBounds,HT.sIx]
  |some i=>
   simp only [sliceBounds,HT.sIx,Option.getD_none,show(1:Int)>0 by decide,if_true];by_cases h:i<0
   ·simp only [h,if_true]<;>omega
   ·simp only [h,if_false]<;>omega
 ·cases hi with
  |none=>simp [sliceBounds,HT.sIx]
  |some i=>
   simp only [sliceBounds,HT.sIx,Option.getD_none,show(1:Int)>0 by decide,if_true];by_cases h:i<0
   ·simp only [h,if_true]<;>omega
   ·simp only [h,if_false]<;>omega
theorem A3r (its:List Value)(lo hi:Option Int):slicePick its.toArray lo hi none=((its.drop (HT.sIx its.length 0 lo)).take (HT.sIx its.length its.length hi - HT.sIx its.length 0 lo)).toArray:=by obtain⟨h1,h2,h3⟩:=A2m lo hi its.toArray.size;unfold slicePick;rw [h1,h2,h3];simp only [sliceRange_one,pick_run,size_toArray]<;>rfl
def A01 (K:W.Frag):V->Option Int->Option Int->Hp->VK->Prop:=fun x lo hi H Q=> ∃a xs,x= .ref a/\SqL K H a xs/\∀p,H p=none->Q (.ref p) (upd H p (.lst (cutV xs lo hi)))
theorem lA:SlR X (A01 X.K):=by intro pins s σ H x v vl vu lo hi sl Q I rx hs pl pu h;obtain⟨a,xs,rfl,hx,q⟩:=h;cases rx;obtain⟨its,r,ht,hz⟩:=I.list hx;have hlen:=r.length;refine⟨"list",_,slot_list_getitem.lookup,ht.isList.typeIs,?_⟩;refine wpAny_getItem_list_slice ht.isList hs pl pu .none (by simp) ?_ (by rw [size_toArray]<;>omega);rw [A3r,←hlen];refine⟨.ref s.heap.objs.size,_,I.laid (t':=s.toks) (o:=.lst (cutV xs lo hi)) (fun b ob q=>zjX _ q) (zjQ _) ?_,rfl,q _ (I.hok.fresh (zjQ _))⟩;exact⟨le_trans (kC xs lo hi) hz,_,0,(r.drop (HT.sIx xs.length 0 lo)).take (HT.sIx xs.length xs.length hi - HT.sIx xs.length 0 lo),get?_push_size _ rfl⟩
theorem eU:dF X (.builtin "len") (fun xs H Q=> ∃p ys,xs=[.ref p]/\(SqL X.K H p ys\/SqT X.K H p ys)/\Q (.int ys.length) H):=by
 intro pins s σ H xs us Q I r h;obtain⟨p,ys,rfl,hq,q⟩:=h;obtain⟨u,rfl,rx⟩:=dJ r;cases rx;have hn:=mE;rcases hq with hq|hq
 ·obtain⟨its,r',pl,hz⟩:=I.list hq;have hlen:=r'.length;exact Calls.call_len_list pl.isList (by simp only [size_toArray]<;>omega) ⟨.int ys.length,H,I.tok _,⟨s.toks+1,by rw [size_toArray,hlen]⟩,q⟩
 ·obtain⟨its,r',pl,hz⟩:=I.tuple hq;have hlen:=r'.length;exact len_tuple pl (by simp only [size_toArray]<;>omega) ⟨.int ys.length,H,I.tok _,⟨s.toks+1,by rw [size_toArray,hlen]⟩,q⟩
theorem A4j:dF X (.type "list") (fun xs H Q=> ∃p ys,xs=[.ref p]/\(SqL X.K H p ys\/SqT X.K H p ys)/\∀l,H l=none->Q (.ref l) (upd H l (.lst ys))):=by
 intro pins s σ H xs us Q I r h;obtain⟨p,ys,rfl,hq,q⟩:=h;obtain⟨u,rfl,rx⟩:=dJ r;cases rx;have fin:∀(its:List Value),Vals ys its->ys.length<=sizeLine->∀(h':Heap)(c':Nat),(∀b o',s.heap.get? b=some o'->h'.get? b=some o')->
   h'.get? s.heap.objs.size=some {cls:=.type "list",dict:=none,data:=.seq its.toArray c',slots:=#[]}->EP X pins σ Q (.ref s.heap.objs.size) {s with heap:=h'}:=fun its r' hz h' c' kp e=>
  ⟨.ref s.heap.objs.size,_,I.laid (t':=s.toks) kp (zjQ _) (show ObjOk X.prog X.w _ h' _ (.lst ys)from⟨hz,its,c',r',e⟩),rfl,q _ (I.hok.fresh (zjQ _))⟩
 rcases hq with hq|hq
 ·obtain⟨its,r',pl,hz⟩:=I.list hq;have hlen:=r'.length;obtain⟨o,ho,hc,n,hd⟩:=pl.isList;exact call_list_seq p (.inl rfl) ho hc hd (fun h' c' kp e=>fin its r' hz h' c' kp e) (by simp only [size_toArray]<;>omega)
 ·obtain⟨its,r',pl,hz⟩:=I.tuple hq;have hlen:=r'.length;obtain⟨o,ho,hc,n,hd⟩:=pl;exact call_list_seq p (.inr rfl) ho hc hd (fun h' c' kp e=>fin its r' hz h' c' kp e) (by simp only [size_toArray]<;>omega)
theorem kP:dF X (.type "tuple") (fun xs H Q=> ∃p ys,xs=[.ref p]/\((SqL X.K H p ys/\∀l,H l=none->Q (.ref l) (upd H l (.tup ys)))\/(SqT X.K H p ys/\Q (.ref p) H))):=by
 intro pins s σ H xs us Q I r h;obtain⟨p,ys,rfl,h⟩:=h;obtain⟨u,rfl,rx⟩:=dJ r;cases rx;rcases h with⟨hq,q⟩| ⟨hq,q⟩
 ·obtain⟨its,r',pl,hz⟩:=I.list hq;have hlen:=r'.length;refine call_tuple_list pl.isList (fun h' kp=> ?_) (by simp only [size_toArray]<;>omega);have I1:Inv X pins σ H {s with heap:=h'}:=I.kept (t':=s.toks) kp;have I2:Inv X pins σ (upd H h'.objs.size (.tup ys)) {s with heap:=h'.push {cls:=.type "tuple",data:=.seq its.toArray}}:=
   I1.laid (t':=s.toks) (fun b o e=>zjX _ e) (zjQ _) (show ObjOk X.prog X.w _ _ _ (.tup ys)from⟨hz,its,r',IsTup.new _ _⟩)
  exact⟨.ref h'.objs.size,_,I2,rfl,q _ (I1.hok.fresh (zjQ _))⟩
 ·obtain⟨its,r',pl,hz⟩:=I.tuple hq;exact call_tuple_same pl ⟨.ref p,H,I,rfl,q⟩
def tyV (K:W.Frag)(T:String)(x:V)(H:Hp):Prop:=match x with
 | .str _=>T= "str"
 | .int _=>T= "int"
 | .ref p=>(T= "list"/\∃xs,SqL K H p xs)\/(T= "tuple"/\∃o,K.lookup p=some o/\o.cls= .type "tuple"/\o.dict=none)\/
   (T= "dict"/\((∃kvs,H p=some (.dK kvs))\/ ∃kvs,H p=some (.dT kvs)))\/(T= "set"/\∃S n,H p=some (.set S n))
 |_=>False
theorem A5m {pins:List (Addr×Obj)}{σ:St}{H:Hp}{s:Shared}{T:String}{x:V}{v:Value}(I:Inv X pins σ H s)(r:RelV x v)(ty:tyV X.K T x H):
  s.TypeIs v T/\∀a,v= .ref a->∃ob,s.heap.get? a=some ob/\ob.dict=none:=by
 cases x with
 |str z=>
  obtain⟨t,rfl⟩:=r;cases (show T= "str" from ty);exact⟨typeIs_str s z t,fun _ e=>nomatch e⟩
 |int i=>
  obtain⟨t,rfl⟩:=r;cases (show T= "int" from ty);exact⟨typeIs_int s i t,fun _ e=>nomatch e⟩
 |ref p=>
  cases r;rcases ty with⟨rfl,xs,hq⟩| ⟨rfl,o,hk,hc,hd⟩| ⟨rfl,hk⟩| ⟨rfl,S,n,hk⟩
  ·obtain⟨its,_,pl,_⟩:=I.list hq;refine⟨pl.isList.typeIs,fun a e=> ?_⟩;cases e;obtain⟨o,n,e,c,hd,_⟩:=pl;exact⟨o,e,hd⟩
  ·refine⟨⟨o,I.kIn p o hk,hc⟩,fun a e=> ?_⟩;cases e;exact⟨o,I.kIn _ o hk,hd⟩
  ·have z:∃o,s.heap.get? p=some o/\o.ExactDict:=by
    rcases hk with⟨kvs,hk⟩| ⟨kvs,hk⟩
    ·obtain⟨_,_,_,_,o,_,_,e,ex,_⟩:=I.hok p _ hk;exact⟨o,e,ex⟩
    ·obtain⟨_,_,_,_,o,_,_,e,ex,_⟩:=I.hok p _ hk;exact⟨o,e,ex⟩
   obtain⟨o,e,ex⟩:=z;refine⟨⟨o,e,ex.1⟩,fun a e2=> ?_⟩;cases e2;exact⟨o,e,ex.2.1⟩
  ·obtain⟨o,_,_,_,e,ex,_⟩:=I.hok p _ hk;refine⟨⟨o,e,ex.1⟩,fun a e2=> ?_⟩;cases e2;exact⟨o,e,ex.2.1⟩
 |_=>exact False.elim ty
def tBM (K:W.Frag)(T:String)(r:V->List V->Hp->VK->Prop)(to:TE)(t:TA):TE:=fun σ H Q=>to σ H fun x H1=>tyV K T x H1/\t σ H1 fun xs H2=>r x xs H2 Q
variable {o e:Expr}{es:List Expr}{to:TE}{t:TA}{name:Str}{apos cpos:Pos}{T id:String}{r:V->List V->Hp->VK->Prop}
theorem kU (pa:PlainAttrs T)(slot:Slot T name id)(hty:typeOf (.builtin id)=pure (.type "method_descriptor"))(hm:MtR X id r)(ho:PE X o to)(ha:PA X (e::es) t)
  (hbase:attributeBase o name X.env (eval o X.env)=eval o X.env:=by rfl)
  (hfew:((backTo cpos (starEach (e::es) X.env)).all (fun x=> !x.1)&&(backToKw cpos (keywordEach [] X.env)).all (fun x=>x.1.isSome)
   &&decide ((e::es).length+([]:List Keyword).length+(if ([]:List Keyword).isEmpty then 0 else 1)<30))=true:=by rfl)
  (hline:(apos.endLine==cpos.line)=true:=by rfl)(hs:starEach (e::es) X.env=(false,eval e X.env)::starEach es X.env:=by rfl)(hplain:(backTo cpos (starEach es X.env)).any (·.1)=false:=by rfl):
  PE X (.Call (.Attribute o name apos) (e::es) [] cpos) (tBM X.K T r to t):=by
 intro pins s σ H Q I h;refine wpAny_Call_method_late hbase hfew hline rfl (thn (ho pins s σ H _ I h) fun v s1 ⟨x,H1,I1,r1,ty,q1⟩=> ?_);obtain⟨h1,h2⟩:=A5m I1 r1 ty;refine⟨T,id,pa,slot,hty,h1,h2,?_⟩;have hA:=ha cpos pins s1 σ H1 _ I1 q1;rw [hs]at hA⊢;refine Calls.callWith_builtin (by show(false|| (backTo cpos (starEach es X.env)).any (·.1))=false;rw [hplain]<;>rfl) (Calls.evalArgs_plain ?_);exact thn hA fun us s2 ⟨vs,H2,I2,r2,q2⟩=>hm pins s2 σ H2 x vs v us Q I2 r1 r2 q2
/- xs.append(e),list.index on a module's tuple .. are MtR facts of 06m -/
end
def MtM (X:Cx)(id:String)(r:V->List V->Hp->VK->Prop):Prop:=
 ∀(pins:List (Addr×Obj))(s:Shared)(σ:St)(H:Hp)(x:V)(xs:List V)(v:Value)(us:List Value)(Q:VK),Inv X pins σ H s->RelV x v->Vals xs us->r x xs H Q->
  wpAny (model X.prog X.w) X.A (call (.builtin id) (v::us)) (EP X pins σ Q) X.xe s
theorem Vals.one:∀{x:V}{us:List Value},Vals [x] us->∃u,us=[u]/\RelV x u
 |_,_,.cons r .nil=> ⟨_,rfl,r⟩
theorem Vals.two:∀{x y:V}{us:List Value},Vals [x,y] us->∃u v,us=[u,v]/\RelV x u/\RelV y v
 |_,_,_,.cons r (.cons q .nil)=> ⟨_,_,rfl,r,q⟩
section
variable {X:Cx}{pins:List (Addr×Obj)}{σ:St}{H:Hp}{s:Shared}{l b:Addr}{xs ys zs:List V}
theorem Inv.lset {its its':List Value}{n:Nat}{f:Array Value->Array Value}{t':Nat}(I:Inv X pins σ H s)(hH:H l=some (.lst xs))
  (e:s.heap.get? l=some {cls:=.type "list",data:=.seq its.toArray n})(hf:f its.toArray=its'.toArray)(hv:Vals ys its')(hz:ys.length<=sizeLine):
  Inv X pins σ (upd H l (.lst ys)) {s with heap:=s.heap.update l (Obj.mapSeq f),toks:=t'}:=by
 have q:=PySem.IsL.update e f;rw [hf]at q;refine I.write (x:=l) (e:=l) (by rw [hH];exact trivial) (.inl rfl) (fun b' u hb hu=>(get?_update_other s.heap (Obj.mapSeq f) (Ne.symm hb)).trans hu) ⟨_,q⟩ ?_;exact⟨hz,its',_,hv,q⟩
theorem Inv.lnew {its:List Value}{t':Nat}(I:Inv X pins σ H s)(hv:Vals ys its)(hz:ys.length<=sizeLine):
  Inv X pins σ (upd H s.heap.objs.size (.lst ys)) {s with heap:=s.heap.push {cls:=.type "list",data:=.seq its.toArray},toks:=t'}:=
 I.laid (fun _ _ q=>zjX _ q) (zjQ _) ⟨hz,its,0,hv,get?_push_size _ rfl⟩
theorem Inv.fresh (I:Inv X pins σ H s):H s.heap.objs.size=none:=I.hok.fresh (zjQ _)
theorem Inv.lstM (I:Inv X pins σ H s)(hH:H l=some (.lst xs)):xs.length<=sizeLine/\∃(its:List Value)(n:Nat),Vals xs its/\xs.length=its.length/\s.heap.get? l=some {cls:=.type "list",data:=.seq its.toArray n}:=by obtain⟨z,its,n,r,e⟩:=I.hok l _ hH;exact⟨z,its,n,r,r.length,e⟩
theorem A1i {n:Nat}(h:n<=sizeLine):Builtin.List.listTooLong n=false:=by unfold Builtin.List.listTooLong;exact zjU (by omega)
end
section
variable {X:Cx}
def A3e:V->List V->Hp->VK->Prop:=fun x vs H Q=> ∃l xs y,x= .ref l/\vs=[y]/\H l=some (.lst xs)/\xs.length<sizeLine/\Q .non (upd H l (.lst (xs++[y])))
theorem mF:MtM X "list.append" A3e:=by intro pins s σ H x vs v us Q I rx rv h;obtain⟨l,xs,y,rfl,rfl,hH,hz,q⟩:=h;cases rx;obtain⟨u,rfl,ru⟩:=rv.one;obtain⟨z,its,n,r,hl,e⟩:=I.lstM hH;refine call_meets F.slot_list_append ⟨_,e,rfl⟩ F.entry_list_append (F.args_list_append_2 _ _) (PySem.list_append l its.toArray n u (by rw [size_toArray];omega)) ⟨e,?_⟩;refine⟨.non,_,I.lset (its':=its++[u]) hH e (by simp) (r.append (.cons ru .nil)) ?_,rfl,q⟩;rw [length_append,length_singleton];omega
def A5g:V->List V->Hp->VK->Prop:=fun x vs H Q=> ∃l b xs zs,x= .ref l/\vs=[.ref b]/\H l=some (.lst xs)/\H b=some (.lst zs)/\xs.length+zs.length<=sizeLine/\Q .non (upd H l (.lst (xs++zs)))
theorem yF:MtM X "list.extend" A5g:=by
 intro pins s σ H x vs v us Q I rx rv h;obtain⟨l,b,xs,zs,rfl,rfl,hH,hB,hz,q⟩:=h;cases rx;obtain⟨u,rfl,ru⟩:=rv.one;cases ru;obtain⟨z,its,n,r,hl,e⟩:=I.lstM hH;obtain⟨z2,its2,n2,r2,hl2,e2⟩:=I.lstM hB;have hsz:its.toArray.size+its2.toArray.size<=sizeLine:=by rw [size_toArray,size_toArray];omega
 have hlong:¬(!its.toArray.isEmpty&&Builtin.List.listTooLong (its.toArray.size+its2.toArray.size))=true:=by
  rw [A1i hsz,Bool.and_false];exact Bool.false_ne_true
 refine call_meets F.slot_list_extend ⟨_,e,rfl⟩ F.entry_list_extend (F.args_list_extend_2 _ _)
  (AutoSeq1.list_extend_list_list_0 l its.toArray n b its2.toArray n2 hlong (by rw [size_toArray];omega) (by omega)) ⟨e,e2,?_⟩
 refine⟨.non,_,I.lset (its':=its++its2) hH e (by simp) (r.append r2) ?_,rfl,q⟩;rw [length_append];omega
def A39:R2:=fun x y H Q=> ∃l b xs zs,x= .ref l/\y= .ref b/\H l=some (.lst xs)/\H b=some (.lst zs)/\xs.length+zs.length<=sizeLine/\∀p,H p=none->Q (.ref p) (upd H p (.lst (xs++zs)))
theorem iS:OpR X (binaryOp .Add) A39:=by
 intro pins s σ H x y v u Q I rx ry h;obtain⟨l,b,xs,zs,rfl,rfl,hH,hB,hz,q⟩:=h;cases rx;cases ry;obtain⟨z,its,n,r,hl,e⟩:=I.lstM hH;obtain⟨z2,its2,n2,r2,hl2,e2⟩:=I.lstM hB;refine PySem.P.add_list e e2 ?_ (by rw [size_toArray,size_toArray];omega);have ea:its.toArray++its2.toArray=(its++its2).toArray:=by simp
 rw [ea];exact⟨.ref _,_,I.lnew (t':=s.toks) (r.append r2) (by rw [length_append];omega),rfl,q _ I.fresh⟩
end
section
variable {prog:Program}{w:World}{A:Around}{E:Value->Shared->Prop}{s:Shared}
set_option maxRecDepth 100000 in
end
section
variable {X:Cx}
end
end L2
namespace Att
open PySem PySem.W PySem.Calls PyProof.Rows
theorem A9c {P:Params}{h:Heap}:∀(ns:List Int)(vs:List Value),WellAll P h vs (ns.map WData.int)->IntsAre vs ns:=by
 intro ns
 induction ns with
 |nil=>
  intro vs w;rw [map_nil]at w;cases w;exact .nil
 |cons n ns ih=>
  intro vs w;rw [map_cons]at w;cases w with
  |cons a b=>
   cases a;exact .cons _ _ (ih _ b)
theorem A0q {l:OpenLaw}{n:Nat}(hn:l.most=some n){P:Params}{h:Heap}{args:List WData}{vals:List Value}
  (hpre:l.row.toRowW.claim.pre args=true)(hwl:WellAll P h vals args):
  ∃a vs ns,vals=[Value.ref a]/\args=[WData.list (ns.map WData.int)]/\h.get? a=some {cls:=.type "list",data:=.seq vs.toArray}/\IntsAre vs ns/\ns.length<=n:=by
 have hsh:WShape.hasAll [] args [.list .int]=true:=(pre_splitW hpre).1;have hc:l.pre.holds [] {args:=args}=true:=(pre_splitW hpre).2;obtain⟨d,r,rfl,h1,h2⟩:=hasAllW_cons hsh;obtain rfl:=hasAllW_nil h2;obtain⟨xs,rfl,h3⟩:=hasW_list h1;obtain⟨ns,rfl⟩:=items_int h3;have hlen:ns.length<=n:=by
  unfold OpenLaw.pre at hc;have h4:(WTm.not (.lt (.lit (.int (n:Int))) (.len (.arg 0)))).holds [] {args:=[.list (ns.map .int)]}=true:=by
   have h4:=(holds_andW hc).1;rw [hn]at h4;exact h4
  have h5:=condW_of h4 (w_not (w_lt w_lit (w_len_list (w_arg rfl))));rw [length_map]at h5;refine Nat.le_of_not_lt fun q=> ?_;have q':(n:Int)<((ns.length:Nat):Int):=by omega
  first
   | (rw [zjV q']at h5;exact absurd h5 (by decide))
   | (simp at h5;omega)
 cases hwl with
 |cons w1 w2=>
  cases w2;cases w1 with
  |list ho hall=>exact⟨_,_,ns,rfl,rfl,ho,A9c ns _ hall,hlen⟩
theorem A6m (l:OpenLaw)(args:List WData):l.row.toRowW.claim.post args (.bool true) args=true:=
 postW_of (r:=l.row.toRowW) (X:=(true==true))
  (show WShape.has [] (.bool true) .bool=true by first|rfl|decide|simp [WShape.has,WShape.arms,WShape.armsAll])
  (show(WTm.eq .res (.lit (.bool true))).value [] {args:=args,res:=some (.bool true),after:=args}=some (.bool (true==true))from w_eq_bool (w_res rfl) w_lit) rfl
theorem attach_call {l:OpenLaw}{n:Nat}{q:Program}{loose:List Str}{XP:(Str->Option Value)->Heap->Prop}{YP:World->Heap->Prop}{d:DefRec}
  (hn:l.most=some n)(hdf:d.params.defaults=[])
  (call:∀(w:World)(s₀ s₁:Shared)(mg mb:Str->Option Value)(fa:Addr)(o:Obj)(pm cd doc:Value)(a:Addr)(vs:List Value)(ns:List Int),
   Ground q loose [] XP w s₀ mg mb s₁.heap->YP w s₁.heap->
   s₁.heap.get? fa=some o->o.data= .func (docDef d.name d.params d.body d.scope pm cd doc)->s₁.heap.CodeRec cd d.name->mg d.name=some (.ref fa)->
   s₁.heap.get? a=some {cls:=.type "list",data:=.seq vs.toArray}->IntsAre vs ns->ns.length<=n->s₁.gens= #[]->
   codeAny (model l.prog w) callerA (.call (.ref fa) ⟨[.ref a],[]⟩) (fun r s'=>r= .ok (.ret (.bool true))/\OldK s₁.heap s'.heap/\s'.os=s₁.os/\AllBare s'.gens) s₁):
  WalkO q loose XP YP l.row.toRowW d [] (fun f vs=>PySem.call f vs):=by
 intro w s₀ s₁ mg mb G Y fa o pm cd doc dV kV ho hd hcd hD hmg hg args vals as hpre hlay hrd hwl hlo;obtain rfl:dV= .none:=Dflts.none hD hdf;obtain rfl:kV= .none:=Dflts.noKw hD;obtain⟨a,vs,ns,rfl,rfl,hobj,hints,hlen⟩:=A0q hn hpre hwl;refine enter_call (codeAny_mono (call w s₀ s₁ mg mb fa o pm cd doc a vs ns G Y ho (fd_plain hd) hcd hmg hobj hints hlen hg) fun r s' hq=> ?_);obtain⟨rfl,h2,h3,h4⟩:=hq;exact⟨.inl ⟨.bool true,.bool true,[],rfl,fun _=>rfl,.bool true,A6m l _,fun _=> ⟨List.Pairwise.nil,fun _ hm=>(nomatch hm)⟩⟩,h2,h3,h4⟩
section
variable {prog:Program}{w:World}{A:Around}{E:Value->Shared->Prop}{s:Shared}{K:Frag}
def ledger (h:Heap)(L d:Addr):List (Addr×Obj):=(List.range h.objs.size).filterMap fun a=>if a=L\/a=d then none else(h.get? a).map fun o=>(a,o)
end
end Att
namespace L2
open PySem PySem.Spec PyProof.Rows
theorem yJ:∀{vs:List Value}{ns:List Int},IntsAre vs ns->Vals (ns.map V.int) vs
 |_,_,.nil=> .nil
 |_,_,.cons n t h=> .cons ⟨t,rfl⟩ (yJ h)
def pV (H:Hp):Prop:=∀b,H b=none\/ ∃o xs,H b=some (.frz o (.lst xs))
theorem A1d {P:Program}{w:World}{K:W.Frag}{mg mb:Str->Option Value}{CX:CXT}{k:Nat}{fa a:Addr}{fd:FuncData}{x:Str}{sp:Sp}{s₁:Shared}{vs:List Value}{ns:List Int}
  (KX:K.In s₁.heap)(hns:s₁.heap.Ns mainGlobals mg)(hb:s₁.heap.Ns builtinsNs mb)(hbb:∀x:Str,x≠ "__name__"->mb x=bootBuiltins x)(hlim:s₁.heap.NoLimit)(hg:s₁.gens= #[])
  (ha:s₁.heap.get? a=some {cls:=.type "list",data:=.seq vs.toArray})(hi:IntsAre vs ns)(hl:ns.length<=sizeLine)(hr:Room k callerA)
  (F:∀base:Heap,K.In base->base.Ns mainGlobals mg->FnOk P w K mg base CX k fa fd [x] sp)(hbind:∀(s:Shared)(u:Value),BindsTo s fd ⟨[u],[]⟩ [(x,u)])
  (hsp:∀H:Hp,pV H->SqL K H a (ns.map V.int)->sp [.ref a] H (fun v _=>v= .bl true) fun _ _ _=>False)
  (hCX:∀H e s',CX [] H s₁ (fun _ _ _=>False) e s'->False):
  codeAny (model P w) callerA (.call (.ref fa) ⟨[.ref a],[]⟩) (fun r s'=>r= .ok (.ret (.bool true))/\OldK s₁.heap s'.heap/\s'.os=s₁.os/\AllBare s'.gens) s₁:=by
 have rv:=yJ hi;have lenV:=hi.length;have core:∀H:Hp,pV H->SqL K H a (ns.map V.int)->HOk P w H s₁.heap->(∀b,H b≠none->b=a)->(H a≠none->K.lookup a=none)->
   codeAny (model P w) callerA (.call (.ref fa) ⟨[.ref a],[]⟩) (fun r s'=>r= .ok (.ret (.bool true))/\OldK s₁.heap s'.heap/\s'.os=s₁.os/\AllBare s'.gens) s₁:=by
  intro H hO hS hok hA hK;have base_of:∀{b:Addr}{o:Obj},s₁.heap.get? b=some o->H b=none->(fZ s₁.heap H).get? b=some o:=fun e n=>A62 e n;have noA:∀{b:Addr}{o:Obj}{es:Array DictEntry}{ep:Nat},s₁.heap.get? b=some o->o.data= .dict es ep->H b=none:=fun{b o es ep} e d=>by
   cases q:H b with
   |none=>rfl
   |some u=>
    have e':b=a:=hA b (by rw [q];simp);subst e';rw [ha]at e;cases e;have d':Data.seq vs.toArray _=Data.dict es ep:=d;cases d'
  have nsK:∀{b:Addr}{m:Str->Option Value},s₁.heap.Ns b m->(fZ s₁.heap H).Ns b m:=fun{b m} ⟨o,es,ep,e,d,r⟩=> ⟨o,es,ep,base_of e (noA e d),d,r⟩;have hKb:K.In (fZ s₁.heap H):=fun b o e=>base_of (KX b o e) (by
   cases q:H b with
   |none=>rfl
   |some u=>
    have e':b=a:=hA b (by rw [q];simp);subst e';rw [hK (by rw [q];simp)]at e;cases e)
  have hM:Mod K mg (fZ s₁.heap H):=⟨hKb,nsK hns,⟨mb,nsK hb,hbb⟩,let ⟨mc,h1,h2⟩:=hlim;⟨mc,nsK h1,h2⟩⟩;have e0:nA P w K mg (fZ s₁.heap H) callerA [] s₁ H:=⟨rfl,hM,fun b o e=>A5a e,le_of_eq (A48 _ _),trivial,fun b hb=>absurd (show b∈([]:List Addr)from hb) (by simp),hok,.of_eq hg⟩;refine codeAny_mono ((F _ hKb (nsK hns)).run callerA [] s₁ H ⟨[.ref a],[]⟩ [.ref a] [.ref a] _ _ hr e0 (hbind s₁ (.ref a)) (.cons rfl .nil) (hsp H hO hS)) fun r s' h=> ?_;cases r with
  |error e=>exact(hCX H e s' h).elim
  |ok fl=>
   cases fl with
   |next=>exact False.elim h
   |brk=>exact False.elim h
   |cont=>exact False.elim h
   |ret u=>
    obtain⟨v,H',os,bare,un,hok',r',q⟩:=h;have q':v= .bl true:=q;subst q';obtain rfl:u=Value.bool true:=r';refine⟨rfl,OldK.of_keep fun b o e=> ?_,os,bare⟩;cases q:H b with
    |none=>exact un.keep b o e q (by intro z;exact absurd (show b∈([]:List Addr)from z) (by simp)) (by simp)
    |some u=>
     rcases hO b with z| ⟨ob,xs,z⟩
     ·rw [q]at z;cases z
     ·have z2:=un.frzs b ob _ z;obtain⟨e1,_⟩:=hok b _ z;obtain⟨e2,_⟩:=hok' b _ z2;rw [e]at e1;cases e1;exact e2
 cases hk:K.lookup a with
 |some o=>
  have e:=KX a o hk;rw [ha]at e;cases e;refine core (fun _=>none) (fun _=> .inl rfl) (.inr ⟨_,vs.toArray,_,hk,rfl,rfl,rfl,by rw [size_toArray,lenV];exact hl,by simpa using rv⟩) (fun b u z=>by have z':(none:Option HO)=some u:=z;cases z') (fun b z=>absurd rfl z) fun z=>absurd rfl z
 |none=>
  refine core (fun b=>if b=a then some (.frz {cls:=.type "list",data:=.seq vs.toArray} (.lst (ns.map V.int)))else none) (fun b=> ?_) (.inl (.inr ⟨{cls:=.type "list",data:=.seq vs.toArray},if_pos rfl⟩)) (fun b u z=> ?_) (fun b z=> ?_) fun _=>hk
  ·by_cases hb:b=a
   ·exact .inr ⟨_,_,if_pos hb⟩
   ·exact .inl (if_neg hb)
  ·by_cases hb:b=a
   ·have z':=(if_pos hb).symm.trans z;cases z';subst hb;exact⟨ha,by rw [length_map];exact hl,vs,_,rv,ha⟩
   ·have z':=(if_neg hb).symm.trans z;cases z'
  ·by_cases hb:b=a
   ·exact hb
   ·exact absurd (if_neg hb) z
theorem walk_of {l:W.OpenLaw}{n k:Nat}{q:Program}{loose:List Str}{XP:(Str->Option Value)->Heap->Prop}{YP:World->Heap->Prop}{d:DefRec}{K:Params->W.Frag}{CX:World->CXT}{sp:World->Sp}{x:Str}
  (hn:l.most=some n)(hn2:n<=sizeLine)(hdf:d.params.defaults=[])(hr:Room k callerA)
  (hY:∀(w:World)(h:Heap),YP w h->(K w.params).In h)
  (F:∀(w:World)(mg:Str->Option Value)(fa:Addr)(h:Heap),(K w.params).In h->h.Ns mainGlobals mg->mg d.name=some (.ref fa)->
   ∃fd:FuncData,(∀(s:Shared)(u:Value),BindsTo s fd ⟨[u],[]⟩ [(x,u)])/\
    ∀base:Heap,(K w.params).In base->base.Ns mainGlobals mg->FnOk l.prog w (K w.params) mg base (CX w) k fa fd [x] (sp w))
  (hsp:∀(w:World)(H:Hp)(a:Addr)(ns:List Int),ns.length<=n->pV H->SqL (K w.params) H a (ns.map V.int)->sp w [.ref a] H (fun v _=>v= .bl true) fun _ _ _=>False)
  (hCX:∀(w:World)(H:Hp)(s:Shared)(e:Value)(s':Shared),CX w [] H s (fun _ _ _=>False) e s'->False):
  W.WalkO q loose XP YP l.row.toRowW d [] (fun f vs=>PySem.call f vs):=by
 refine Att.attach_call hn hdf fun w s₀ s₁ mg mb fa o pm cd doc a vs ns G Y ho hd hcd hmg hobj hints hlen hg=> ?_;have KX:=hY w _ Y;obtain⟨fd,hb,hF⟩:=F w mg fa _ KX G.T.g hmg;exact A1d KX G.T.g G.T.b G.T.builtins G.T.nolimit hg hobj hints (le_trans hlen hn2) hr hF hb (fun H hO hS=>hsp w H a ns hlen hO hS) fun H e s'=>hCX w H s₁ e s'
def iN (s:Stmt):Arguments:=match s with
 | .FunctionDef _ a _ _ _ _ _ _ _ _=>a
 |_=> {posonlyargs:=[],args:=[],vararg:=none,kwonlyargs:=[],kw_defaults:=[],kwarg:=none,defaults:=[]}
def cD (s:Stmt):List Stmt:=match s with
 | .FunctionDef _ _ b _ _ _ _ _ _ _=>b
 |_=> []
def bE (s:Stmt):Scope:=match s with
 | .FunctionDef _ _ _ _ _ _ sc _ _ _=>sc
 |_=> {kind:=.function,names:=[],isGenerator:=false,isCoroutine:=false}
abbrev CX0:CXT:=fun _ _ _ _ _ _=>False
abbrev E0:XK:=fun _ _ _=>False
theorem zL {X:Cx}:pN CX0 X E0:=fun _ _ _ _ _ _ _ h=>h.elim
structure Fun (K:W.Frag)(x qual:Str)(st:Stmt)(f:Addr)(fd:FuncData):Prop where
 ex:∃(oc:Value)(od:Option Addr)(kV doc pm:Value)(an:Option Addr)(cdv ct:Value)(osl:Array (Option Value)),
  fd=W.fnOf x qual (iN st) (cD st) (bE st) .none kV doc pm an cdv ct/\K.lookup f=some ⟨oc,od,.func fd,osl⟩/\W.codeIn K cdv qual=true
 kp:W.keepIn K (.ref f)=true
section
variable {P:Program}{w:World}{K:W.Frag}{mg:Str->Option Value}{base:Heap}
theorem Fun.ok {x qual:Str}{st:Stmt}{f:Addr}{fd:FuncData}{N ps:List Str}{k:Nat}{sp:Sp}(F:Fun K x qual st f fd)(S:gL N ps (bE st))(len:∀vs H Q E,sp vs H Q E->vs.length=ps.length)
  (hbody:∀(cdv:Value)(A:Around)(outer:List Env)(s:Shared)(H:Hp)(vs:List V)(Q:VK)(E:XK),Room k (A.deeper (envOfC qual (bE st) s.heap.objs.size f cdv))->sp vs H Q E->
   ∃t,PSs (fA CX0 P w K mg base N qual (bE st) f cdv A outer s H E).nox (cD st) t/\t {nx:=fun _ H'=>Q .non H',rt:=Q} (start N vs) H):FnOk P w K mg base CX0 (k+1) f fd ps sp:=by
 obtain⟨oc,od,kV,doc,pm,an,cdv,ct,osl,rfl,lk,hcd⟩:=F.ex;refine A41 lk hcd S len fun A outer s H vs Q E hr hsp=> ?_;obtain⟨t,h,q⟩:=hbody cdv A outer s H vs Q E hr hsp;exact⟨t,h.nox,q⟩
theorem Fun.binds {x qual:Str}{st:Stmt}{f:Addr}{fd:FuncData}{ps:List Str}(F:Fun K x qual st f fd)
  (h:∀(kV doc pm:Value)(an:Option Addr)(cdv ct:Value)(us:List Value),us.length=ps.length->bindArgs (W.fnOf x qual (iN st) (cD st) (bE st) .none kV doc pm an cdv ct) ⟨us,[]⟩=pure (ps.zip us)):Binds K fd ps []:=by
 obtain⟨oc,od,kV,doc,pm,an,cdv,ct,osl,rfl,lk,hcd⟩:=F.ex;exact .all (h kV doc pm an cdv ct)
theorem A5r {x qual:Str}{st:Stmt}{f:Addr}{oc:Value}{od an:Option Addr}{osl:Array (Option Value)}{kV doc pm cdv ct:Value}(l:K.lookup f=some ⟨oc,od,.func (W.fnOf x qual (iN st) (cD st) (bE st) .none kV doc pm an cdv ct),osl⟩)
  (c:W.codeIn K cdv qual=true)(k:W.keepIn K (.ref f)=true):Fun K x qual st f (W.fnOf x qual (iN st) (cD st) (bE st) .none kV doc pm an cdv ct):=⟨⟨oc,od,kV,doc,pm,an,cdv,ct,osl,rfl,l,c⟩,k⟩
end
theorem nD {A:Around}{k:Nat}(hr:Room k A):A.units+1<cLine:=lt_of_le_of_lt (Nat.add_le_add_left (by decide:1<=64) _) hr.units
theorem cH {n:Nat}(h:n<=1000):n<sizeLine:=lt_of_le_of_lt h (by decide)
section
variable {X:Cx}
theorem pv (i:Nat){x:Str}{pos:Pos}(hN:X.N[i]?=some x:=by rfl)(hv:Vis X.env.scope x:=by first|exact Or.inl rfl|exact Or.inr (Or.inl rfl)|exact Or.inr (Or.inr rfl))(hd:(x==("__debug__":Str))=false:=by decide)
  (hcd:(x==("__classdict__":Str))=false:=by decide):PE X (.Name x pos) (cS i):=A8f hN hv hd hcd
end
theorem bT {A B:Prop}(h:B):if false=true then A else B:=by rw [if_neg Bool.false_ne_true];exact h
theorem gB {A B:Prop}(h:A):if true=true then A else B:=by rw [if_pos rfl];exact h
theorem oH {c A B:Prop} [Decidable c](hc:c)(h:B):if (!decide c)=true then A else B:=by rw [zjV hc];exact bT h
def Same (H H':Hp):Prop:=∀b o,H b=some o->H' b=some o
theorem Same.refl (H:Hp):Same H H:=fun _ _ h=>h
theorem Same.trans {H H1 H2:Hp}(a:Same H H1)(b:Same H1 H2):Same H H2:=fun c o h=>b c o (a c o h)
theorem Same.free {H H':Hp}(e:Same H H'){l:Addr}(h:H' l=Option.none):H l=Option.none:=by
 cases q:H l with
 |none=>rfl
 |some o=>
  rw [e l o q]at h;cases h
theorem Same.seq {K:W.Frag}{H H':Hp}{a:Addr}{xs:List V}(e:Same H H')(h:SqL K H a xs):SqL K H' a xs:=by
 rcases h with(h| ⟨o,h⟩)|h
 ·exact .inl (.inl (e _ _ h))
 ·exact .inl (.inr ⟨o,e _ _ h⟩)
 ·exact .inr h
section
variable {κ:Type} [DecidableEq κ]
def iV (kvs:List (κ×V))(k:κ):Option V:=(kvs.find? fun kv=>decide (kv.1=k)).map (·.2)
def eV (kvs:List (κ×V))(k:κ)(v:V):List (κ×V):=
 if (kvs.any fun kv=>decide (kv.1=k))=true then kvs.map (fun kv=>if kv.1=k then(kv.1,v)else kv)else kvs++[(k,v)]
theorem xU {p:κ×V}{r:List (κ×V)}{k:κ}(e:p.1=k):iV (p::r) k=some p.2:=by simp [iV,find?_cons,e]
theorem xG {p:κ×V}{r:List (κ×V)}{k:κ}(e:¬p.1=k):iV (p::r) k=iV r k:=by simp [iV,find?_cons,e]
theorem wS (k:κ):∀kvs:List (κ×V),(kvs.any fun kv=>decide (kv.1=k))=(iV kvs k).isSome
 | []=>rfl
 |p::r=>by
  rw [any_cons];by_cases e:p.1=k
  ·simp only [xU e,zjV e,Bool.true_or,Option.isSome_some]
  ·rw [xG e,zjU e,Bool.false_or];exact wS k r
theorem uZ (kvs:List (κ×V))(k:κ)(v:V):(eV kvs k v).length<=kvs.length+1:=by
 unfold eV
 split
 ·rw [length_map];omega
 ·rw [length_append,length_cons,length_nil];omega
theorem RelO.isSome_eq {o:Option V}{u:Option Value}(r:RelO o u):o.isSome=u.isSome:=by
 cases o with
 |none=>cases u with
  |none=>rfl
  |some _=>exact(show False from r).elim
 |some _=>cases u with
  |none=>exact(show False from r).elim
  |some _=>rfl
theorem KV.any {kvs:List (κ×V)}{vs:List (κ×Value)}(r:KV kvs vs)(k:κ):(kvs.any fun kv=>decide (kv.1=k))=vs.any fun kv=>decide (kv.1=k):=by
 unfold KV at r
 induction r with
 |nil=>rfl
 |cons h t ih=>rw [any_cons,any_cons,ih,h.1]
theorem KV.repl {kvs:List (κ×V)}{vs:List (κ×Value)}(r:KV kvs vs)(k:κ){y:V}{u:Value}(ry:RelV y u):
  KV (kvs.map fun kv=>if kv.1=k then(kv.1,y)else kv) (vs.map fun kv=>if kv.1=k then(kv.1,u)else kv):=by
 unfold KV at r⊢
 induction r with
 |nil=>exact .nil
 | @cons p q ps qs h t ih=>
  rw [map_cons,map_cons];refine .cons ?_ ih;obtain⟨h1,h2⟩:=h;by_cases e:p.1=k
  ·rw [if_pos e,if_pos (h1.symm.trans e)];exact⟨h1,ry⟩
  ·rw [if_neg e,if_neg (fun z=>e (h1.trans z))];exact⟨h1,h2⟩
theorem KV.put {kvs:List (κ×V)}{vs:List (κ×Value)}(r:KV kvs vs)(k:κ){y:V}{u:Value}(ry:RelV y u):KV (eV kvs k y) (stored vs k u):=by
 unfold eV stored;rw [r.any k];by_cases e:(vs.any fun kv=>decide (kv.1=k))=true
 ·rw [if_pos e,if_pos e];exact r.repl k ry
 ·rw [if_neg e,if_neg e];exact Paired.snoc r ⟨rfl,ry⟩
theorem KV.length {kvs:List (κ×V)}{vs:List (κ×Value)}(r:KV kvs vs):kvs.length=vs.length:=Paired.length r
end
theorem vL {P:Program}{w:World}{k:Key}{u:Value}(r:RelV (kV k) u):(dR P w).is k u=true:=by
 cases k with
 |inl i=>obtain⟨t,e⟩:=(show∃t,u=Value.int i t from r);subst e;exact A81 P w i t
 |inr x=>obtain⟨t,e⟩:=(show∃t,u=Value.str x t from r);subst e;exact A3c P w x t
theorem tW {P:Program}{w:World}:∀{ks:List Key}{us:List Value},Vals (ks.map kV) us->ItemsAre (dR P w) ks us
 | [],_,r=>by rw [map_nil]at r;cases r;exact .nil
 |k::ks,_,r=>by
  rw [map_cons]at r;cases r with
  |cons h t=>exact .cons (vL h) (tW t)
abbrev KT (H:Hp):List (List Key×V)->List (List Key×Addr×Value)->Prop:=Paired fun p q=>p.1=q.1/\H q.2.1=some (.tup (p.1.map kV))/\RelV p.2 q.2.2
theorem KT.val {H:Hp}{kvs:List (List Key×V)}{xs:List (List Key×Addr×Value)}(r:KT H kvs xs)(k:List Key):RelO (iV kvs k) ((atKey xs k).map (·.2)):=by
 induction r with
 |nil=>exact True.intro
 | @cons p q ps qs h t ih=>
  obtain⟨h1,_,h2⟩:=h;by_cases e:p.1=k
  ·have e':q.1=k:=h1.symm.trans e;have b:atKey (q::qs) k=some q.2:=by simp [atKey,find?_cons,e']
   rw [xU e,b];exact h2
  ·have e':¬q.1=k:=fun z=>e (h1.trans z);have b:atKey (q::qs) k=atKey qs k:=by simp [atKey,find?_cons,e']
   rw [xG e,b];exact ih
theorem KT.repl {H:Hp}{kvs:List (List Key×V)}{xs:List (List Key×Addr×Value)}(r:KT H kvs xs)(k:List Key){y:V}{u:Value}(ry:RelV y u):
  KT H (kvs.map fun kv=>if kv.1=k then(kv.1,y)else kv) (xs.map (putAt k u)):=by
 induction r with
 |nil=>exact .nil
 | @cons p q ps qs h t ih=>
  rw [map_cons,map_cons];refine .cons ?_ ih;obtain⟨h1,h2,h3⟩:=h;unfold putAt;by_cases e:p.1=k
  ·rw [if_pos e,if_pos (h1.symm.trans e)];exact⟨h1,h2,ry⟩
  ·rw [if_neg e,if_neg (fun z=>e (h1.trans z))];exact⟨h1,h2,h3⟩
theorem KT.put {H:Hp}{kvs:List (List Key×V)}{xs:List (List Key×Addr×Value)}(r:KT H kvs xs)(k:List Key){b:Addr}{y:V}{u:Value}(hb:H b=some (.tup (k.map kV)))(ry:RelV y u):
  KT H (eV kvs k y) (storedH xs k b u):=by
 have e:(kvs.any fun kv=>decide (kv.1=k))=(atKey xs k).isSome:=by
  rw [wS,(r.val k).isSome_eq,Option.isSome_map]
 unfold eV storedH;rw [e];by_cases q:(atKey xs k).isSome=true
 ·rw [if_pos q,if_pos q];exact r.repl k ry
 ·rw [if_neg q,if_neg q];exact Paired.snoc r ⟨rfl,hb,ry⟩
theorem KT.keeps {H H':Hp}{kvs:List (List Key×V)}{xs:List (List Key×Addr×Value)}(r:KT H kvs xs)(ht:∀b ys,H b=some (.tup ys)->H' b=some (.tup ys)):KT H' kvs xs:=
 Paired.mapP r fun _ _ z=> ⟨z.1,ht _ _ z.2.1,z.2.2⟩
section
variable {P:Program}{w:World}{H:Hp}{h:Heap}{a:Addr}
theorem vT {u:HO}(ok:HOk P w H h)(e:Rd H a u):ObjOk P w H h a u:=e.ok ok
theorem A18 {kvs:List (Key×V)}(ok:HOk P w H h)(e:Rd H a (.dK kvs)):kvs.length<=sizeLine/\(a==sysModules)=false/\∃vs,KV kvs vs/\h.DictOf (dR P w) a vs:=
 show ObjOk P w H h a (.dK kvs)from vT ok e
theorem A3l {kvs:List (Key×V)}(ok:HOk P w H h)(e:H a=some (.dK kvs)):kvs.length<=sizeLine/\(a==sysModules)=false/\∃vs,KV kvs vs/\h.DictOf (dR P w) a vs:=A18 ok (.inl e)
theorem wR {ks:List Key}(ok:HOk P w H h)(e:H a=some (.tup (ks.map kV))):(tupleKind (dR P w)).is h ks a:=by obtain⟨_,its,r,o,h1,h2,n,h3⟩:=(show ObjOk P w H h a (.tup (ks.map kV))from ok a _ e);exact⟨o,its.toArray,n,h1,h2,h3,by simpa using tW r⟩
theorem A83 {kvs:List (List Key×V)}(ok:HOk P w H h)(e:Rd H a (.dT kvs)):kvs.length<=sizeLine/\(a==sysModules)=false/\
  ∃xs,KT H kvs xs/\h.DictOfH (tupleKind (dR P w)) a xs:=by
 obtain⟨z,y,xs,r,o,es,ep,h1,h2,h3,h4,h5⟩:=(show ObjOk P w H h a (.dT kvs)from vT ok e);refine⟨z,y,xs,r,o,es,ep,h1,h2,h3,h4,fun x hx=> ?_,h5⟩;have all:∀{l:List (List Key×V)}{m:List (List Key×Addr×Value)},KT H l m->∀x∈m,(tupleKind (dR P w)).is h x.1 x.2.1:=by
  intro l m q
  induction q with
  |nil=>intro x hx;exact nomatch hx
  | @cons p q ps qs hq t ih=>
   intro x hx;rcases mem_cons.mp hx with e|hx
   ·subst e;exact wR ok (by rw [←hq.1];exact hq.2.1)
   ·exact ih x hx
 exact all r x hx
theorem A0f {kvs:List (List Key×V)}(ok:HOk P w H h)(e:H a=some (.dT kvs)):kvs.length<=sizeLine/\(a==sysModules)=false/\
  ∃xs,KT H kvs xs/\h.DictOfH (tupleKind (dR P w)) a xs:=A83 ok (.inl e)
end
def DPut (H:Hp)(a:Addr)(y v:V)(H':Hp):Prop:=
 (∃kvs k,H a=some (.dK kvs)/\y=kV k/\kvs.length<sizeLine/\H'=upd H a (.dK (eV kvs k v)))\/
 ∃kvs k b,H a=some (.dT kvs)/\y= .ref b/\H b=some (.tup (k.map kV))/\kvs.length<sizeLine/\H'=upd H a (.dT (eV kvs k v))
theorem DPut.t {H:Hp}{a b:Addr}{kvs:List (List Key×V)}{k:List Key}{v:V}(e:H a=some (.dT kvs))(eb:H b=some (.tup (k.map kV)))(hl:kvs.length<sizeLine):
  DPut H a (.ref b) v (upd H a (.dT (eV kvs k v))):=.inr ⟨kvs,k,b,e,rfl,eb,hl,rfl⟩
section
variable {X:Cx}{pins:List (Addr×Obj)}{σ:St}{H:Hp}{s:Shared}{a:Addr}{y v:V}{u r:Value}{o:Option V}{A:Around}{E:Value->Shared->Prop}
theorem Inv.big (I:Inv X pins σ H s):sysModules<s.heap.objs.size:=by have h:mainGlobals<s.heap.objs.size:=(I.mod.glob.keeps I.bk).lt;exact lt_trans (by decide) h
theorem uO {h':Heap}{t':Nat}{ob:HO}(I:Inv X pins σ H s)(mu:Mut (H a))(hs:Heap.SameBut a s.heap h')(he:∃q,h'.get? a=some q)(new:ObjOk X.prog X.w (upd H a ob) h' a ob):
  Inv X pins σ (upd H a ob) {s with heap:=h',toks:=t'}:=
 I.write (x:=a) (e:=a) mu (.inl rfl) (fun b q hb z=>(hs.2 b hb).trans z) he new
theorem A2u {P:Program}{w:World}{H':Hp}{h':Heap}{kvs:List (Key×V)}{vs:List (Key×Value)}(z:kvs.length<=sizeLine)(hd:(a==sysModules)=false)(rel:KV kvs vs)(dd:h'.DictOf (dR P w) a vs):
  ObjOk P w H' h' a (.dK kvs):=⟨z,hd,vs,rel,dd⟩
theorem A3b {H':Hp}{Q:Unit->Shared->Prop}(hu:A.units+1<cLine)(I:Inv X pins σ H s)(g:DPut H a y v H')(ry:RelV y u)(rv:RelV v r)(h:∀s',Inv X pins σ H' s'->Q () s'):
  wpAny (model X.prog X.w) A (setItem (.ref a) u r) Q E s:=by
 rcases g with⟨kvs,k,e,ey,l,eH⟩| ⟨kvs,k,b,e,ey,eb,l,eH⟩
 ·subst ey eH;obtain⟨z,hd,vs,rel,dd⟩:=A3l I.hok e;have hz:vs.length<=sizeLine:=by rw [←rel.length];exact z
  have hl:(eV kvs k v).length<=sizeLine:=by have:=uZ kvs k v;omega
  refine wpAny_setItem_pairs (hsz:=hz) (vL ry) dd fun h' dd' hs=>h _ ?_;have he:∃q,h'.get? a=some q:=let ⟨q,_,_,hq,_⟩:=dd';⟨q,hq⟩;exact uO I (by rw [e];exact True.intro) hs he (A2u hl hd (rel.put k rv) dd')
 ·subst ey eH;cases (show u=Value.ref b from ry);obtain⟨z,hd,xs,rel,dd⟩:=A0f I.hok e;have hz:xs.length<=sizeLine:=by rw [←Paired.length rel];exact z
  have hl:(eV kvs k v).length<=sizeLine:=by have:=uZ kvs k v;omega
  refine wpAny_setItem_heap (hsz:=hz) (tupleKind_room_in1 hu) (wR I.hok eb) dd fun h' dd' hs=>h _ ?_;obtain⟨q,es,ep,hq,h2,h3,h4,_,h5⟩:=dd';refine uO I (by rw [e];exact True.intro) hs ⟨q,hq⟩ ⟨hl,hd,_,(rel.put k eb rv).keeps fun c ys ec=> ?_,q,es,ep,hq,h2,h3,h4,h5⟩;rw [aY (rQ ec e (fun z=>nomatch z))];exact ec
end
section
variable {X:Cx}{pins:List (Addr×Obj)}{σ:St}{H:Hp}{s:Shared}{a:Addr}{kvs:List (Key×V)}{k:Key}{u:Value}{A:Around}{E:Value->Shared->Prop}
end
def A2c (td ty tv:TE):TS:=fun D σ H=>tv σ H fun v H1=>td σ H1 fun x H2=>ty σ H2 fun y H3=> ∃a H4,x= .ref a/\DPut H3 a y v H4/\D.nx σ H4
section
variable {X:Cx}{o i e value:Expr}{pos pos' tpos:Pos}{td ty tv:TE}
theorem A9e (hu:X.A.units+1<cLine)(ho:PE X o td)(hi:PE X i ty)(hv:PE X value tv)(hs:swapsWith value (some (.Subscript o i pos')) pos.line X.env=pure false):
  PS X (.Assign [.Subscript o i pos'] value pos) (A2c td ty tv):=by
 intro pins s σ H D I h;refine wpAny_Assign_Subscript (thn (hv pins s σ H _ I h) fun r s1 ⟨v,H1,I1,rv,q1⟩=>thn (ho pins s1 σ H1 _ I1 q1) fun u s2 ⟨x,H2,I2,rx,q2⟩=>thn (hi pins s2 σ H2 _ I2 q2) fun iv s3 ⟨y,H3,I3,ry,a,H4,ex,g,q3⟩=> ?_) hs;subst ex;obtain rfl:u=Value.ref a:=rx;exact A3b hu I3 g ry rv fun s4 I4=> ⟨σ,H4,I4,q3⟩
end
theorem A8g {P:Program}{w:World}{H:Hp}(h:Heap)(hb:sysModules<h.objs.size):ObjOk P w H (h.push {cls:=.type "dict",data:=.dict #[]}) h.objs.size (.dT []):=
 ⟨zero_le _,beq_eq_false_iff_ne.mpr (Ne.symm (ne_of_lt hb)),[],.nil,_,#[],0,get?_push_size _ rfl,⟨rfl,rfl,rfl⟩,rfl,rfl,nodup_nil⟩
def A06:TE:=fun _ H Q=> ∀p,H p=none->Q (.ref p) (upd H p (.dT []))
section
variable {X:Cx}{pos:Pos}
theorem A0x:PE X (.Dict [] [] pos) A06:=fun pins s σ H Q I h=>
 wpAny_Dict_empty ⟨.ref s.heap.objs.size,_,I.laid (a:=s.heap.objs.size) (o:=.dT []) (t':=s.toks) (fun _ _ q=>zjX _ q) (zjQ _) (A8g s.heap I.big),rfl,h _ (I.hok.fresh (zjQ _))⟩
end
end L2
set_option maxHeartbeats 4000000
namespace L2
open PySem PySem.Spec PyProof.Rows
structure cV where
 cl:List (Str×Addr)
 C:Addr
 s:Shared
 H:Hp
 fp:List Addr
 pn:List (Addr×Obj)
def A2k (X:Cx)(N:List Str)(scope:Scope)(Z:cV):Cx where
 prog:=X.prog
 w:=X.w
 K:=X.K
 mg:=X.mg
 base:=X.base
 A:=X.A
 N:=N
 s₀:=Z.s
 H₀:=Z.H
 env:=compEnvC scope Z.cl Z.C X.env
 outer:=X.stack
 stack:=X.stack
 ex:=Z.fp
 fn:=fun _=>false
 calm:=X.calm
 pn:=Z.pn
 xe:=fun _ _=>False
def yK (ns:List (Str×NameKind))(N:List Str)(scope:Scope)(frees:List (Str×Nat)):Prop:=
 (∀x∈scope.names,x.2≠ .cell/\(x.2= .local->scope.names.lookup x.1=some .local)/\(x.2= .free->ns.lookup x.1=some .cell\/ns.lookup x.1=some .free))/\
 ∀p∈frees,N[p.2]?=some p.1/\scope.names.lookup p.1=some .free/\(ns.lookup p.1=some .cell\/ns.lookup p.1=some .free)
instance (ns:List (Str×NameKind)) (N:List Str) (scope:Scope) (frees:List (Str×Nat)):Decidable (yK ns N scope frees):=by unfold yK;infer_instance
def σC (n:Nat)(frees:List (Str×Nat))(σ:St):St:=List.replicate n none++frees.map fun p=>(σ[p.2]?).join
theorem A2g (hf:∀x∈scope.names,x.2= .free->∃c,env.cells.lookup x.1=some c):
  ∃cl,closureFor scope env=pure cl/\(∀x c,cl.lookup x=some c->env.cells.lookup x=some c)/\∀x,(x,NameKind.free)∈scope.names->∃c,cl.lookup x=some c:=by
 have go:∀(names:List (Str×NameKind))(cs:List (Str×Addr)),(∀x∈names,x.2= .free->∃c,env.cells.lookup x.1=some c)->(∀x c,cs.lookup x=some c->env.cells.lookup x=some c)->
   ∃cl,(forIn names cs (fun(x:Str×NameKind) (r:List (Str×Addr))=>(if (x.2==NameKind.free)=true then(do let a←cellOf env x.1;pure (ForInStep.yield ((x.1,a)::r)))else pure (ForInStep.yield r):Sem (ForInStep (List (Str×Addr))))))=pure cl/\
    (∀x c,cl.lookup x=some c->env.cells.lookup x=some c)/\(∀x c,cs.lookup x=some c->∃c',cl.lookup x=some c')/\∀x,(x,NameKind.free)∈names->∃c,cl.lookup x=some c:=by
  intro names
  induction names with
  |nil=>intro cs _ h;exact⟨cs,rfl,h,fun x c e=> ⟨c,e⟩,fun x hx=>nomatch hx⟩
  |cons y r ih=>
   intro cs hf h;obtain⟨n,k⟩:=y;have hr:∀x∈r,x.2= .free->∃c,env.cells.lookup x.1=some c:=fun x hx=>hf x (zjS _ hx);by_cases hk:k= .free
   ·subst hk;obtain⟨c,hc⟩:=hf (n,.free) zjR rfl;have h2:∀x c',((n,c)::cs).lookup x=some c'->env.cells.lookup x=some c':=fun x c' e=>by
     rw [lookup_cons]at e;cases hx:x==n with
     |true=>
      rw [hx]at e;have:x=n:=eq_of_beq hx;cases e;rw [this];exact hc
     |false=>rw [hx]at e;exact h x c' e
    obtain⟨cl,e1,e2,e3,e4⟩:=ih ((n,c)::cs) hr h2;refine⟨cl,?_,e2,fun x c' e=> ?_,fun x hx=> ?_⟩
    ·rw [forIn_cons];have:cellOf env n=pure c:=by unfold cellOf;rw [hc]
     simp only [beq_self_eq_true,if_true,this,pure_bind];exact e1
    ·cases hx:x==n with
     |true=>exact e3 x c (by rw [lookup_cons,hx])
     |false=>exact e3 x c' (by rw [lookup_cons,hx];exact e)
    ·rcases mem_cons.mp hx with z|z
     ·cases z;exact e3 n c (by rw [lookup_cons,beq_self_eq_true])
     ·exact e4 x z
   ·obtain⟨cl,e1,e2,e3,e4⟩:=ih cs hr h;refine⟨cl,?_,e2,e3,fun x hx=> ?_⟩
    ·rw [forIn_cons];have hb:(k==NameKind.free)=false:=by simpa using hk
     simp only [hb,Bool.false_eq_true,if_false,pure_bind];exact e1
    ·rcases mem_cons.mp hx with z|z
     ·cases z;exact absurd rfl hk
     ·exact e4 x z
 obtain⟨cl,e1,e2,_,e4⟩:=go scope.names [] hf (fun x c e=>by simp at e);refine⟨cl,?_,e2,e4⟩;unfold closureFor
 first
  | (rw [e1];rfl)
  | (simp only [e1];rfl)
  |simp [e1]
theorem tY {env:Env}:∀{names:List (Str×NameKind)}{x:Str},names.lookup x=some .free->
  (names.map fun(n,k)=>if (k==NameKind.free&&env.scope.kind== .function&&env.kindOf n==some .cell)then(n,NameKind.cell)else(n,k)).lookup x=some .cell\/
  (names.map fun(n,k)=>if (k==NameKind.free&&env.scope.kind== .function&&env.kindOf n==some .cell)then(n,NameKind.cell)else(n,k)).lookup x=some .free
 | [],_,h=>by simp at h
 | (n,k)::r,x,h=>by
  have ih:=@tY env r x;show lookup x ((if (k==NameKind.free&&env.scope.kind== .function&&env.kindOf n==some .cell)=true then(n,NameKind.cell)else(n,k))::_)=_\/lookup x ((if (k==NameKind.free&&env.scope.kind== .function&&env.kindOf n==some .cell)=true then(n,NameKind.cell)else(n,k))::_)=_;cases hx:x==n with
  |true=>
   simp only [lookup_cons,hx]at h;cases h;by_cases hc:(NameKind.free==NameKind.free&&env.scope.kind== .function&&env.kindOf n==some .cell)=true
   ·rw [if_pos hc];left;rw [lookup_cons,hx]
   ·rw [if_neg hc];right;rw [lookup_cons,hx]
  |false=>
   simp only [lookup_cons,hx]at h;by_cases hc:(k==NameKind.free&&env.scope.kind== .function&&env.kindOf n==some .cell)=true
   ·rw [if_pos hc];simp only [lookup_cons,hx];exact ih h
   ·rw [if_neg hc];simp only [lookup_cons,hx];exact ih h
theorem relabel_back {env:Env}:∀{names:List (Str×NameKind)}{x:Str},
    ((names.map fun(n,k)=>if (k==NameKind.free&&env.scope.kind== .function&&env.kindOf n==some .cell)then(n,NameKind.cell)else(n,k)).lookup x=some .cell\/
     (names.map fun(n,k)=>if (k==NameKind.free&&env.scope.kind== .function&&env.kindOf n==some .cell)then(n,NameKind.cell)else(n,k)).lookup x=some .free)->
    (x,NameKind.free)∈names\/(x,NameKind.cell)∈names
  | [],_,h=>by simp at h
  | (n,k)::r,x,h=>by
    have ih:=@relabel_back env r x;replace h:lookup x ((if (k==NameKind.free&&env.scope.kind== .function&&env.kindOf n==some .cell)=true then(n,NameKind.cell)else(n,k))::_)=_\/lookup x ((if (k==NameKind.free&&env.scope.kind== .function&&env.kindOf n==some .cell)=true then(n,NameKind.cell)else(n,k))::_)=_:=h;cases hx:x==n with
    |true=>
      have e:x=n:=eq_of_beq hx;subst e;by_cases hc:(k==NameKind.free&&env.scope.kind== .function&&env.kindOf x==some .cell)=true
      · have:k= .free:=by
          simp only [Bool.and_eq_true]at hc;exact eq_of_beq hc.1.1
        subst this;exact .inl zjR
      · rw [if_neg hc]at h
        simp only [lookup_cons,hx,Option.some.injEq]at h;rcases h with h|h
        · subst h;exact .inr zjR
        · subst h;exact .inl zjR
    |false=>
      have h':_:=h;by_cases hc:(k==NameKind.free&&env.scope.kind== .function&&env.kindOf n==some .cell)=true
      · rw [if_pos hc]at h;simp only [lookup_cons,hx]at h
        rcases ih h with z|z
        · exact .inl (zjS _ z)
        · exact .inr (zjS _ z)
      · rw [if_neg hc]at h;simp only [lookup_cons,hx]at h
        rcases ih h with z|z
        · exact .inl (zjS _ z)
        · exact .inr (zjS _ z)
section
end
abbrev TC:=St->Hp->(St->Hp->Prop)->Prop
def cP (J:It)(g:TG)(tb:TS)(D:dH)(σ:St)(H:Hp):Prop:=∃W:Nat->Nat->St->Hp->Prop,(∃m,W 0 m σ H)/\∀i m σ H,W i m σ H->
 (J.stop i H/\D.nx σ H)\/(J.go i H/\∃N:St->Hp->Prop,(∀σ' H',N σ' H'->∃m',m'<m/\W (i+1) m' σ' H')/\∀x H',J.yld i H x H'->g x σ H' fun σ2 H2=>tb {D with nx:=N,ct:=N,bk:=D.nx} σ2 H2)
def eC (Q:St->Hp->Prop):dH:={nx:=Q,rt:=fun _ _=>False}
def cK (tt:TT)(tb:TC):TS:=fun D σ H=>tt σ H fun b H1=>if b=true then tb σ H1 D.nx else D.nx σ H1
def dO (l:Addr)(te:TE):TC:=fun σ H Q=>te σ H fun v H1=> ∃xs,H1 l=some (.lst xs)/\xs.length<sizeLine/\Q σ (upd H1 l (.lst (xs++[v])))
def nB (wi:TI)(g:TG)(tt:TT)(tb:TC):TC:=fun σ H Q=>wi σ H fun J H1=>cP J g (cK tt tb) (eC Q) σ H1
def uJ (wi:TI)(g:cV->TG)(tt:cV->TT)(te:cV->TE)(n:Nat)(frees:List (Str×Nat)):TE:=fun σ H Q=>wi σ H fun J H1=> ∀(Z:cV)(l:Addr),H1 l=none->
 cP J (g Z) (cK (tt Z) (dO l (te Z))) (eC fun _ H'=>Q (.ref l) H') (σC n frees σ) (upd H1 l (.lst []))
def A8i (wi:TI)(g:cV->TG)(tt:cV->TT)(wi2:cV->TI)(g2:cV->TG)(tt2:cV->TT)(te:cV->TE)(n:Nat)(frees:List (Str×Nat)):TE:=fun σ H Q=>wi σ H fun J H1=> ∀(Z:cV)(l:Addr),H1 l=none->
 cP J (g Z) (cK (tt Z) (nB (wi2 Z) (g2 Z) (tt2 Z) (dO l (te Z)))) (eC fun _ H'=>Q (.ref l) H') (σC n frees σ) (upd H1 l (.lst []))
def testsOf (ifs:List Expr)(env:Env):Sem Bool:=forIn ifs true fun c r=>if r=true then do let ok←isTrue c env (eval c env);pure (ForInStep.yield ok)else pure (ForInStep.yield r)
def PTs (Y:Cx)(ifs:List Expr)(t:TT):Prop:=∀(pins:List (Addr×Obj))(s:Shared)(σ:St)(H:Hp)(Q:Bool->Hp->Prop),Inv Y pins σ H s->t σ H Q->
 wpAny (model Y.prog Y.w) Y.A (testsOf ifs Y.env) (TP Y pins σ Q) Y.xe s
def fL:TT:=fun _ H Q=>Q true H
theorem cB:PTs Y [] fL:=fun pins s σ H Q I h=>wpAny_tests_nil ⟨H,I,h⟩
theorem eT (hc:PT Y c t):PTs Y [c] t:=fun pins s σ H Q I h=>wpAny_tests_one (hc pins s σ H Q I h)
def PB (Y:Cx)(tail:(Unit->Sem Fin)->Sem Fin)(r:TC):Prop:=∀(pins:List (Addr×Obj))(s:Shared)(σ:St)(H:Hp)(Q:St->Hp->Prop)(Q':Fin->Shared->Prop)(k:Unit->Sem Fin),Inv Y pins σ H s->r σ H Q->
 (∀σ' H' s',Inv Y pins σ' H' s'->Q σ' H'->wpAny (model Y.prog Y.w) Y.A (k ()) Q' (fun _ _=>False) s')->wpAny (model Y.prog Y.w) Y.A (tail k) Q' (fun _ _=>False) s
theorem iQ (h:wpAny M A t Q E s)(hx:E=fun _ _=>False):wpAny M A t Q E' s:=by subst hx;exact wpAny_mono h (fun _ _ q=>q) fun _ _ z=>z.elim
def rX (elt:Expr)(acc:Value)(env:Env)(k:Unit->Sem Fin):Sem Fin:=(eval elt env>>=fun x=>call (.builtin "list.append") [acc,x]>>=fun _=>pure ())>>=k
theorem qF (hx:Y.xe=fun _ _=>False)(he:PE Y elt te):PB Y (rX elt (.ref l) Y.env) (dO l te):=by intro pins s σ H Q Q' k I h hk;refine zjZ (zjZ (thn (iQ (he pins s σ H _ I h) hx) fun v s1 ⟨x,H1,I1,r1,q1⟩=> ?_));obtain⟨xs,e,hz,q⟩:=q1;refine zjZ (thn (iQ (mF pins s1 σ H1 (.ref l) [x] (.ref l) [v] (fun _ H2=>Q σ H2) I1 rfl (.cons r1 .nil) ⟨l,xs,x,rfl,rfl,e,hz,q⟩) hx) fun u s2 ⟨y,H2,I2,r2,q2⟩=> ?_);exact zjY (hk σ H2 s2 I2 q2)
def kM (e:Expr)(d:Nat)(it acc:Value)(env:Env)(tg iter:Expr)(ifs:List Expr)(tail:(Unit->Sem Fin)->Sem Fin):Sem Fin:=
 standAt iter.pos>>=fun _=>pyNext it>>=fun r=>match r with
  |none=>pure (.done .next)
  |some v=>letOwnedTupleGo tg it v>>=fun _=>assign tg env v>>=fun _=>testsOf ifs env>>=fun ok=>
   if ok=true then tail (fun _=>again (.compLoop e d it acc env))else again (.compLoop e d it acc env)
theorem yR (elt tg iter:Expr)(ifs:List Expr)(scope:Scope)(pos:Pos)(it acc:Value)(env:Env):
  compTurn (.ListComp elt [⟨tg,iter,ifs,0⟩] scope pos) 0 it acc env=kM (.ListComp elt [⟨tg,iter,ifs,0⟩] scope pos) 0 it acc env tg iter ifs (rX elt acc env):=by rfl
theorem A02 (elt tg iter:Expr)(ifs:List Expr)(g:Comprehension)(scope:Scope)(pos:Pos)(it acc:Value)(env:Env):
  compTurn (.ListComp elt [g,⟨tg,iter,ifs,0⟩] scope pos) 1 it acc env=kM (.ListComp elt [g,⟨tg,iter,ifs,0⟩] scope pos) 1 it acc env tg iter ifs (rX elt acc env):=by rfl
def oP (e:Expr)(iter:Expr)(acc:Value)(env:Env)(k:Unit->Sem Fin):Sem Fin:=
 eval iter env>>=fun x=>standAt iter.pos>>=fun _=>foldedSetIterable iter env x>>=fun x=>holding [x] (pyIter x)>>=fun i=>runOwn (.compStart e 1 i acc env) env>>=fun _=>k ()
theorem A0w (elt tg iter tg2 iter2:Expr)(ifs ifs2:List Expr)(scope:Scope)(pos:Pos)(it acc:Value)(env:Env):
  compTurn (.ListComp elt [⟨tg,iter,ifs,0⟩,⟨tg2,iter2,ifs2,0⟩] scope pos) 0 it acc env=kM (.ListComp elt [⟨tg,iter,ifs,0⟩,⟨tg2,iter2,ifs2,0⟩] scope pos) 0 it acc env tg iter ifs
   (oP (.ListComp elt [⟨tg,iter,ifs,0⟩,⟨tg2,iter2,ifs2,0⟩] scope pos) iter2 acc env):=by rfl
section
theorem mM
  (hx:Y.xe=fun _ _=>False)(hc:Y.calm=true)(heq:compTurn (.ListComp elt gens scope pos) d (.ref it) (.ref l) Y.env=kM (.ListComp elt gens scope pos) d (.ref it) (.ref l) Y.env tg iter ifs tail)(hg:PG Y tg g)(ht:PTs Y ifs tt)(hb:PB Y tail tb)
  (I:Inv Y pins σ H s)(T:fQ Y.prog Y.w Y.K tg J fp it tn)(st:tn 0 s.heap)(f2:∀b∈fp,eK Y pins H b)(h:cP J g (cK tt tb) (eC Q) σ H):
  codeAny (model Y.prog Y.w) Y.A (.compLoop (.ListComp elt gens scope pos) d (.ref it) (.ref l) Y.env) (fun r s'=>r= .ok .next/\∃σ' H',Inv Y pins σ' H' s'/\Q σ' H') s:=by
 obtain⟨W,⟨m0,w0⟩,turn⟩:=h;have stat:∀{H':Hp},(∀b∈fp,H' b=none)->∀b∈fp,eK Y pins H' b:=fun hn b hb=> ⟨hn b hb,(f2 b hb).2⟩;refine codeAny_loop rfl (fun n s'=> ∃i σ' H',Inv Y pins σ' H' s'/\tn i s'.heap/\(∀b∈fp,H' b=none)/\W i n σ' H') (fun n s3 hI=> ?_) m0 ⟨0,σ,H,I,st,fun b hb=>(f2 b hb).1,w0⟩;obtain⟨i,σ3,H3,I3,st3,fr3,w3⟩:=hI
 show wpAny _ Y.A ((compTurn (.ListComp elt gens scope pos) d (.ref it) (.ref l) Y.env).onRaise (fun x=>do noteFrame x Y.env;theTreesLotGoes x)) _ _ s3;refine wpAny_noted ?_;rw [heq];unfold kM;refine zjZ (wpAny_standAt (zjZ ?_));rcases turn i n σ3 H3 w3 with⟨stop,qn⟩| ⟨go,N,hN,step⟩
 ·refine thn (T.done Y rfl rfl rfl hc i pins s3 σ3 H3 _ I3 (stat fr3) st3 stop) fun r s4 ⟨hr,I4⟩=> ?_;subst hr;exact zjY ⟨rfl,σ3,H3,I4,qn⟩
 ·refine thn (T.item Y rfl rfl rfl hc i pins s3 σ3 H3 _ I3 (stat fr3) st3 go) fun r s4 ⟨u,hr,h4⟩=> ?_;subst hr;refine zjZ (thn h4 fun _ s5 ⟨x,H5,I5,r5,y5,st5,fr5⟩=> ?_);have I5':=I5.pinned (stat fr5) (T.obj _ _ st5);refine zjZ (thn (iQ (hg _ s5 σ3 H5 x u _ I5' r5 (step x H5 y5)) hx) fun _ s6 ⟨σ6,H6,I6,q6⟩=> ?_);refine zjZ (thn (iQ (ht _ s6 σ6 H6 _ I6 q6) hx) fun ok s7 ⟨H7,I7,q7⟩=> ?_);have again:∀{σ7:St}{H7:Hp}{s7:Shared},Inv Y (pins++kZ fp s5.heap) σ7 H7 s7->N σ7 H7->∃m,m<n/\∃i σ' H',Inv Y pins σ' H' s7/\tn i s7.heap/\(∀b∈fp,H' b=none)/\W i m σ' H':=fun{σ7 H7 s7} I7 n7=>by
   obtain⟨m',hm,w7⟩:=hN σ7 H7 n7;refine⟨m',hm,i+1,σ7,H7,I7.unpinned,T.keep _ _ _ st5 fun b hb o e=>(I7.pin (b,o) (mem_append_right _ (mem_append_right _ (lS hb e)))).1,fun b hb=> ?_,w7⟩;obtain⟨o,e,d⟩:=T.obj _ _ st5 b hb;exact(I7.pin (b,o) (mem_append_right _ (mem_append_right _ (lS hb e)))).2.1
  cases ok with
  |false=>
   rw [if_neg Bool.false_ne_true]at q7⊢;exact zjY ⟨rfl,again I7 q7⟩
  |true=>
   rw [if_pos rfl]at q7⊢;exact iQ (hb _ s7 σ6 H7 _ _ _ I7 q7 fun σ8 H8 s8 I8 q8=>zjY ⟨rfl,again I8 q8⟩) rfl
theorem A10
  (h0:codeAny (model prog w) A (.compLoop (.ListComp elt [g,⟨target,iter,ifs,0⟩] scope pos) 1 it acc env) R s)
  (h:wpAny (model prog w) A (pyIter it) (fun it' s'=>codeAny (model prog w) A (.compLoop (.ListComp elt [g,⟨target,iter,ifs,0⟩] scope pos) 1 it' acc env) R s')
   (notedBy (model prog w) A env fun x s'=>R (.error x) s') s):
  codeAny (model prog w) A (.compStart (.ListComp elt [g,⟨target,iter,ifs,0⟩] scope pos) 1 it acc env) R s:=by
 refine codeAny_of_tree ?_
 show wpAny _ _ ((compStart (.ListComp elt [g,⟨target,iter,ifs,0⟩] scope pos) 1 it acc env).onRaise (fun x=>do noteFrame x env;standAt theWindowsPlace)) _ _ s;refine wpAny_notedAt ?_;unfold compStart;show wpAny _ _ (ask>>=_) _ _ s;refine zjZ (wpAny_askSetting (wpAny_ite ?_))
 split
 ·first
   |exact zjZ (zjY (zjY (And.intro rfl h0)))
   |exact zjY (And.intro rfl h0)
 ·first
   |exact zjZ (wpAny_rule (zjZ (wpAny_standAt (zjZ (wpAny_mono h (fun it' s' h'=>zjY (And.intro rfl h')) fun _ _ x=>x)))))
   | (refine zjZ (wpAny_rule ?_);show wpAny _ _ (standAt iter.pos>>=_) _ _ s;exact zjZ (wpAny_standAt (zjZ (wpAny_mono h (fun it' s' h'=>zjY (And.intro rfl h')) fun _ _ x=>x))))
theorem A03 (hx:Y.xe=fun _ _=>False)(hc:Y.calm=true)(hi:PI Y tg iter wi)(hg:PG Y tg g)(ht:PTs Y ifs tt)(he:PE Y elt te)
  (hs:∀x,foldedSetIterable iter Y.env x=pure x:=by intro _;rfl):
  PB Y (oP (.ListComp elt [g1,⟨tg,iter,ifs,0⟩] scope pos) iter (.ref l) Y.env) (nB wi g tt (dO l te)):=by
 intro pins s σ H Q Q' k I h hk;unfold oP;refine zjZ (thn (iQ (hi pins s σ H _ I h) hx) fun v s1 h1=> ?_);refine zjZ (wpAny_standAt (zjZ (wpAny_of_eq (hs v) (zjZ (wpAny_holding (thn (iQ h1 hx) fun itv s2 h2=> ?_))))));obtain⟨it,fp,tn,J,H2,e,I2,T,st2,f2,q2⟩:=h2;subst e;have L:codeAny (model Y.prog Y.w) Y.A (.compLoop (.ListComp elt [g1,⟨tg,iter,ifs,0⟩] scope pos) 1 (.ref it) (.ref l) Y.env) (fun r s'=>r= .ok .next/\∃σ' H',Inv Y pins σ' H' s'/\Q σ' H') s2:=
  mM hx hc (A02 ..) hg ht (qF hx he) I2 T st2 f2 q2
 refine zjZ (wpAny_runOwn (codeAny_mono (A10 L (T.self _ _ _ _ _ st2 L)) fun r s3 h3=> ?_));obtain⟨rfl,σ3,H3,I3,q3⟩:=h3;exact hk σ3 H3 s3 I3 q3
end
section
end
end L2
namespace PySem
open Sem (wp)
open AutoSeq1 (wpAny_loadPart')
section
theorem A7o (hit:s.heap.IsTupleIter it l i)
  (hl:s.heap.IsTuple l items)(hx:items[i]?=some x)
  (hQ:∀h',h'.IsTupleIter it l (i+1)->Heap.SameBut it s.heap h'->Q x {s with heap:=h'}):
  wpAny (model prog w) A (Builtin.SmallTypes.nextOf (.ref it)) Q E s:=by
 obtain⟨o,ho,hc,hd⟩:=id hit;obtain⟨ol,hol,_,nl,hdl⟩:=hl;unfold Builtin.SmallTypes.nextOf;refine zjZ (wpAny_callSpecial?_slot (name:=Str.ofString "__next__") hit.typeIs F.slot_tuple_iterator_next
  (wpAny_call_entry F.slot_tuple_iterator_next hit.typeIs F.entry_tuple_iterator_next ?_ (F.args_tuple_iterator_next_1 _)))
 show wpAny _ _ (field (.ref it) 0>>=_) _ _ s;refine zjZ (wpAny_field ho hd (x:=.ref l) rfl ?_);show wpAny _ _ (if (Value.ref l==Value.none)=true then _ else _) _ _ s;rw [if_neg (show¬((Value.ref l==Value.none)=true)from Bool.false_ne_true)];show wpAny _ _ (field (.ref it) 1>>=_) _ _ s;refine zjZ (wpAny_field ho hd (x:=.int i 0) rfl ?_);show wpAny _ _ (seqItems? (.ref l)>>=_) _ _ s;refine zjZ (wpAny_seqItems hol hdl ?_);simp only [Int.toNat_natCast,hx];refine zjZ (wpAny_setField ho hd (by simp) (zjY ⟨x,rfl,zjY (hQ _ ?_ (Heap.SameBut.update ..))⟩));exact⟨_,get?_update_self _ ho (Obj.isFreed_of_fields (Obj.data_mapFields hd _)),(Obj.cls_mapFields ..).trans hc,by
  rw [Obj.data_mapFields hd];simp [rawInt]⟩
theorem A8k (hh:A.handled=none)
  (hit:s.heap.IsTupleIter it l i)(hl:s.heap.IsTuple l items)(hx:items[i]?=none)
  (hE:∀h' e,Heap.ExtBut it s.heap h'->(∃o,h'.get? e=some o/\o.cls= .type "StopIteration")->E (.ref e) {s with heap:=h'}):
  wpAny (model prog w) A (Builtin.SmallTypes.nextOf (.ref it)) Q E s:=by
 obtain⟨o,ho,hc,hd⟩:=id hit;obtain⟨ol,hol,_,nl,hdl⟩:=hl;unfold Builtin.SmallTypes.nextOf;refine zjZ (wpAny_callSpecial?_slot (name:=Str.ofString "__next__") hit.typeIs F.slot_tuple_iterator_next
  (wpAny_call_entry F.slot_tuple_iterator_next hit.typeIs F.entry_tuple_iterator_next ?_ (F.args_tuple_iterator_next_1 _)))
 show wpAny _ _ (field (.ref it) 0>>=_) _ _ s;refine zjZ (wpAny_field ho hd (x:=.ref l) rfl ?_);show wpAny _ _ (if (Value.ref l==Value.none)=true then _ else _) _ _ s;rw [if_neg (show¬((Value.ref l==Value.none)=true)from Bool.false_ne_true)];show wpAny _ _ (field (.ref it) 1>>=_) _ _ s;refine zjZ (wpAny_field ho hd (x:=.int i 0) rfl ?_);show wpAny _ _ (seqItems? (.ref l)>>=_) _ _ s;refine zjZ (wpAny_seqItems hol hdl ?_);simp only [Int.toNat_natCast,hx];refine zjZ (wpAny_rule (zjZ (wpAny_setField ho hd (by simp) ?_)));show wpAny _ _ (newExc (.type "StopIteration") []>>=_) _ _ _;refine zjZ ?_;simp only [newExc,newTuple];refine zjZ (wpAny_newObj_type ?_ (by size_fits));refine zjZ (m:=firstArgMember _ _) (wpAny_of_eq (a:=Value.none) (by first|rfl| (simp only [firstArgMember];rfl)) ?_);refine wpAny_newObj_type ?_ (by size_fits);simp only [raiseNew];refine zjZ (wpAny_handled ?_)
 first|rw [show A.in1.handled=none from hh]|rw [hh]
 refine zjZ (zjY (wpAny_throw ?_));exact hE _ _ (((Heap.SameBut.update ..).extBut.push _).push _) ⟨_,get?_push_size _ rfl,rfl⟩
end
theorem Draws.tuple (hh:A.handled=none)(it l:Addr)(hne:l≠it)(items:Array Value):
  Draws prog w A it [it,l] items.size (fun i v=>items[i]?=some v) (fun i h=>h.IsTupleIter it l i/\h.IsTuple l items)where
 live:=fun _ _ st=>let ⟨o,ho,_⟩:=st.1;⟨o,ho⟩
 frame:=fun _ _ _ st hk=> ⟨st.1.at fun o e=>hk it (by simp) o e,let ⟨o,ho,r⟩:=st.2;⟨o,hk l (by simp) o ho,r⟩⟩
 item:=fun i s Q E hi st hQ=>by
  refine A7o st.1 st.2 (x:=items[i]) (by simp [hi]) fun h' hit' hs'=> ?_;exact hQ _ h' s.toks (by simp [hi]) ⟨hit',let ⟨o,ho,r⟩:=st.2;⟨o,(hs'.2 l hne).trans ho,r⟩⟩ hs'
 done:=fun s Q E st hE=>A8k hh st.1 st.2 (by simp) hE
theorem A1z (l:Addr)(items:Array Value)(n:Nat)(dct:Option Addr)(sl:Array (Option Value)):
  Meets (Builtin.«enumerate.__new__» ⟨[.type "enumerate",.ref l],[]⟩) (fun _ R s=>s.heap.get? l=some {cls:=.type "tuple",dict:=dct,data:=.seq items n,slots:=sl}/\
   R (.ok (.ret (.ref (s.heap.push {cls:=.type "tuple_iterator",data:=.fields #[.ref l,.int 0 0]}).objs.size)))
    {s with heap:=(s.heap.push {cls:=.type "tuple_iterator",data:=.fields #[.ref l,.int 0 0]}).push {cls:=.type "enumerate",data:=.fields #[.none,.bool false,.ref s.heap.objs.size,rawInt 0,.none,.none]}}):=
 .of_wp fun prog w A R s h=>by
  obtain⟨hp,g,d,tk,os⟩:=s;obtain⟨hl,h⟩:=h;have hsub:=sub_enumerate;have hL:Heap.IsTuple (Shared.heap ⟨hp,g,d,tk,os⟩) l items:=⟨_,hl,rfl,n,rfl⟩
  wp_walk using wpAny_loadPart' hl
  refine wpAny_stack_any fun st=>zjY ?_
  split
  ·rename_i c _ _ _ _ _;cases (c==Value.type "enumerate")
   ·wp_walk using wpAny_loadPart' hl,wpAny_pyIter_tuple hL
    exact⟨_,rfl,h⟩
   ·wp_walk using wpAny_loadPart' hl,wpAny_pyIter_tuple hL
    exact⟨_,rfl,h⟩
  ·wp_walk using wpAny_loadPart' hl,wpAny_pyIter_tuple hL
   exact⟨_,rfl,h⟩
section
theorem A4w (hL:s.heap.IsTuple l items)
  (h:∀h',IsEnum h' (s.heap.objs.size+1) s.heap.objs.size 0 .none->h'.IsTupleIter s.heap.objs.size l 0->h'.objs.size=s.heap.objs.size+2->
   (∀b o,s.heap.get? b=some o->h'.get? b=some o)->Q (.ref (s.heap.objs.size+1)) {s with heap:=h'}):
  wpAny (model prog w) A (call (.type "enumerate") [.ref l]) Q E s:=by
 obtain⟨⟨c,dct,dt,sl⟩,hl,hc,n,hd⟩:=hL;replace hc:c= .type "tuple":=hc;replace hd:dt= .seq items n:=hd;subst hc hd;refine callType_new F.called_enumerate (by decide) (F.typeCall_enumerate_1 _) (F.newCall_enumerate_1 _) (fun obj=>F.args_object_init_2 obj _) F.entry_enumerate_new
  (A1z l items n dct sl) ⟨hl,?_⟩
 have hz:(s.heap.push {cls:=.type "tuple_iterator",data:=.fields #[.ref l,.int 0 0]}).objs.size=s.heap.objs.size+1:=size_push ..;show _/\_;rw [hz];have he:IsEnum ((s.heap.push {cls:=.type "tuple_iterator",data:=.fields #[.ref l,.int 0 0]}).push
   {cls:=.type "enumerate",data:=.fields #[.none,.bool false,.ref s.heap.objs.size,rawInt 0,.none,.none]}) (s.heap.objs.size+1) s.heap.objs.size 0 .none:=by
  have:=get?_push_size (s.heap.push {cls:=.type "tuple_iterator",data:=.fields #[.ref l,.int 0 0]})
   (o:={cls:=.type "enumerate",data:=.fields #[.none,.bool false,.ref s.heap.objs.size,rawInt 0,.none,.none]}) rfl
  rw [hz]at this;exact this
 refine⟨⟨_,he,rfl⟩,h _ he ⟨_,zjX _ (get?_push_size _ rfl),rfl,rfl⟩ (by rw [size_push,hz]) fun b o x=>zjX _ (zjX _ x)⟩
end
open Builtin
open AutoSeq1 (wpAny_loadPart')
namespace F
end F
section
end
end PySem
namespace PySem
open Sem (wp)
open Builtin
open AutoSeq1 (wpAny_loadPart')
section
variable {prog:Program}{w:World}{K:Type} [DecidableEq K]{knd:KeyKind prog w K}{A:Around}{E:Value->Shared->Prop}{R:Result->Shared->Prop}
end
end PySem
namespace L2
open PySem PySem.Spec PyProof.Rows
section
theorem gT:dF X (.builtin "isinstance") (fun xs H Q=> ∃x T t b,xs=[x,.ty T]/\TyOf X.K H x t/\W.kitOne X.K t (.type T)=some b/\Q (.bl b) H):=by intro pins s σ H xs us Q I r h;obtain⟨x,T,t,b,rfl,ty,e,q⟩:=h;obtain⟨u,w',rfl,rx,rT⟩:=oF r;cases (show w'=Value.type T from rT);exact A1e I rx ty e fun tk=> ⟨.bl b,H,I.tok _,rfl,q⟩
theorem qQ:∀{bs:List Bool}{us:List Value},Vals (bs.map V.bl) us->LSm.BoolsAre us bs
 | [],_,.nil=> .nil
 |b::bs,_,.cons r t=>by
  cases (show _=Value.bool b from r);exact .cons b (qQ t)
end
section
theorem fE (hc:X.calm=true):dF X (.builtin "all") (fun xs H Q=> ∃(p:Addr)(bs:List Bool),xs=[.ref p]/\SqL X.K H p (bs.map V.bl)/\Q (.bl (bs.all id)) H):=by
 intro pins s σ H xs us Q I r h;obtain⟨p,bs,rfl,hq,q⟩:=h;obtain⟨u,rfl,rx⟩:=dJ r;cases rx;obtain⟨its,rv,pl,hz⟩:=I.list hq;have hb:=qQ rv;have hlt:p<s.heap.objs.size:=by obtain⟨_,e,_⟩:=pl.isList;exact zjT e
 refine call_all_walk (wpAny_pyIter_list pl.isList ?_);refine⟨s.heap.objs.size,[s.heap.objs.size,p],[s.heap.objs.size],its.toArray.size,_,_,fun i=>(bs[i]?).getD true,rfl,Walks.list (A:=X.A.in1) (by simp [I.ok.hd hc]) _ p (ne_of_lt hlt) its.toArray,⟨⟨_,get?_push_size _ rfl,rfl,rfl⟩,pl.isList.push _⟩,fun i v s' Q' E' hP hQ=> ?_,fun h' tk hk=> ?_⟩
 ·obtain⟨b,e,rfl⟩:=hb.get i v (by simpa using hP);dsimp only at hQ;rw [e]at hQ;exact wpAny_truthy_bool hQ
 ·have e:((List.range its.toArray.size).all fun i=>(bs[i]?).getD true)=bs.all id:=by rw [size_toArray,hb.length,LSm.range_all]
  rw [e];exact⟨.bl _,H,I.kept (h':=h') (t':=tk) (LSm.kept_iter hk),rfl,q⟩
theorem rG (hc:X.calm=true):dF X (.builtin "any") (fun xs H Q=> ∃(p:Addr)(bs:List Bool),xs=[.ref p]/\SqL X.K H p (bs.map V.bl)/\Q (.bl (bs.any id)) H):=by
 intro pins s σ H xs us Q I r h;obtain⟨p,bs,rfl,hq,q⟩:=h;obtain⟨u,rfl,rx⟩:=dJ r;cases rx;obtain⟨its,rv,pl,hz⟩:=I.list hq;have hb:=qQ rv;have hlt:p<s.heap.objs.size:=by obtain⟨_,e,_⟩:=pl.isList;exact zjT e
 refine call_any_walk (wpAny_pyIter_list pl.isList ?_);refine⟨s.heap.objs.size,[s.heap.objs.size,p],[s.heap.objs.size],its.toArray.size,_,_,fun i=>(bs[i]?).getD false,rfl,Walks.list (A:=X.A.in1) (by simp [I.ok.hd hc]) _ p (ne_of_lt hlt) its.toArray,⟨⟨_,get?_push_size _ rfl,rfl,rfl⟩,pl.isList.push _⟩,fun i v s' Q' E' hP hQ=> ?_,fun h' tk hk=> ?_⟩
 ·obtain⟨b,e,rfl⟩:=hb.get i v (by simpa using hP);dsimp only at hQ;rw [e]at hQ;exact wpAny_truthy_bool hQ
 ·have e:((List.range its.toArray.size).any fun i=>(bs[i]?).getD false)=bs.any id:=by rw [size_toArray,hb.length,LSm.range_any]
  rw [e];exact⟨.bl _,H,I.kept (h':=h') (t':=tk) (LSm.kept_iter hk),rfl,q⟩
theorem Inv.turnedL {fp:List Addr}{h':Heap}{t':Nat}(I:Inv X pins σ H s)(k:∀b o,b∉fp->s.heap.get? b=some o->h'.get? b=some o)(hf:∀b∈fp,eK X pins H b):Inv X pins σ H {s with heap:=h',toks:=t'}:=by
 have nfp:∀b u,H b=some u->b∉fp:=fun b u e z=>by rw [(hf b z).1]at e;cases e
 refine I.step (g':=s.gens) (d':=s.drawn) (ch:=fp) (fun b hb=> ⟨(hf b hb).2.2.2.1,(hf b hb).2.1,(hf b hb).2.2.2.2.1,(hf b hb).2.2.2.2.2⟩) (fun b o _ _ hc e _=>k b o hc e) (fun b o _ _ hc e _=> ⟨o.slots,k b o hc e⟩) (fun _ _ _ _ n=>n) (fun b o hc e=> ⟨o,k b o hc e⟩)
  (fun _ _ e=>e) (fun _ _ _ e=>e) (fun b ps e=> ⟨#[],by rw [e];simp⟩) (fun m hm=> ?_) (fun b u e=> ?_) I.bare
 ·obtain⟨o,es,ep,ho,r⟩:=hm;exact⟨o,es,ep,k _ o (fun z=>(hf _ z).2.1 rfl) ho,r⟩
 ·refine(I.hok b u e).stay (fun c v hc q=>k c v ?_ q) (fun _ q=>q) fun _ _ q=>q;rcases hc with z|z
  ·rw [z];exact nfp b u e
  ·exact nfp c _ z
theorem Inv.turnLaid {fp:List Addr}{h':Heap}{t':Nat}{p:Addr}{o:HO}(I:Inv X pins σ H s)(k:∀b u,b∉fp->s.heap.get? b=some u->h'.get? b=some u)(hf:∀b∈fp,eK X pins H b)(hp:s.heap.objs.size<=p)
  (new:ObjOk X.prog X.w (upd H p o) h' p o):Inv X pins σ (upd H p o) {s with heap:=h',toks:=t'}:=by
 have nfp:∀b u,H b=some u->b∉fp:=fun b u e z=>by rw [(hf b z).1]at e;cases e
 have hn:=I.hok.fresh hp;have old:∀{b:Addr}{u:Obj},s.heap.get? b=some u->b≠p:=fun e=>ne_of_lt (lt_of_lt_of_le (zjT e) hp);refine I.step (g':=s.gens) (d':=s.drawn) (ch:=fp) (fun b hb=> ⟨(hf b hb).2.2.2.1,(hf b hb).2.1,(hf b hb).2.2.2.2.1,(hf b hb).2.2.2.2.2⟩) (fun b o _ _ hc e _=>k b o hc e) (fun b o _ _ hc e _=> ⟨o.slots,k b o hc e⟩) (fun b o _ e n=>by rw [aY (old e)];exact n) (fun b o hc e=> ⟨o,k b o hc e⟩)
  (fun b xs e=>by rw [aY (bL e hn)];exact e) (fun b u xs e=>by rw [aY (bL e hn)];exact e) (fun b ps e=> ⟨#[],by rw [aY (bL e hn),e];simp⟩) (fun m hm=> ?_) (fun b u e=> ?_) I.bare
 ·obtain⟨o,es,ep,ho,r⟩:=hm;exact⟨o,es,ep,k _ o (fun z=>(hf _ z).2.1 rfl) ho,r⟩
 ·by_cases hb:b=p
  ·subst hb;rw [aG]at e;cases e;exact new
  ·rw [aY hb]at e;refine(I.hok b u e).stay (fun c v hc q=>k c v ?_ q) (fun c q=>by rw [aY (bL q hn)];exact q) fun c xs q=>by rw [aY (bL q hn)];exact q
   rcases hc with z|z
   ·rw [z];exact nfp b u e
   ·exact nfp c _ z
def Ite (S:Hp->List V->Prop):It:=
 ⟨fun i H=> ∃xs x,S H xs/\xs[i]?=some x,fun i H x H'=> ∃p y,x= .ref p/\H p=none/\H'=upd H p (.tup [.int i,y])/\∀xs,S H xs->xs[i]?=some y,fun i H=> ∃xs,S H xs/\xs.length=i⟩
theorem A4m {P:Program}{w:World}{K:W.Frag}{es:List Expr}{x1}{pos:Pos}(e it a:Addr)(hei:e≠it):
  fQ P w K (.Tuple es x1 pos) (Ite fun H xs=>SqT K H a xs) [e,it] e (fun i h=>(∃old,IsEnum h e it i old)/\h.IsTupleIter it a i/\a≠it/\a≠e)where
 mem:=by simp
 obj:=fun i h st b hb=>by
  obtain⟨⟨old,he⟩,⟨o,e1,c,d⟩,_⟩:=st;rcases mem_cons.mp hb with z|z
  ·subst z;exact⟨_,he,fun v z=>by cases z⟩
  ·have z':=mem_singleton.mp z;subst z';exact⟨o,e1,fun v z=>by rw [d]at z;cases z⟩
 keep:=fun i h h' st k=> ⟨let ⟨old,he⟩:=st.1;⟨old,k e (by simp) _ he⟩,st.2.1.at fun o q=>k it (by simp) o q,st.2.2⟩
 item:=by
  intro X hP hw hK hc i pins s σ H E I hf st hg;subst hP hw hK;obtain⟨⟨old,he⟩,hit,hai,hae⟩:=st;obtain⟨xs,x,hq,hx⟩:=hg;obtain⟨its,rv,p,hz⟩:=I.tuple hq;obtain⟨u,hu,ru⟩:=rv.get hx;have hlt:i<its.toArray.size:=by
   rw [size_toArray];exact(zjW.mp hu).1
  refine wpAny_pyNext_enum_itemD (Draws.tuple (A:=X.A.in1) (by simp [I.ok.hd hc]) it a hai its.toArray) he ⟨hit,p⟩ hlt hei (by simp [hei,Ne.symm hae]) fun v h' tk hv ho hst' hT hsz hk=> ?_;have hv':v=u:=by
   have e1:its[i]?=some v:=by simpa using hv
   rw [hu]at e1;exact(Option.some.inj e1).symm
  subst hv';refine⟨_,rfl,wpAny_letOwnedTupleGo_enum (s:={s with heap:=h',toks:=tk+1}) ho fun h2 he2 hs2=> ?_⟩;have helt:e<s.heap.objs.size:=zjT he;have hilt:it<s.heap.objs.size:=by obtain⟨_,q,_⟩:=hit;exact zjT q
  have hTe:s.heap.objs.size≠e:=ne_of_gt helt;have hn:H s.heap.objs.size=none:=I.hok.fresh (zjQ _);have kp:∀b o,b∉[e,it]->s.heap.get? b=some o->h2.get? b=some o:=fun b o hb q=>by
   have hbe:b≠e:=fun z=>hb (by simp [z]);have hbi:b≠it:=fun z=>hb (by simp [z]);exact(hs2.2 b hbe).trans (hk b o hbe hbi q)
  have hT2:h2.get? s.heap.objs.size=some {cls:=.type "tuple",data:=.seq #[.int i tk,v]}:=(hs2.2 _ hTe).trans hT;have I2:Inv X pins σ (upd H s.heap.objs.size (.tup [.int i,x])) {s with heap:=h2,toks:=tk+1}:=I.turnLaid (fp:=[e,it]) kp hf (zjQ _) ⟨by show 2<=sizeLine;rw [sizeLine_eq];decide,[.int i tk,v],.cons ⟨_,rfl⟩ (.cons ru .nil),⟨_,hT2,rfl,_,rfl⟩⟩;refine⟨.ref s.heap.objs.size,_,I2,rfl,⟨s.heap.objs.size,x,rfl,hn,rfl,fun ys hy=>by rw [I.tuple_inj hy hq];exact hx⟩,⟨⟨_,by simpa using he2⟩,hst'.1.at fun o q=>(hs2.2 it hei.symm).trans q,hai,hae⟩,fun b hb=> ?_⟩;have hbz:b≠s.heap.objs.size:=by
   rcases mem_cons.mp hb with z|z
   ·rw [z];exact ne_of_lt helt
   ·rw [mem_singleton.mp z];exact ne_of_lt hilt
  rw [aY hbz];exact(hf b hb).1
 done:=by
  intro X hP hw hK hc i pins s σ H E I hf st hg;subst hP hw hK;obtain⟨⟨old,he⟩,hit,hai,hae⟩:=st;obtain⟨xs,hq,hx⟩:=hg;obtain⟨its,rv,p,hz⟩:=I.tuple hq;have hl:=rv.length;have hi:its.toArray.size=i:=by rw [size_toArray,←hl,hx]
  refine wpAny_pyNext_enum_endD (Draws.tuple (A:=X.A.in1) (by simp [I.ok.hd hc]) it a hai its.toArray) he (by rw [hi];exact⟨hit,p⟩) fun h' hs'=> ⟨rfl,?_⟩;exact I.turned (it:=it) (t':=s.toks) (fun b o hb q=>hs' b o hb q) (hf it (by simp)).1 (hf it (by simp)).2.1 (hf it (by simp)).2.2.2.1 (hf it (by simp)).2.2.2.2.1 (hf it (by simp)).2.2.2.2.2
 self:=fun _ _ _ _ _ st h=>let ⟨old,he⟩:=st.1;wpAny_pyIter_enum he h
def uT (K:W.Frag)(ta:TA):TI:=fun σ H R=>ta σ H fun vs H1=> ∃a xs,vs=[.ref a]/\SqT K H1 a xs/\R (Ite fun H xs=>SqT K H a xs) H1
theorem jF {a:Expr}{ta:TA}{p pos:Pos}{es:List Expr}{x1}{tpos:Pos}(hc:X.calm=true)(hg:Gl X "enumerate")(hm:X.mg "enumerate" =none)(ha:PA X [a] ta)(hs:starEach [a] X.env=[(false,eval a X.env)]:=by rfl):
  PI X (.Tuple es x1 tpos) (.Call (.Name "enumerate" p) [a] [] pos) (uT X.K ta):=by
 intro pins s σ H R I h;refine Call_ (iH I hg hm boot_enumerate (PyProof.Rows.callWith_type1 (thn (ha pos pins s σ H _ I h) fun us s1 ⟨vs,H1,I1,r1,q1⟩=> ?_) hs rfl));obtain⟨b,xs,e,hq,q⟩:=q1;subst e;obtain⟨u,rfl,rx⟩:=dJ r1;cases rx;obtain⟨its,rv,pt,hz⟩:=I1.tuple hq;have hblt:b<s1.heap.objs.size:=by obtain⟨o,ho,_⟩:=id pt;exact zjT ho
 refine A4w pt fun h' he hit hsz hk=> ?_;refine wpAny_pyIter_enum (s:={s1 with heap:=h'}) he ?_;have I2:Inv X pins σ H1 {s1 with heap:=h'}:=I1.kept (t':=s1.toks) hk;refine⟨s1.heap.objs.size+1,[s1.heap.objs.size+1,s1.heap.objs.size],_,_,H1,rfl,I2,A4m _ _ b (Nat.succ_ne_self _),⟨⟨_,he⟩,hit,ne_of_lt hblt,ne_of_lt (lt_succ_of_lt hblt)⟩,fun c hc'=> ?_,q⟩;have hge:s1.heap.objs.size<=c:=by
  rcases mem_cons.mp hc' with z|z
  ·rw [z];exact le_succ _
  ·rw [mem_singleton.mp z];exact zjQ _
 exact I1.fpOk hge (I1.hok.fresh hge)
theorem mB (Pv:Nat->St->Hp->Prop)(h0:Pv 0 σ H)(hl:∀i σ H,i<=xs.length->Pv i σ H->S H xs)
  (hs:∀i x p σ H,xs[i]?=some x->Pv i σ H->H p=none->g (.ref p) σ (upd H p (.tup [.int i,x])) fun σ2 H2=>tb {D with nx:=Pv (i+1),ct:=Pv (i+1),bk:=D.nx} σ2 H2)(hd:∀σ H,Pv xs.length σ H->D.nx σ H):
  cP (Ite S) g tb D σ H:=by
 refine⟨fun i m σ H=>m=xs.length - i/\i<=xs.length/\Pv i σ H,⟨xs.length,by simp,zero_le _,h0⟩,?_⟩;rintro i m σ H ⟨rfl,hi,p⟩;have q:=hl i σ H hi p;by_cases hlt:i<xs.length
 ·refine .inr ⟨⟨xs,xs[i],q,by simp [hlt]⟩,Pv (i+1),fun σ' H' p'=> ⟨xs.length -(i+1),by omega,rfl,hlt,p'⟩,fun x H' y=> ?_⟩;obtain⟨pp,yy,e1,e2,e3,e4⟩:=y;subst e1 e3;exact hs i yy pp σ H (e4 xs q) p e2
 ·have e:i=xs.length:=by omega
  subst e;exact .inl ⟨⟨xs,q,rfl⟩,hd σ H p⟩
end
section
def NewTup (H:Hp)(ys:List V)(Q:VK):Prop:=∀p H',Same H H'->H' p=some (.tup ys)->Q (.ref p) H'
theorem aQ (h:H p=none):Same H (upd H p o):=fun b u e=>by rw [aY (bL e h)];exact e
theorem NewTup.new (h:NewTup H ys Q)(hp:H p=none):Q (.ref p) (upd H p (.tup ys)):=h p _ (aQ hp) aG
theorem NewTup.old (h:NewTup H ys Q)(hp:H p=some (.tup ys)):Q (.ref p) H:=h p H (Same.refl H) hp
theorem Inv.newTup (I:Inv X pins σ H s)(r:Vals ys its)(hz:ys.length<=sizeLine)(h:NewTup H ys Q):EP X pins σ Q (.ref s.heap.objs.size) {s with heap:=s.heap.push {cls:=.type "tuple",data:=.seq its.toArray}}:=
 ⟨.ref s.heap.objs.size,_,I.laid (t':=s.toks) (o:=.tup ys) (fun b ob q=>zjX _ q) (zjQ _) ⟨hz,_,r,IsTup.new _ _⟩,rfl,h.new (I.hok.fresh (zjQ _))⟩
def A12:R2:=fun x y H Q=> ∃a b xs ys,x= .ref a/\y= .ref b/\H a=some (.tup xs)/\H b=some (.tup ys)/\xs.length+ys.length<=sizeLine/\NewTup H (xs++ys) Q
theorem mI:OpR X (binaryOp .Add) A12:=by
 intro pins s σ H x y v u Q I rx ry h;obtain⟨a,b,xs,ys,rfl,rfl,ha,hb,hz,q⟩:=h;cases rx;cases ry;obtain⟨its,r1,p1,_⟩:=I.tuple (SqT.of ha);obtain⟨its2,r2,p2,_⟩:=I.tuple (SqT.of hb);by_cases hx:xs=[]
 ·subst hx;cases r1;obtain⟨⟨c1,d1,t1,l1⟩,ho,hc,n,hd⟩:=id p1;obtain⟨⟨c2,d2,t2,l2⟩,ho2,hc2,n2,hd2⟩:=id p2;simp only at hc hd hc2 hd2;subst hc hd hc2 hd2;exact concat_meets ⟨_,ho,rfl⟩ ⟨_,ho2,rfl⟩ noFill_tuple_add seq_tuple_add PySem.F.slot_tuple_add PySem.F.entry_tuple_add (PySem.F.args_tuple_add_2 _ _) (tuple_addW0 a b _ _ n n2 d1 d2 l1 l2 (by simp)) ⟨ho,ho2,.ref b,H,I,rfl,q.old hb⟩
 ·refine HT.cat_tup p1 p2 (fun z=>hx (r1.nil_iff.mp z)) (fun z=> ⟨.ref a,H,I,rfl,?_⟩) (fun z=>I.newTup (r1.append r2) (by rw [length_append];exact hz) q) (by rw [←r1.length,←r2.length];exact hz);have:ys=[]:=r2.nil_iff.mp z;subst this;rw [append_nil]at q;exact q.old ha
theorem A8x {t sl:Addr}{items:Array Value}{vl vu:Value}{lo hi:Option Int}{Q:Value->Shared->Prop}{prog:Program}{w:World}{A:Around}{E:Value->Shared->Prop}(ht:IsTup s.heap t items)(hs:s.heap.IsSliceOf sl vl vu .none)(pl:IsPart vl lo)(pu:IsPart vu hi)
  (hw:HT.sIx items.size 0 lo=0/\HT.sIx items.size items.size hi=items.size)(h:Q (.ref t) s):wpAny (model prog w) A (getItem (.ref t) (.ref sl)) Q E s:=by
 obtain⟨os,hos,hcs,hds⟩:=id hs;have hTs:s.TypeIs (.ref sl) "slice":=⟨os,hos,hcs⟩;unfold getItem
 try with_reducible refine wpAny_holding ?_
 first|refine zjZ (zjY ?_)|skip
 refine zjZ (wpAny_sequenceKey ht.typeIs (by decide) (zjZ (wpAny_callSpecial?_slot (name:=Str.ofString "__getitem__") ht.typeIs PyProof.Rows.slot_tuple_getitem (wpAny_call_entry PyProof.Rows.slot_tuple_getitem ht.typeIs entry_tuple_getitem ?_ (args_tuple_getitem _ _)))));show wpAny _ _ (Builtin.Tuple.tupleItemsOf (.ref t)>>=_) _ _ s;refine zjZ (tupleItemsOf_ ht (zjZ (wpAny_typeOf hTs ?_)));rw [if_pos (by decide)];refine zjZ (HT.sliceApplied_gen hs pl pu ?_);have hyes:(((HT.sIx items.size 0 lo:Nat):Int)==0&&(1:Int)==1&&(HT.sIx items.size items.size hi - HT.sIx items.size 0 lo)==items.size)=true:=by rw [hw.1,hw.2];simp
 show wpAny _ _ (if (((HT.sIx items.size 0 lo:Nat):Int)==0&&(1:Int)==1&&(HT.sIx items.size items.size hi - HT.sIx items.size 0 lo)==items.size)=true then _ else _) _ _ s;rw [if_pos hyes];obtain⟨⟨c1,d1,t1,l1⟩,ho,hc,n,hd⟩:=id ht;simp only at hc hd;subst hc hd;obtain⟨hp,g,d,tk,osx⟩:=s
 wp_walk using AutoSeq1.wpAny_loadPart' ho
 all_goals first|exact⟨_,rfl,h⟩|exact⟨_,rfl,zjY h⟩
def A8t:V->Option Int->Option Int->Hp->VK->Prop:=fun x lo hi H Q=> ∃a xs,x= .ref a/\H a=some (.tup xs)/\NewTup H (cutV xs lo hi) Q
theorem nG:SlR X A8t:=by
 intro pins s σ H x v vl vu lo hi sl Q I rx hs pl pu h;obtain⟨a,xs,rfl,hx,q⟩:=h;cases rx;obtain⟨its,r,ht,hz⟩:=I.tuple (SqT.of hx);have hlen:its.toArray.size=xs.length:=by rw [size_toArray];exact r.length.symm
 refine⟨"tuple",_,PyProof.Rows.slot_tuple_getitem.lookup,ht.typeIs,?_⟩;by_cases hw:HT.sIx xs.length 0 lo=0/\HT.sIx xs.length xs.length hi=xs.length
 ·refine A8x ht hs pl pu (by rw [hlen];exact hw) ⟨.ref a,H,I,rfl,?_⟩;have:cutV xs lo hi=xs:=by unfold cutV;rw [hw.1,hw.2];simp
  rw [this]at q;exact q.old hx
 ·refine HT.getItem_tuple_cut ht hs pl pu (by rw [hlen];exact hw) ?_ (by rw [hlen];exact hz);rw [hlen];exact I.newTup ((r.drop (HT.sIx xs.length 0 lo)).take (HT.sIx xs.length xs.length hi - HT.sIx xs.length 0 lo)) (le_trans (kC xs lo hi) hz) q
end
section
end
def Kn (H:Hp):Nat->V->Prop
 |0,_=>True
 |n+1,v=>match v with
  | .non=>True
  | .bl _=>True
  | .int _=>True
  | .str _=>True
  | .ref a=>(∃xs,H a=some (.lst xs))\/(∃kvs,H a=some (.dK kvs))\/ ∃xs,H a=some (.tup xs)/\xs.length<=1000/\∀x∈xs,Kn H n x
  |_=>False
def KnA (H:Hp)(v:V):Prop:=∀n,Kn H n v
structure Ext (H H':Hp):Prop where
 tup:∀a xs,H a=some (.tup xs)->H' a=some (.tup xs)
 lst:∀a xs,H a=some (.lst xs)->∃ys,H' a=some (.lst ys)
 dct:∀a kvs,H a=some (.dK kvs)->H' a=some (.dK kvs)
theorem Ext.trans (a:Ext H H1)(b:Ext H1 H2):Ext H H2:=⟨fun _ _ h=>b.tup _ _ (a.tup _ _ h),fun _ _ h=>let ⟨_,e⟩:=a.lst _ _ h;b.lst _ _ e,fun _ _ h=>b.dct _ _ (a.dct _ _ h)⟩
theorem Same.ext (s:Same H H'):Ext H H':=⟨fun _ _ h=>s _ _ h,fun _ xs h=> ⟨xs,s _ _ h⟩,fun _ _ h=>s _ _ h⟩
theorem Kn.ext (e:Ext H H'):∀{n:Nat}{v:V},Kn H n v->Kn H' n v
 |0,_,_=>True.intro
 |n+1,v,h=>by
  cases v with
  |ref a=>
   rcases h with⟨xs,h⟩| ⟨kvs,h⟩| ⟨xs,h,hl,hx⟩
   ·exact .inl (e.lst _ _ h)
   ·exact .inr (.inl ⟨kvs,e.dct _ _ h⟩)
   ·exact .inr (.inr ⟨xs,e.tup _ _ h,hl,fun x hm=>Kn.ext e (hx x hm)⟩)
  |_=>exact h
theorem Kn.le:∀{n m:Nat}{v:V},n<=m->Kn H m v->Kn H n v
 |0,_,_,_,_=>True.intro
 |n+1,0,_,h,_=>absurd h (by omega)
 |n+1,m+1,v,h,k=>by
  cases v with
  |ref a=>
   rcases k with⟨xs,k⟩| ⟨kvs,k⟩| ⟨xs,k,hl,hx⟩
   ·exact .inl ⟨xs,k⟩
   ·exact .inr (.inl ⟨kvs,k⟩)
   ·exact .inr (.inr ⟨xs,k,hl,fun x hm=>Kn.le (by omega) (hx x hm)⟩)
  |_=>exact k
theorem KnA.int (i:Int):KnA H (.int i):=fun n=>by cases n<;>exact True.intro
theorem KnA.tup (h:H a=some (.tup xs))(hl:xs.length<=1000)(hx:∀x∈xs,KnA H x):KnA H (.ref a):=fun n=>by
 cases n with
 |zero=>exact True.intro
 |succ n=>exact .inr (.inr ⟨xs,h,hl,fun x hm=>hx x hm n⟩)
theorem Kn.items (k:Kn H (n+1) (.ref a))(h:H a=some (.tup xs)):xs.length<=1000/\∀x∈xs,Kn H n x:=by
 rcases k with⟨ys,k⟩| ⟨kvs,k⟩| ⟨ys,k,hl,hx⟩
 ·rw [h]at k;cases k
 ·rw [h]at k;cases k
 ·rw [h]at k;cases k;exact⟨hl,hx⟩
def isInt:V->Bool| .int _=>true|_=>false
def qP:V->Bool| .bl _=>true|_=>false
def tupOf (H:Hp):V->Option (List V)
 | .ref a=>match H a with|some (.tup xs)=>some xs|_=>none
 |_=>none
theorem iB (h:H a=some (.tup xs)):tupOf H (.ref a)=some xs:=by simp [tupOf,h]
theorem jB (h:tupOf H v=some xs):∃a,v= .ref a/\H a=some (.tup xs):=by
 cases v with
 |ref a=>
  unfold tupOf at h;cases e:H a with
  |none=>simp [e]at h
  |some o=>cases o<;>simp [e]at h;subst h;exact⟨a,rfl,e⟩
 |_=>simp [tupOf]at h
section
variable {K:W.Frag}
theorem qS {H:Hp}{v:V}(k:Kn H 1 v):∃t,TyOf K H v t/\W.kitOne K t (.type "int")=some (isInt v||qP v)/\W.kitOne K t (.type "bool")=some (qP v)/\W.kitOne K t (.type "tuple")=some (tupOf H v).isSome:=by
 cases v with
 |non=>exact⟨_,.non,by kernel_rfl,by kernel_rfl,by kernel_rfl⟩
 |bl b=>exact⟨_,.bl b,by kernel_rfl,by kernel_rfl,by kernel_rfl⟩
 |int i=>exact⟨_,.int i,by kernel_rfl,by kernel_rfl,by kernel_rfl⟩
 |str x=>exact⟨_,.str x,by kernel_rfl,by kernel_rfl,by kernel_rfl⟩
 |ref a=>
  rcases k with⟨xs,k⟩| ⟨kvs,k⟩| ⟨xs,k,hl,hx⟩
  ·refine⟨_,.lst k,by kernel_rfl,by kernel_rfl,?_⟩;have:(tupOf H (.ref a)).isSome=false:=by simp [tupOf,k]
   rw [this];kernel_rfl
  ·refine⟨_,.dK k,by kernel_rfl,by kernel_rfl,?_⟩;have:(tupOf H (.ref a)).isSome=false:=by simp [tupOf,k]
   rw [this];kernel_rfl
  ·refine⟨_,.tup k,by kernel_rfl,by kernel_rfl,?_⟩;have:(tupOf H (.ref a)).isSome=true:=by simp [tupOf,k]
   rw [this];kernel_rfl
 |_=>exact(show False from k).elim
end
def dW (lo hi:Int):V->Bool| .int i=>decide (lo<=i)&&decide (i<=hi)|_=>false
theorem Same.tupOf (s:Same H H')(k:Kn H 1 v):L2.tupOf H' v=L2.tupOf H v:=by
 cases v with
 |ref a=>
  rcases k with⟨xs,k⟩| ⟨kvs,k⟩| ⟨xs,k,_⟩
  ·simp [L2.tupOf,k,s _ _ k]
  ·simp [L2.tupOf,k,s _ _ k]
  ·simp [L2.tupOf,k,s _ _ k]
 |_=>rfl
def PenAt (H:Hp)(p:Addr):Prop:=∃x f:Int,H p=some (.lst [.int x,.int f])
structure Stp (p:Addr)(H H':Hp):Prop where
 pen:PenAt H' p
 keep:∀b o,b≠p->H b=some o->H' b=some o
theorem Stp.refl (h:PenAt H p):Stp p H H:=⟨h,fun _ _ _ e=>e⟩
theorem Stp.trans (a:Stp p H H1)(b:Stp p H1 H2):Stp p H H2:=⟨b.pen,fun c o h e=>b.keep c o h (a.keep c o h e)⟩
theorem Stp.same (a:Stp p H H1)(s:Same H1 H2):Stp p H H2:=⟨let ⟨x,f,e⟩:=a.pen;⟨x,f,s _ _ e⟩,fun b o h e=>s _ _ (a.keep b o h e)⟩
theorem PenAt.ne (h:PenAt H p)(e:H b=some o)(n:∀xs,o≠ .lst xs):b≠p:=fun z=>by
 obtain⟨x,f,e2⟩:=h;rw [z,e2]at e;cases e;exact n _ rfl
theorem Stp.ext (h:PenAt H p)(s:Stp p H H'):Ext H H' where
 tup:=fun a xs e=>s.keep a _ (h.ne e (by intro z;simp)) e
 lst:=fun a xs e=>by
  by_cases ha:a=p
  ·obtain⟨x,f,e2⟩:=s.pen;exact⟨_,by rw [ha];exact e2⟩
  ·exact⟨xs,s.keep a _ ha e⟩
 dct:=fun a kvs e=>s.keep a _ (h.ne e (by intro z;simp)) e
theorem iF {K:W.Frag}{a l:Addr}{xs:List V}{te:TE}{H0:Hp}{rest:St}{Q:St->Hp->Prop}(f:V->V)(ha:H0 a=some (.tup xs))(hl:H0 l=none)(hz:xs.length<=1000)
  (turn:∀x H' Q',x∈xs->Same H0 H'->(∀H2,Same H' H2->Q' (f x) H2)->te (some x::rest) H' Q')(hQ:∀σ H',Same H0 H'->H' l=some (.lst (xs.map f))->Q σ H'):
  cP (Itt K a) (cJ 0) (cK fL (dO l te)) (eC Q) (none::rest) (upd H0 l (.lst [])):=by
 have s0:Same H0 (upd H0 l (.lst [])):=aQ hl;refine gE (K:=K) (a:=a) (xs:=xs) (fun i σ H'=>(∃o,σ=o::rest)/\Same H0 H'/\H' l=some (.lst ((xs.take i).map f))) ⟨⟨_,rfl⟩,s0,by rw [aG];rfl⟩ (fun i σ H' _ h=>SqT.of (h.2.1 _ _ ha)) ?_ ?_
 ·rintro i x σ H' hx ⟨⟨o,rfl⟩,hs,hl'⟩;show dO l te (some x::rest) H' _;refine turn x H' _ (mem_of_getElem? hx) hs fun H2 h2=> ?_;refine⟨_,h2 _ _ hl',?_,⟨_,rfl⟩,fun b u e=> ?_,?_⟩
  ·rw [length_map,length_take];exact cH (by omega)
  ·rw [aY (bL e hl)];exact h2 _ _ (hs _ _ e)
  ·rw [aG,take_succ,hx,map_append];rfl
 ·rintro σ H' ⟨_,hs,hl'⟩;rw [take_of_length_le (zjQ _)]at hl';exact hQ σ H' hs hl'
theorem fU (h:tb σ H D.nx):cK fL tb D σ H:=by show(if true=true then tb σ H D.nx else D.nx σ H);exact gB h
theorem mL (h:tb (σ.set i (some v)) H D.nx):cJ i v σ H (fun σ2 H2=>cK fL tb D σ2 H2):=fU h
theorem dC {b:Bool}{A B:Prop}(h1:b=true->A)(h2:b=false->B):if b=true then A else B:=by
 cases b with
 |true=>exact gB (h1 rfl)
 |false=>exact bT (h2 rfl)
theorem eW {c:Prop} [Decidable c]{A B:Prop}(h1:c->A)(h2:¬c->B):if decide c=true then A else B:=by
 by_cases h:c
 ·rw [zjV h];exact gB (h1 h)
 ·rw [zjU h];exact bT (h2 h)
end L2
namespace L2
open PySem PyProof.Rows
section
variable {P:Program}{w:World}{K:W.Frag}{mg:Str->Option Value}{base:Heap}{x:Str}{st:Stmt}{ps:List Str}{sp:Sp}
def D1 (K:W.Frag)(mg:Str->Option Value)(x:Str)(st:Stmt)(ps:List Str):Prop:=∃f fd,Fun K x x st f fd/\mg x=some (.ref f)/\Binds K fd ps []
def A1 (P:Program)(w:World)(K:W.Frag)(mg:Str->Option Value)(base:Heap)(k:Nat)(x:Str)(sp:Sp):Prop:=∃f fd ps,mg x=some (.ref f)/\W.keepIn K (.ref f)=true/\Binds K fd ps []/\FnOk P w K mg base CX0 k f fd ps sp
theorem D1.k {k:Nat}(F:D1 K mg x st ps)(N:List Str)
  (hbody:N.Nodup->∀(f:Addr)(cdv:Value)(A:Around)(outer:List Env)(s:Shared)(H:Hp)(vs:List V)(Q:VK)(E:XK),Room k (A.deeper (envOfC x (bE st) s.heap.objs.size f cdv))->sp vs H Q E->
   ∃t,PSs (fA CX0 P w K mg base N x (bE st) f cdv A outer s H E).nox (cD st) t/\t {nx:=fun _ H'=>Q .non H',rt:=Q} (start N vs) H)
  (S:gL N ps (bE st):=by ac_rfl)
  (len:∀vs H Q E,sp vs H Q E->vs.length=ps.length:=by intro _ _ _ _ h;repeat (first|exact congrArg List.length h.1|obtain⟨_,h⟩:=h)):A1 P w K mg base (k+1) x sp:=
 let ⟨f,fd,F,m,b⟩:=F
 ⟨f,fd,ps,m,F.kp,b,F.ok S len (hbody S.nd f)⟩
theorem A1.c (a:A1 X.prog X.w X.K X.mg X.base k x sp)(hr:Room m X.A)(ha:PA X (e::es) t)(h:k<=m:=by decide)(hg:Gl X x:=by rfl)(hdb:(x==("__debug__":Str))=false:=by decide)(he:starEach (e::es) X.env=(false,eval e X.env)::starEach es X.env:=by rfl)(hpl:(backTo pos (starEach es X.env)).any (·.1)=false:=by rfl):
  PE X (.Call (.Name x p) (e::es) [] pos) (pD sp [] E0 t):=let ⟨_,_,_,m,k,b,g⟩:=a;vC g (hr.mono h) hg m k b .nil zL ha hdb he hpl
def Fk (K:W.Frag)(x:Str)(st:Stmt):Prop:=∃f fd,W.nsIn K mainGlobals x=some (some (.ref f))/\Fun K x x st f fd
theorem A0o {f:Addr}{oc:Value}{od an:Option Addr}{osl:Array (Option Value)}{kV doc pm cdv ct:Value}(a:W.nsIn K mainGlobals x=some (some (.ref f)))(l:K.lookup f=some ⟨oc,od,.func (W.fnOf x x (iN st) (cD st) (bE st) .none kV doc pm an cdv ct),osl⟩)(c:W.codeIn K cdv x=true)(k:W.keepIn K (.ref f)=true):Fk K x st:=⟨_,_,a,A5r l c k⟩
theorem Fk.d {h:Heap}(q:Fk K x st)(X:K.In h)(G:h.Ns mainGlobals mg)(hb:∀(kV doc pm:Value)(an:Option Addr)(cdv ct:Value)(us:List Value),us.length=ps.length->bindArgs (W.fnOf x x (iN st) (cD st) (bE st) .none kV doc pm an cdv ct) ⟨us,[]⟩=pure (ps.zip us):=by intro _ _ _ _ _ _ us hl;first| (match us,hl with| [_],_=>rfl)| (match us,hl with| [_,_],_=>rfl)| (match us,hl with| [_,_,_],_=>rfl)):D1 K mg x st ps:=let ⟨f,fd,a,F⟩:=q;⟨f,fd,F,W.mg_of X G a,F.binds hb⟩
theorem Fk.law {h:Heap}{y:Str}{fa:Addr}(q:Fk K x st)(X:K.In h)(G:h.Ns mainGlobals mg)(hfa:mg x=some (.ref fa))(hb:∀(kV doc pm:Value)(an:Option Addr)(cdv ct:Value)(u:Value),bindArgs (W.fnOf x x (iN st) (cD st) (bE st) .none kV doc pm an cdv ct) ⟨[u],[]⟩=pure [(y,u)]):∃fd,Fun K x x st fa fd/\∀(s:Shared)(v:Value),BindsTo s fd ⟨[v],[]⟩ [(y,v)]:=by obtain⟨f,fd,a,F⟩:=q;have e2:=hfa.symm.trans (W.mg_of X G a);cases e2;obtain⟨oc,od,kV,doc,pm,an,cdv,ct,osl,rfl,lk,hcd⟩:=F.ex;exact⟨_,F,fun s v=> .of_eq (hb _ _ _ _ _ _ _)⟩
end
end L2
namespace L2
open PySem PySem.Spec PyProof.Rows
section
end
section
end
section
end
def iD (ns:List (Str×NameKind))(N:List Str)(scope:Scope)(frees:List (Str×Nat)):Prop:=
 (∀x∈scope.names,(x.2= .cell->scope.names.lookup x.1=some .cell)/\(x.2= .local->scope.names.lookup x.1=some .local)/\(x.2= .free->ns.lookup x.1=some .cell\/ns.lookup x.1=some .free))/\
 ∀p∈frees,N[p.2]?=some p.1/\scope.names.lookup p.1=some .free/\(ns.lookup p.1=some .cell\/ns.lookup p.1=some .free)
instance (ns:List (Str×NameKind)) (N:List Str) (scope:Scope) (frees:List (Str×Nat)):Decidable (iD ns N scope frees):=by unfold iD;infer_instance
def cT (X:Cx)(N:List Str)(scope:Scope)(Z:cV):Cx:={A2k X N scope Z with fn:=fun x=>scope.names.lookup x==some .cell}
theorem nU:∀(names:List (Str×NameKind))(n:Nat)(a b:List (Str×Addr)),cellsFrom n names (a++b)=cellsFrom n names a++b
 | [],_,_,_=>rfl
 | (x,k)::r,n,a,b=>by
  unfold cellsFrom
  split
  ·exact nU r (n+1) ((x,n)::a) b
  ·exact nU r n a b
theorem cells_names:∀(names:List (Str×NameKind))(n:Nat)(acc:List (Str×Addr)){x:Str}{c:Addr},(x,c)∈cellsFrom n names acc->(x,NameKind.cell)∈names\/(x,c)∈acc
 | [],_,_,_,_,h=> .inr h
 | (y,k)::r,n,acc,x,c,h=>by
  unfold cellsFrom at h
  split at h
  ·rename_i hk;have hk':k= .cell:=eq_of_beq hk;subst hk';rcases cells_names r (n+1) _ h with z|z
   ·exact .inl (zjS _ z)
   ·rcases mem_cons.mp z with z|z
    ·cases z;exact .inl zjR
    ·exact .inr z
  ·rcases cells_names r n _ h with z|z
   ·exact .inl (zjS _ z)
   ·exact .inr z
structure xV (names:List (Str×NameKind))(h:Heap)(lo:Nat)(cl cl':List (Str×Addr)):Prop where
 of:∀x c,cl'.lookup x=some c->cl.lookup x=some c\/(lo<=c/\h.IsCell c none)
 inj:∀x y c,lo<=c->(∀z d,cl.lookup z=some d->d<lo)->cl'.lookup x=some c->cl'.lookup y=some c->x=y
 old:∀x c,cl.lookup x=some c->(x,NameKind.cell)∉names->cl'.lookup x=some c
 own:∀x,names.lookup x=some .cell->∃c,cl'.lookup x=some c
 new:∀x c,names.lookup x=some .cell->cl'.lookup x=some c->lo<=c
theorem A5f (names:List (Str×NameKind))(h:Heap)(cl:List (Str×Addr)):xV names (pushCells h names) h.objs.size cl (cellsFrom h.objs.size names cl):=by
 have e:cellsFrom h.objs.size names cl=cellsFrom h.objs.size names []++cl:=nU names _ [] cl;have ok:=cellsFrom_ok names h h.objs.size [] ⟨fun _ _ hm=>(nomatch hm),List.Pairwise.nil⟩ (zjQ _);have nm:∀{x c},(x,c)∈cellsFrom h.objs.size names []->(x,NameKind.cell)∈names:=fun hm=>(cells_names names _ [] hm).elim id fun z=>nomatch z;have sp:∀x c,(cellsFrom h.objs.size names cl).lookup x=some c->(x,c)∈cellsFrom h.objs.size names []\/cl.lookup x=some c:=fun x c hx=>by
  rw [e,lookup_append]at hx;cases h1:(cellsFrom h.objs.size names []).lookup x with
  |none=>rw [h1]at hx;exact .inr hx
  |some d=>rw [h1]at hx;cases hx;exact .inl (PySem.mem_of_lookup h1)
 refine⟨fun x c hx=> ?_,fun x y c hlo hcl hx hy=> ?_,fun x c hx hn=> ?_,fun x hx=> ?_,fun x c hx hc=> ?_⟩
 ·rcases sp x c hx with z|z
  ·exact .inr ⟨(ok.empty x c z).2,(ok.empty x c z).1⟩
  ·exact .inl z
 ·rcases sp x c hx with z|z
  ·rcases sp y c hy with z'|z'
   ·exact name_of_addr ok.apart z z'
   ·exact absurd (hcl _ _ z') (not_lt.mpr hlo)
  ·exact absurd (hcl _ _ z) (not_lt.mpr hlo)
 ·rw [e,lookup_append];cases h1:(cellsFrom h.objs.size names []).lookup x with
  |none=>exact hx
  |some d=>exact absurd (nm (PySem.mem_of_lookup h1)) hn
 ·exact Option.isSome_iff_exists.mp (W.cellsFrom_some names _ cl (.inl hx))
 ·obtain⟨d,hd⟩:=Option.isSome_iff_exists.mp (W.cellsFrom_some names h.objs.size [] (.inl hx));rw [e,lookup_append,hd]at hc;cases hc;exact(ok.empty x _ (PySem.mem_of_lookup hd)).2
theorem A31
  (hQ:Q {scope,locals:=s.heap.objs.size,globals,cells:=cellsFrom (s.heap.objs.size+1) scope.names closure,qual,func:=none,code:=outer.code,frame:=outer.frame,builtins:=outer.builtins} {s with heap:=pushCells (s.heap.push {cls:=.type "dict",data:=.dict #[]}) scope.names}):
  wpAny M A (newFunctionEnv scope globals closure [] qual none .none (some outer)) Q E s:=by
 simp only [newFunctionEnv,Option.isSome_some,if_true];refine zjZ (wpAny_alloc ?_);refine zjZ (wpAny_layCells _ (fun name kind cells=>by cases hkc:kind==NameKind.cell<;>simp [hkc]) _ _ _ _ ?_);rw [show({s with heap:=s.heap.push {cls:=.type "dict",data:=.dict #[]}}:Shared).heap.objs.size=s.heap.objs.size+1 from size_push ..];exact zjZ (zjY (zjY hQ))
section
theorem A6g (I2:Inv X pins σ H2 s2)(hns:X.env.scope.names=ns)(hN:X.N=N)(hk:scope.kind= .function)(ok:iD ns N scope frees)(f2:∀b∈fp,eK X pins H2 b)(hlive:∀b∈fp,∃o,s2.heap.get? b=some o)
  (hc1:∀x c,cl.lookup x=some c->X.env.cells.lookup x=some c)(hc2:∀x,(x,NameKind.free)∈scope.names->∃c,cl.lookup x=some c)
  (O:xV scope.names h4 (C+1) cl cl')(hC:C=s2.heap.objs.size+1)(hnsC:∃m,h4.Ns C m)(hacc:ObjOk X.prog X.w (upd H2 s2.heap.objs.size u) h4 s2.heap.objs.size u)
  (hkeep:∀b o,s2.heap.get? b=some o->h4.get? b=some o):
  Inv (cT X (loc++frees.map (·.1)) scope ⟨cl',C,s2,H2,fp,X.pn++pins⟩) [] (σC loc.length frees σ) (upd H2 s2.heap.objs.size u) {s2 with heap:=h4,toks:=tk}:=by
 have below:∀{b:Addr}{o:Obj},s2.heap.get? b=some o->b≠C:=fun{b o} e z=>by
  have:=zjT e;rw [z,hC]at this;exact lt_irrefl _ (lt_of_succ_lt this)
 have hl:H2 s2.heap.objs.size=none:=I2.hok.fresh (zjQ _);have hCn:H2 C=none:=I2.hok.fresh (by rw [hC];exact le_succ _);have cne:∀x c,X.env.cells.lookup x=some c->∃o v,s2.heap.get? c=some o/\o.data= .cell v:=fun x c e=>by
  obtain⟨v,o,ho,hd⟩:=I2.cell x c e;exact⟨o,v,ho,hd⟩
 obtain⟨mC,hmC⟩:=hnsC;have lt:∀x c,X.env.cells.lookup x=some c->c<s2.heap.objs.size:=fun x c e=>by
  obtain⟨o,v,ho,_⟩:=cne x c e;exact zjT ho
 have oc:∀x c,cl'.lookup x=some c->X.env.cells.lookup x=some c\/(s2.heap.objs.size+1<c/\h4.IsCell c none):=fun x c e=>by
  rcases O.of x c e with z| ⟨z,y⟩
  ·exact .inl (hc1 x c z)
  ·exact .inr ⟨by rw [hC]at z;exact z,y⟩
 have hCl:C≠s2.heap.objs.size:=by rw [hC];exact Nat.succ_ne_self _
 refine⟨⟨I2.ok.mod,hk,I2.ok.glob,I2.ok.blt,?_,fun x y c h1 h2=> ?_,fun x hx=> ?_,fun x c h hx=>le_of_lt (lt_of_lt_of_le (by show s2.heap.objs.size<C+1;rw [hC];exact lt_succ_of_lt (lt_succ_self _)) (O.new x c (eq_of_beq h) hx)),I2.ok.hd,I2.ok.frames,.inl rfl,fun b hb=> ⟨?_,fun x c e z=> ?_⟩,I2.bs,le_trans I2.ok.bsz I2.sz,fun b o e hb=> ?_,fun b hb hfs=> ?_,I2.stack,I2.stkFree⟩,
  rfl,I2.bare,?_,⟨mC,hmC,fun i x v h1 h2 h3=> ?_⟩,fun x c e=> ?_,?_,fun x c e=> ?_,fun p hp=> ?_,?_,?_⟩
 ·show s2.heap.objs.size<=C;rw [hC];exact le_succ _
 ·
  rcases oc x c h1 with z|z
  ·rcases oc y c h2 with z'|z'
   ·exact I2.ok.inj x y c z z'
   ·exact absurd (lt_trans (lt_succ_of_lt (lt x c z)) z'.1) (lt_irrefl _)
  ·exact O.inj x y c (by rw [hC];exact z.1) (fun z d e=>lt_trans (lt z d (hc1 z d e)) (by rw [hC];exact lt_succ_of_lt (lt_succ_self _))) h1 h2
 ·
  have hx':(relabel scope X.env).names.lookup x=some .cell\/(relabel scope X.env).names.lookup x=some .free:=hx;rcases relabel_back hx' with z|z
  ·by_cases hm:(x,NameKind.cell)∈scope.names
   ·exact O.own x ((ok.1 _ hm).1 rfl)
   ·obtain⟨c,hc⟩:=hc2 x z;exact⟨c,O.old x c hc hm⟩
  ·exact O.own x ((ok.1 _ z).1 rfl)
 ·obtain⟨o,ho⟩:=hlive b hb;exact below ho
 ·rcases oc x c e with y|y
  ·exact(f2 b hb).2.2.2.2.1 x c y z
  ·obtain⟨o,ho⟩:=hlive b hb;have:=zjT ho;have y1:=y.1;rw [z]at y1;exact Nat.lt_asymm this (lt_of_succ_lt y1)
 ·rcases(f2 b hb).2.2.2.1 with z|z
  ·exact I2.ok.noex b o e z
  ·exact absurd (lt_of_lt_of_le (zjT (I2.ok.bs b o e).1) z) (lt_irrefl _)
 ·rcases mem_cons.mp (I2.stkSub b hfs)with z|z
  ·exact(f2 b hb).2.1 z
  ·exact(f2 b hb).2.2.1 z
 ·exact Un.laid hkeep (zjQ _) hl
 ·
  have hi:¬i<loc.length:=fun hlt=>by
   unfold σC at h2;rw [List.getElem?_append_left (by simpa using hlt),List.getElem?_replicate]at h2;simp [hlt]at h2
  have h2':(frees[i - loc.length]?).map (fun p=>(σ[p.2]?).join)=some (some v):=by
   unfold σC at h2;rw [List.getElem?_append_right (by simpa using hi),List.length_replicate,getElem?_map]at h2;exact h2
  have h1':(frees[i - loc.length]?).map (·.1)=some x:=by
   have h1:(loc++frees.map (·.1))[i]?=some x:=h1;rw [List.getElem?_append_right (by omega),getElem?_map]at h1;exact h1
  cases ep:frees[i - loc.length]? with
  |none=>rw [ep]at h1';simp at h1'
  |some p=>
   rw [ep]at h1' h2';simp only [Option.map_some,Option.some.injEq]at h1' h2';obtain⟨q1,q2,q3⟩:=ok.2 p (mem_of_getElem? ep);have hσ:σ[p.2]?=some (some v):=by
    cases e:σ[p.2]? with
    |none=>rw [e]at h2';simp at h2'
    |some o=>rw [e]at h2';simp at h2';rw [h2']
   have vis:Vis X.env.scope p.1:=by
    show _\/_;rw [hns];rcases q3 with z|z
    ·exact .inr (.inl z)
    ·exact .inr (.inr z)
   obtain⟨m,hn,hlk⟩:=I2.loc;obtain⟨u,ru,lk⟩:=hlk p.2 p.1 v (by rw [hN];exact q1) hσ vis;refine⟨u,ru,.inr ?_⟩;rw [←h1'];rcases lk with⟨z,_⟩| ⟨_,c,ec,hcell⟩
   ·have z':X.env.scope.names.lookup p.1=some .local:=z;rw [hns]at z';rcases q3 with y|y<;>rw [z']at y<;>cases y
   ·obtain⟨c',hc'⟩:=hc2 p.1 (PySem.mem_of_lookup q2);have:c'=c:=by have:=hc1 _ _ hc';rw [ec]at this;exact(Option.some.inj this).symm
    subst this;refine⟨tY q2,c',O.old _ _ hc' (fun hm=>by have:=(ok.1 _ hm).1 rfl;rw [q2]at this;cases this),?_⟩;obtain⟨o,ho,hd⟩:=hcell;exact⟨o,hkeep _ _ ho,hd⟩
 ·rcases oc x c e with y|y
  ·obtain⟨o,v,ho,hd⟩:=cne x c y;exact⟨v,o,hkeep _ _ ho,hd⟩
  ·exact⟨none,y.2⟩
 ·show upd H2 _ _ C=none;rw [aY hCl];exact hCn
 ·rcases oc x c e with y|y
  ·have:c≠s2.heap.objs.size:=ne_of_lt (lt x c y);rw [aY this];exact I2.freeC x c y
  ·have h1:=y.1;rw [aY (fun e=>by rw [e]at h1;exact lt_irrefl _ (lt_of_succ_lt h1))];exact I2.hok.fresh (le_of_lt (lt_of_succ_lt h1))
 ·have hp':p∈X.pn++pins:=by
   rcases mem_append.mp hp with z|z
   ·exact z
   ·exact absurd z (by simp)
  obtain⟨e,n,ne,nf,d⟩:=I2.pin p hp';refine⟨hkeep _ _ e,?_,below e,fun z=> ?_,d⟩
  ·rw [aY (ne_of_lt (zjT e))];exact n
  ·rcases mem_cons.mp (I2.stkSub p.1 z)with y|y
   ·exact ne y
   ·exact nf y
 ·exact I2.hok.laid hkeep (zjQ _) hacc
 ·show(σC loc.length frees σ).length=(loc++frees.map (·.1)).length;unfold σC;simp
theorem uN {σ':St}(I2:Inv X pins σ H2 s2)(f2:∀b∈fp,eK X pins H2 b)(hC:C=s2.heap.objs.size+1)
  (J:Inv (cT X N scope ⟨cl,C,s2,H2,fp,pl⟩) [] σ' H' s')(hs:Heap.SameBut C s'.heap h'):Inv X pins σ H' {s' with heap:=h'}:=by
 have I3:Inv X pins σ H' s':=I2.call' (ch:=fp) J.os J.base J.hok J.bare fun b hb=> ⟨(f2 b hb).2.2.2.1,(f2 b hb).2.1,(f2 b hb).2.2.2.2.1,(f2 b hb).2.2.2.2.2⟩;refine I3.turned (it:=C) (t':=s'.toks) (fun b o hb e=>(hs.2 b hb).trans e) J.free ?_ (.inr ?_) (fun x c e z=> ?_) fun p hp z=> ?_
 ·intro z;have:=I2.lt;rw [←z,hC]at this;exact lt_irrefl _ (lt_of_succ_lt this)
 ·rw [hC];exact le_trans I2.sz (le_succ _)
 ·obtain⟨v,q⟩:=I2.cell x c e;have:=q.lt;rw [z,hC]at this;exact lt_irrefl _ (lt_of_succ_lt this)
 ·have:=zjT (I2.pin p hp).1;rw [z,hC]at this;exact lt_irrefl _ (lt_of_succ_lt this)
end
section
theorem nS {e:Expr}{gs:List Comprehension}{g0:Comprehension}{wi:TI}{tg iter:Expr}{R:cV->Addr->It->St->Hp->(Hp->Prop)->Prop}{use:Option (Value->Sem Unit)}{Q:Value->Shared->Prop}{newPos:Pos}{nac:Sem Value}{oa:Obj}{u:HO}
  (hna:∀(E:Value->Shared->Prop)(s:Shared)(Q:Value->Shared->Prop),Q (.ref s.heap.objs.size) {s with heap:=s.heap.push oa}->wpAny (model X.prog X.w) X.A nac Q E s)(hoa:oa.isFreed=false)(hou:∀(H:Hp)(h:Heap)(a:Addr),sysModules<a->h.get? a=some oa->ObjOk X.prog X.w H h a u)
  (hcl:clausesOf e=g0::gs)(hg0:g0.iter=iter)(hi:PI X tg iter wi)(hns:X.env.scope.names=ns)(hN:X.N=N)(hk:scope.kind= .function)(ok:iD ns N scope frees)
  (hs:∀x,foldedSetIterable iter X.env x=pure x){pins:List (Addr×Obj)}{s:Shared}{σ:St}{H:Hp}{QH:Addr->Hp->Prop}(I:Inv X pins σ H s)
  (h:wi σ H fun J H1=> ∀(Z:cV)(l:Addr),H1 l=none->R Z l J (σC loc.length frees σ) (upd H1 l u) (QH l))
  (block:∀(Z:cV)(l it:Addr)(fp:List Addr)(tn:Nat->Heap->Prop)(J:It)(H4:Hp)(s4:Shared)(σ4:St),Z.fp=fp->Inv (cT X (loc++frees.map (·.1)) scope Z) [] σ4 H4 s4->fQ X.prog X.w X.K tg J fp it tn->tn 0 s4.heap->
   (∀b∈fp,eK (cT X (loc++frees.map (·.1)) scope Z) [] H4 b)->R Z l J σ4 H4 (QH l)->
   codeAny (model X.prog X.w) X.A (.compStart e 0 (.ref it) (.ref l) (compEnvC scope Z.cl Z.C X.env)) (fun r s'=>r= .ok .next/\∃σ' H',Inv (cT X (loc++frees.map (·.1)) scope Z) [] σ' H' s'/\QH l H') s4)
  (fin:∀(l C:Addr)(H':Hp)(s':Shared),(∃m,s'.heap.Ns C m)->Inv X pins σ H' s'->H' C=none->X.s₀.heap.objs.size<=C->C≠X.env.locals->(∀x c,X.env.cells.lookup x=some c->c≠C)->(∀h',Heap.SameBut C s'.heap h'->Inv X pins σ H' {s' with heap:=h'})->(∀p∈X.pn++pins,p.1≠C)->QH l H'->
   compPost (model X.prog X.w) X.A X.xe use Q (.ref l) C (.ok .next) s'):
  wpAny (model X.prog X.w) X.A (comprehension e scope X.env newPos nac false (eval iter X.env) use) Q X.xe s:=by
 obtain⟨cl,hclos,hc1,hc2⟩:=A2g (env:=X.env) (scope:=scope) fun x hx hf=>by
  refine I.ok.has x.1 ?_;have:=(ok.1 x hx).2.2 hf;rw [←hns]at this;exact this
 have hs':∀x,foldedSetIterable g0.iter X.env x=pure x:=by rw [hg0];exact hs
 refine wpAny_comprehension_free hcl hs' hclos hk (fun x hx hl=>(ok.1 x hx).2.1 hl) (thn (hi pins s σ H _ I h) fun v s1 h1=>thn h1 fun itv s2 h2=> ?_);obtain⟨it,fp,tn,J,H2,e2,I2,T,st2,f2,q2⟩:=h2;subst e2;refine hna _ _ _ (A31 ?_);have hsz:(s2.heap.push oa).objs.size=s2.heap.objs.size+1:=size_push ..;have keep:∀b o,s2.heap.get? b=some o->(pushCells ((s2.heap.push oa).push {cls:=.type "dict",data:=.dict #[]}) scope.names).get? b=some o:=fun b o e=>pushCells_keeps _ _ _ _ (zjX _ (zjX _ e));have hacc:(pushCells ((s2.heap.push oa).push {cls:=.type "dict",data:=.dict #[]}) scope.names).get? s2.heap.objs.size=some oa:=pushCells_keeps _ _ _ _ (zjX _ (get?_push_size _ hoa));have hns₁:∃m,(pushCells ((s2.heap.push oa).push {cls:=.type "dict",data:=.dict #[]}) scope.names).Ns (s2.heap.push oa).objs.size m:=⟨_,(Heap.Ns.new (s2.heap.push oa) (.type "dict")).keeps (pushCells_keeps _ _)⟩;have O:=A5f scope.names ((s2.heap.push oa).push {cls:=.type "dict",data:=.dict #[]}) cl;rw [size_push]at O;dsimp only
 generalize hcl':cellsFrom ((s2.heap.push oa).objs.size+1) scope.names cl=cl' at O⊢;generalize hh₁:pushCells ((s2.heap.push oa).push {cls:=.type "dict",data:=.dict #[]}) scope.names=h₁ at keep hacc hns₁ O⊢;generalize hCeq:(s2.heap.push oa).objs.size=C at hns₁ hsz O⊢;have live:∀b∈fp,∃o,s2.heap.get? b=some o:=fun b hb=>let ⟨o,ho,_⟩:=T.obj _ _ st2 b hb;⟨o,ho⟩;have J0:=A6g (scope:=scope) (loc:=loc) (frees:=frees) (tk:=s2.toks) I2 hns hN hk ok f2 live hc1 hc2 O hsz hns₁ (hou _ _ _ I2.big hacc) keep;have hln:H2 s2.heap.objs.size=none:=I2.hok.fresh (zjQ _);have B:=block ⟨cl',C,s2,H2,fp,X.pn++pins⟩ s2.heap.objs.size it fp tn J _ _ _ rfl J0 T (T.keep _ _ _ st2 fun b _ o e=>keep b o e) (fun b hb=>by
  obtain⟨o,ho⟩:=live b hb;obtain⟨z0,z1,z2,z3,z4,z5⟩:=f2 b hb;refine⟨?_,?_,fun z=> ?_,.inl hb,fun x c e=> ?_,fun p hp=>z5 p ?_⟩
  ·rw [aY (ne_of_lt (zjT ho))];exact z0
  ·show b≠C;rw [hsz];exact ne_of_lt (lt_succ_of_lt (zjT ho))
  ·rcases mem_cons.mp (I2.stkSub b z)with y|y
   ·exact z1 y
   ·exact z2 y
  ·rcases O.of x c e with y| ⟨y,_⟩
   ·exact z4 x c (hc1 x c y)
   ·have:=zjT ho;intro z;have z':c=b:=z;rw [z',hsz]at y;exact Nat.lt_asymm this (lt_of_succ_lt y)
  ·rcases mem_append.mp hp with y|y
   ·exact y
   ·exact absurd y (by simp)) (q2 _ _ hln)
 refine codeAny_mono B fun r s' hr=> ?_;obtain⟨rfl,σ',H',J',q'⟩:=hr;obtain⟨m',hm',_⟩:=J'.loc;have hCl:C≠X.env.locals:=fun z=>by
  have:=I2.lt;rw [←z,hsz]at this;exact lt_irrefl _ (lt_of_succ_lt this)
 have hCc:∀x c,X.env.cells.lookup x=some c->c≠C:=fun x c e z=>by
  obtain⟨v,q⟩:=I2.cell x c e;have:=q.lt;rw [z,hsz]at this;exact lt_irrefl _ (lt_of_succ_lt this)
 have hCp:∀p∈X.pn++pins,p.1≠C:=fun p hp z=>by
  have:=zjT (I2.pin p hp).1;rw [z,hsz]at this;exact lt_irrefl _ (lt_of_succ_lt this)
 exact fin s2.heap.objs.size C H' s' ⟨m',hm'⟩ (by have:=uN I2 f2 hsz J' (Heap.SameBut.refl C s'.heap);exact this) J'.free (by rw [hsz];exact le_trans I2.sz (le_succ _)) hCl hCc (fun h' hs=>uN I2 f2 hsz J' hs) hCp q'
theorem bN {elt tg iter:Expr}{ifs:List Expr}{wi:TI}{g:cV->TG}{tt:cV->TT}{te:cV->TE}(ns:List (Str×NameKind))(N:List Str)(loc:List Str)(frees:List (Str×Nat))(hc:X.calm=true)(hi:PI X tg iter wi)
  (hns:X.env.scope.names=ns)(hN:X.N=N)(hk:scope.kind= .function)(ok:iD ns N scope frees)
  (hg:∀Z,PG (cT X (loc++frees.map (·.1)) scope Z) tg (g Z))(ht:∀Z,PTs (cT X (loc++frees.map (·.1)) scope Z) ifs (tt Z))(he:∀Z,PE (cT X (loc++frees.map (·.1)) scope Z) elt (te Z))
  (hs:∀x,foldedSetIterable iter X.env x=pure x:=by intro _;rfl):PE X (.ListComp elt [⟨tg,iter,ifs,0⟩] scope pos) (uJ wi g tt te loc.length frees):=by
 intro pins s σ H Q I h;rw [eval_ListComp];refine nS (nac:=newList []) (oa:={cls:=.type "list",dict:=none,data:=.seq ([]:List Value).toArray}) (u:=.lst []) (fun E s Q h=>wpAny_newObj_type h) rfl (fun H h a _ e=> ⟨by simp,[],_,.nil,e⟩) (e:=.ListComp elt [⟨tg,iter,ifs,0⟩] scope pos) (g0:=⟨tg,iter,ifs,0⟩) (gs:=[]) (tg:=tg) (iter:=iter) (loc:=loc) (R:=fun Z l J σ H QH=>cP J (g Z) (cK (tt Z) (dO l (te Z))) (eC fun _ H'=>QH H') σ H) (use:=none) (QH:=fun l H'=>Q (.ref l) H') rfl rfl hi hns hN hk ok hs I h ?_ ?_
 ·intro Z l it fp tn J H4 s4 σ4 hfp I4 T st4 f4 q4;have L:=mM (Y:=cT X (loc++frees.map (·.1)) scope Z) rfl hc (yR elt tg iter ifs scope pos (.ref it) (.ref l) _) (hg Z) (ht Z) (qF rfl (he Z)) I4 T st4 f4 q4;refine codeAny_mono (codeAny_compStart_list L (T.self _ _ _ _ _ st4 L)) fun r s' hr=> ?_;exact hr
 ·intro l C H' s' hm J' hn h1 h2 h3 h4 _ q';obtain⟨m,hm⟩:=hm;exact⟨m,hm,fun h' hs'=> ⟨.ref l,H',h4 h' hs',rfl,q'⟩⟩
end
section
theorem uL (ns:List (Str×NameKind))(N:List Str)(loc:List Str)(frees:List (Str×Nat))(hc:X.calm=true)(hi:PI X tg iter wi)
  (hns:X.env.scope.names=ns)(hN:X.N=N)(hk:scope.kind= .function)(ok:iD ns N scope frees)
  (hg:∀Z,PG (cT X (loc++frees.map (·.1)) scope Z) tg (g Z))(ht:∀Z,PTs (cT X (loc++frees.map (·.1)) scope Z) ifs (tt Z))
  (hi2:∀Z,PI (cT X (loc++frees.map (·.1)) scope Z) tg2 iter2 (wi2 Z))(hg2:∀Z,PG (cT X (loc++frees.map (·.1)) scope Z) tg2 (g2 Z))(ht2:∀Z,PTs (cT X (loc++frees.map (·.1)) scope Z) ifs2 (tt2 Z))
  (he:∀Z,PE (cT X (loc++frees.map (·.1)) scope Z) elt (te Z))
  (hs:∀x,foldedSetIterable iter X.env x=pure x:=by intro _;rfl)(hs2:∀(Z:cV) x,foldedSetIterable iter2 (cT X (loc++frees.map (·.1)) scope Z).env x=pure x:=by intro _ _;rfl):
  PE X (.ListComp elt [⟨tg,iter,ifs,0⟩,⟨tg2,iter2,ifs2,0⟩] scope pos) (A8i wi g tt wi2 g2 tt2 te loc.length frees):=by
 intro pins s σ H Q I h;rw [eval_ListComp];refine nS (nac:=newList []) (oa:={cls:=.type "list",dict:=none,data:=.seq ([]:List Value).toArray}) (u:=.lst []) (fun E s Q h=>wpAny_newObj_type h) rfl (fun H h a _ e=> ⟨by simp,[],_,.nil,e⟩) (e:=.ListComp elt [⟨tg,iter,ifs,0⟩,⟨tg2,iter2,ifs2,0⟩] scope pos) (g0:=⟨tg,iter,ifs,0⟩) (gs:=[⟨tg2,iter2,ifs2,0⟩]) (tg:=tg) (iter:=iter) (loc:=loc) (R:=fun Z l J σ H QH=>cP J (g Z) (cK (tt Z) (nB (wi2 Z) (g2 Z) (tt2 Z) (dO l (te Z)))) (eC fun _ H'=>QH H') σ H) (use:=none) (QH:=fun l H'=>Q (.ref l) H') rfl rfl hi hns hN hk ok hs I h ?_ ?_
 ·intro Z l it fp tn J H4 s4 σ4 hfp I4 T st4 f4 q4;have L:=mM (Y:=cT X (loc++frees.map (·.1)) scope Z) rfl hc (A0w elt tg iter tg2 iter2 ifs ifs2 scope pos (.ref it) (.ref l) _) (hg Z) (ht Z) (A03 rfl hc (hi2 Z) (hg2 Z) (ht2 Z) (he Z) (hs2 Z)) I4 T st4 f4 q4;refine codeAny_mono (codeAny_compStart_list L (T.self _ _ _ _ _ st4 L)) fun r s' hr=> ?_;exact hr
 ·intro l C H' s' hm J' hn h1 h2 h3 h4 _ q';obtain⟨m,hm⟩:=hm;exact⟨m,hm,fun h' hs'=> ⟨.ref l,H',h4 h' hs',rfl,q'⟩⟩
theorem A40 (ns:List (Str×NameKind))(N:List Str)(loc:List Str)(frees:List (Str×Nat))(hc:X.calm=true)(hND:X.N.Nodup)(hix:X.N[i]?=some x)(hxl:X.env.scope.names.lookup x=some .local)(hi:PI X tg iter wi)
  (hns:X.env.scope.names=ns)(hN:X.N=N)(hk:scope.kind= .function)(ok:iD ns N scope frees)
  (hg:∀Z,PG (cT X (loc++frees.map (·.1)) scope Z) tg (g Z))(ht:∀Z,PTs (cT X (loc++frees.map (·.1)) scope Z) ifs (tt Z))(he:∀Z,PE (cT X (loc++frees.map (·.1)) scope Z) elt (te Z))
  (hsw:swapsWith (.ListComp elt [⟨tg,iter,ifs,0⟩] scope pos) (some (.Name x pos')) apos.line X.env=pure true:=by rfl)
  (hs:∀x,foldedSetIterable iter X.env x=pure x:=by intro _;rfl):PS X (.Assign [.Name x pos'] (.ListComp elt [⟨tg,iter,ifs,0⟩] scope pos) apos) (iP (uJ wi g tt te loc.length frees) (cJ i)):=by
 intro pins s σ H D I h;rw [exec_Assign_Name_used _ _ _ _ hsw];refine zjZ (wpAny_standAt (zjZ ?_))
 show wpAny _ X.A (do let _←comprehension (.ListComp elt [⟨tg,iter,ifs,0⟩] scope pos) scope X.env _ (newList []) false (eval iter X.env) (some (assign (.Name x pos') X.env))) _ _ s;refine zjZ ?_;have key:=nS (X:=X) (nac:=newList []) (oa:={cls:=.type "list",dict:=none,data:=.seq ([]:List Value).toArray}) (u:=.lst []) (fun E s Q h=>wpAny_newObj_type h) rfl (fun H h a _ e=> ⟨by simp,[],_,.nil,e⟩) (e:=.ListComp elt [⟨tg,iter,ifs,0⟩] scope pos) (g0:=⟨tg,iter,ifs,0⟩) (gs:=[]) (tg:=tg) (iter:=iter) (newPos:=firstIterPos [⟨tg,iter,ifs,0⟩] pos) (loc:=loc) (R:=fun Z l J σ H QH=>cP J (g Z) (cK (tt Z) (dO l (te Z))) (eC fun _ H'=>QH H') σ H) (use:=some (assign (.Name x pos') X.env)) (QH:=fun l H'=>D.nx (σ.set i (some (.ref l))) H') (Q:=fun _ s'=>SP X pins D .next s') rfl rfl hi hns hN hk ok hs I h ?_ ?_
 ·exact thn key fun _ s' hq=>zjY (zjY hq)
 ·intro Z l it fp tn J H4 s4 σ4 hfp I4 T st4 f4 q4;have L:=mM (Y:=cT X (loc++frees.map (·.1)) scope Z) rfl hc (yR elt tg iter ifs scope pos (.ref it) (.ref l) _) (hg Z) (ht Z) (qF rfl (he Z)) I4 T st4 f4 q4;refine codeAny_mono (codeAny_compStart_list L (T.self _ _ _ _ _ st4 L)) fun r s' hr=> ?_;exact hr
 ·intro l C H' s' hm J' hn h1 h2 h3 h4 h5 q';obtain⟨m,hm⟩:=hm;show wpAny _ X.A (assign (.Name x pos') X.env (.ref l)) _ _ _;refine wpAny_assign_Name (yG J' hND hix (.inl hxl) (v:=.ref l) rfl (fun s'' I'' hsb=> ?_) (.inr hxl));obtain⟨a,hsb,ha⟩:=hsb;have haC:C≠a:=by
   rcases ha with z|z
   ·rw [z];exact h2
   ·exact fun y=>h3 x a z y.symm
  refine⟨m,hm.sameBut hsb haC,fun h' hs'=> ⟨_,H',?_,q'⟩⟩;exact I''.turned (it:=C) (t':=s''.toks) (fun b o hb e=>(hs'.2 b hb).trans e) hn h2 (.inr h1) h3 h5
end
end L2
namespace M07
open PySem L2 PyProof.Rows
def top (i:Nat):Stmt:=PySem.Challenge.pw_meadshares_k07_dues_and_fitting.main.body.getD i (.Pass ⟨0,0,0,0⟩)
abbrev yA:Stmt:=top 9
abbrev vM:Stmt:=top 10
abbrev uA:Stmt:=top 11
abbrev pU:Stmt:=top 12
abbrev kO:Stmt:=top 13
abbrev nM:Stmt:=top 14
abbrev qN:Stmt:=top 21
abbrev vP:Stmt:=top 22
abbrev lJ:Stmt:=top 23
abbrev vH:Stmt:=top 24
abbrev yL:Stmt:=top 25
abbrev oR:Stmt:=top 26
abbrev zX:Stmt:=top 27
abbrev nO:Stmt:=top 28
abbrev tJ:Stmt:=top 29
abbrev oV:Stmt:=top 30
abbrev pW:Stmt:=top 31
abbrev wO:Stmt:=top 32
abbrev wP:Stmt:=top 33
abbrev nX:Stmt:=top 41
abbrev mW:Stmt:=top 42
abbrev xR:Stmt:=top 43
abbrev nW:Stmt:=top 44
abbrev tH:Stmt:=top 45
abbrev oX:Stmt:=top 46
abbrev sN:Stmt:=top 47
abbrev kN:Stmt:=top 48
abbrev vW:Stmt:=top 49
abbrev yM:Stmt:=top 50
abbrev qB:Stmt:=top 52
abbrev lM:Stmt:=top 54
abbrev yT:Stmt:=top 55
abbrev pS:Stmt:=top 56
abbrev rJ:Stmt:=top 57
abbrev A0e:Stmt:=top 60
abbrev wZ:Stmt:=top 61
abbrev wQ:Stmt:=top 62
abbrev zV:Stmt:=top 63
abbrev zF:Stmt:=top 64
abbrev tV:Stmt:=top 65
abbrev oE:Stmt:=top 66
abbrev pF:Stmt:=top 67
abbrev uC:Stmt:=top 72
abbrev uW:Stmt:=top 73
abbrev pA:Stmt:=top 74
abbrev uU:Stmt:=top 75
abbrev jG:Stmt:=top 76
abbrev iY:Stmt:=top 77
abbrev oU:Stmt:=top 78
abbrev nE:Stmt:=top 79
abbrev wW:Stmt:=top 80
abbrev pC:Stmt:=top 81
abbrev uE:Stmt:=top 82
abbrev sP:Stmt:=top 83
abbrev mJ:Stmt:=top 84
abbrev rW:Stmt:=top 85
abbrev pB:Stmt:=top 86
abbrev sS:Stmt:=top 87
abbrev oC:Stmt:=top 88
abbrev sQ:Stmt:=top 89
abbrev nP:Stmt:=top 90
abbrev kD:Stmt:=top 93
abbrev tP:Stmt:=top 53
abbrev zY:Stmt:=top 68
abbrev xS:Stmt:=top 69
abbrev tT:Stmt:=top 70
abbrev zN:Stmt:=top 91
abbrev sHR:Stmt:=top 92
structure Txt (mg:Str->Option Value):Prop where
 isinstance:mg "isinstance" =none
 int:mg "int" =none
 bool:mg "bool" =none
 tuple:mg "tuple" =none
 len:mg "len" =none
 all:mg "all" =none
 enumerate:mg "enumerate" =none
 rows:∃t,mg "MOST_ROWS" =some (.int 4 t)
 cols:∃t,mg "MOST_COLUMNS" =some (.int 6 t)
 cells:∃t,mg "MOST_CELLS" =some (.int 10 t)
 worth:∃t,mg "MOST_WORTH" =some (.int 99 t)
 water:∃t,mg "WATER" =some (.int (-2) t)
def lW:Sp:=fun vs H Q _=> ∃v,vs=[v]/\Kn H 1 v/\Q (.bl (isInt v)) H
def lB:Sp:=fun vs H Q _=> ∃v lo hi,vs=[v,.int lo,.int hi]/\Kn H 1 v/\Q (.bl (dW lo hi v)) H
def cZ (H:Hp)(lo hi:Int)(v:V):Bool:=match tupOf H v with|some xs=>decide (lo<=xs.length)&&decide ((xs.length:Int)<=hi)|none=>false
def gX:Sp:=fun vs H Q _=> ∃v lo hi,vs=[v,.int lo,.int hi]/\Kn H 1 v/\Q (.bl (cZ H lo hi v)) H
section
variable {P:Program}{w:World}{K:W.Frag}{mg:Str->Option Value}{base:Heap}
theorem A27 (F:D1 K mg "is_number" yA ["thing"])(T:Txt mg):A1 P w K mg base 1 "is_number" lW:=by
 refine F.k ["thing"] ?_;ac_nf
 ·obtain⟨v,rfl,k,q⟩:=h;refine⟨_,aM (bA (fC (bH gT rfl T.isinstance boot_isinstance (bC (pv 0) (bC (fD (v:=.ty "int") rfl T.int boot_int rfl) aA)))
   (eZ (A45 (bH gT rfl T.isinstance boot_isinstance (bC (pv 0) (bC (fD (v:=.ty "bool") rfl T.bool boot_bool rfl) aA))))))),?_⟩
  obtain⟨t,ty,k1,k2,_⟩:=qS (K:=K) k;refine⟨_,rfl,_,"int",t,_,rfl,ty,k1,_,rfl,dC (fun e=> ?_) fun e=> ?_⟩
  ·refine⟨_,rfl,_,"bool",t,_,rfl,ty,k2,_,rfl,?_⟩;have:(!qP v)=isInt v:=by cases v<;>first|rfl|cases e
   rw [this];exact q
  ·have:isInt v=false:=(Bool.or_eq_false_iff.mp e).1;rw [this]at q;exact q
theorem A8a (F:D1 K mg "is_number_within" vM ["thing","least","most"])(a1:A1 P w K mg base 1 "is_number" lW):A1 P w K mg base 2 "is_number_within" lB:=by
 refine F.k ["thing","least","most"] ?_;ac_nf
 ·obtain⟨v,lo,hi,rfl,k,q⟩:=h;refine⟨_,aM (bA (fC (a1.c hr (bC (pv 0) aA)) (eZ (rH iG iG (pv 1) (pv 0) (pv 2))))),?_⟩;refine⟨_,rfl,v,rfl,k,_,rfl,dC (fun e=> ?_) fun e=> ?_⟩
  ·cases v with
   |int i=>
    refine⟨_,rfl,_,rfl,_,_,rfl,rfl,_,rfl,eW (fun h1=> ?_) fun h1=> ?_⟩
    ·refine⟨_,rfl,_,_,rfl,rfl,?_⟩;have:dW lo hi (.int i)=decide (i<=hi):=by simp [dW,h1]
     rw [this]at q;exact q
    ·have:dW lo hi (.int i)=false:=by simp [dW,h1]
     rw [this]at q;exact q
   |_=>cases e
  ·have:dW lo hi v=false:=by cases v<;>first|rfl|cases e
   rw [this]at q;exact q
theorem A6n (F:D1 K mg "is_tuple_within" uA ["thing","least","most"])(T:Txt mg):A1 P w K mg base 1 "is_tuple_within" gX:=by
 refine F.k ["thing","least","most"] ?_;ac_nf
 ·obtain⟨v,lo,hi,rfl,k,q⟩:=h;refine⟨_,aM (bA (fC (bH gT rfl T.isinstance boot_isinstance (bC (pv 0) (bC (fD (v:=.ty "tuple") rfl T.tuple boot_tuple rfl) aA)))
   (eZ (rH iG iG (pv 1) (bH eU rfl T.len PySem.boot_len (bC (pv 0) aA)) (pv 2))))),?_⟩
  obtain⟨t,ty,_,_,k3⟩:=qS (K:=K) k;refine⟨_,rfl,_,"tuple",t,_,rfl,ty,k3,_,rfl,dC (fun e=> ?_) fun e=> ?_⟩
  ·obtain⟨xs,ex⟩:=Option.isSome_iff_exists.mp e;obtain⟨a,rfl,ha⟩:=jB ex;refine⟨_,rfl,_,rfl,a,xs,rfl,.inr (SqT.of ha),_,_,rfl,rfl,_,rfl,eW (fun h1=> ?_) fun h1=> ?_⟩
   ·refine⟨_,rfl,_,_,rfl,rfl,?_⟩;have:cZ H lo hi (.ref a)=decide ((xs.length:Int)<=hi):=by simp [cZ,ex,h1]
    rw [this]at q;exact q
   ·have:cZ H lo hi (.ref a)=false:=by simp [cZ,ex,h1]
    rw [this]at q;exact q
  ·have:cZ H lo hi v=false:=by
    unfold cZ;cases z:tupOf H v with
    |none=>rfl
    |some xs=>rw [z]at e;cases e
   rw [this]at q;exact q
end
theorem nd4:(["at","row","k","mark"]:List Str).Nodup:=by decide +kernel
end M07
namespace L2
open PySem PySem.Spec PyProof.Rows
section
end
theorem FnOk.never {P:Program}{w:World}{K:W.Frag}{mg:Str->Option Value}{base:Heap}{CX:CXT}{k:Nat}{f:Addr}{fd:FuncData}{ps:List Str}:FnOk P w K mg base CX k f fd ps (fun _ _ _ _=>False):=
 ⟨fun _ _ _ _ h=>h.elim,fun _ _ _ _ _ _ _ _ _ _ _ _ _ h=>h.elim⟩
section
theorem cW (he:PE X (.Constant c j pos) te)(hr:PA X es t):PA X (.Constant c j pos::es) (cE te t):=bC he hr rfl
theorem aB (he:PE X (.Name x pos) te)(hr:PA X es t):PA X (.Name x pos::es) (cE te t):=bC he hr rfl
theorem dM (he:PE X (.BinOp a o b pos) te)(hr:PA X es t):PA X (.BinOp a o b pos::es) (cE te t):=bC he hr rfl
theorem A11 (he:PE X (.UnaryOp o b pos) te)(hr:PA X es t):PA X (.UnaryOp o b pos::es) (cE te t):=bC he hr rfl
theorem bY (he:PE X (.Call f a k pos) te)(hr:PA X es t):PA X (.Call f a k pos::es) (cE te t):=bC he hr rfl
theorem gW (he:PE X (.Tuple a k pos) te)(hr:PA X es t):PA X (.Tuple a k pos::es) (cE te t):=bC he hr rfl
theorem lR (he:PE X (.List a pos) te)(hr:PA X es t):PA X (.List a pos::es) (cE te t):=bC he hr rfl
theorem fF (he:PE X (.Subscript a b pos) te)(hr:PA X es t):PA X (.Subscript a b pos::es) (cE te t):=bC he hr rfl
theorem qH (he:PE X (.Compare a b c pos) te)(hr:PA X es t):PA X (.Compare a b c pos::es) (cE te t):=bC he hr rfl
theorem cM (he:PE X (.ListComp a b c pos) te)(hr:PA X es t):PA X (.ListComp a b c pos::es) (cE te t):=bC he hr rfl
end
@[irreducible] def PAq (X:Cx)(es:List Expr)(t:TA):Prop:=PA X es t
section
theorem jL (h:PAq X es t):PA X es t:=by unfold PAq at h;exact h
theorem cQ:PAq X [] jO:=by unfold PAq;exact aA
theorem bM (hr:PAq X es t):PAq X (.Constant (.int i) j pos::es) (cE (tC (.int i)) t):=by unfold PAq at*;exact cW aO hr
theorem jD (he:PE X (.BinOp a o b pos) te)(hr:PAq X es t):PAq X (.BinOp a o b pos::es) (cE te t):=by unfold PAq at*;exact dM he hr
theorem rF (he:PE X (.UnaryOp o b pos) te)(hr:PAq X es t):PAq X (.UnaryOp o b pos::es) (cE te t):=by unfold PAq at*;exact A11 he hr
theorem yU (he:PE X (.Call f a k pos) te)(hr:PAq X es t):PAq X (.Call f a k pos::es) (cE te t):=by unfold PAq at*;exact bY he hr
end
@[irreducible] def nF (X:Cx)(st:List Stmt)(t:TS):Prop:=PSs X st t
section
end
@[irreducible] def PEq (X:Cx)(e:Expr)(t:TE):Prop:=PE X e t
@[irreducible] def PSq (X:Cx)(st:Stmt)(t:TS):Prop:=PS X st t
section
end
section
theorem tupq (h:PAq X es t):PEq X (.Tuple es k p1) (mY t):=by unfold PEq;exact cF (jL h)
theorem lstq (h:PAq X es t):PEq X (.List es p1) (rD t):=by unfold PEq;exact dS (jL h)
theorem lI (he:PEq X (.Tuple a k pos) te)(hr:PAq X es t):PAq X (.Tuple a k pos::es) (cE te t):=by unfold PEq at he;unfold PAq at*;exact gW he hr
theorem fH (he:PEq X (.List a pos) te)(hr:PAq X es t):PAq X (.List a pos::es) (cE te t):=by unfold PEq at he;unfold PAq at*;exact lR he hr
theorem A3z (h:PEq X e te):nF X [.Return (some e) p3] (lF te):=by unfold PEq at h;unfold nF;exact aM (bA h)
theorem A9f {st:Stmt}{rest:List Stmt}{t u:TS}(h1:PS X st t)(h2:nF X rest u):PSs X (st::rest) (nY t u):=by unfold nF at h2;exact aU h1 h2
end
theorem Ext.updL (h:H l=some (.lst xs)):Ext H (upd H l (.lst ys))where
 tup:=fun a zs e=>by rw [aY (rQ e h (by simp))];exact e
 lst:=fun a zs e=>by
  by_cases ha:a=l
  ·exact⟨ys,by rw [ha,aG]⟩
  ·exact⟨zs,by rw [aY ha];exact e⟩
 dct:=fun a zs e=>by rw [aY (rQ e h (by simp))];exact e
theorem Stp.updL (s:Stp p H H1)(hl:H l=none)(hp:PenAt H p):Stp p H (upd H1 l (.lst ys)):=by obtain⟨x,f,e⟩:=hp;have hne:p≠l:=bL e hl;obtain⟨x',f',e'⟩:=s.pen;exact⟨⟨x',f',by rw [aY hne];exact e'⟩,fun b o hb h=>by rw [aY (bL h hl)];exact s.keep b o hb h⟩
end L2
namespace Grd
abbrev bF:=List (List Int)
def pos (n:Int):Bool:=decide (0<=n)
def road (n:Int):Bool:=decide (n= -1)
def dG (f:Int->Bool)(r:Int)(xs:List Int):List (Int×Int):=xs.zipIdx.filterMap fun q=>if f q.1 then some (r,(q.2:Int))else none
def bB (f:Int->Bool)(g:bF):List (Int×Int):=(g.zipIdx.map fun p=>dG f p.2 p.1).flatten
def atG (g:bF)(c:Int×Int):Int:=(g.getD c.1.toNat []).getD c.2.toNat 0
def gQ (xs:List Int):Int:=(xs.map fun n=>if n>0 then n else 0).sum
def bJ (g:bF):Int:=(g.map gQ).sum
def dP (xs:List Int):Nat:=(xs.filter pos).length
def cO (g:bF):Nat:=(g.map dP).sum
structure cR (g:bF)(w:Nat):Prop where
 h1:1<=g.length
 h4:g.length<=4
 w1:1<=w
 w5:w<=5
 len:∀xs∈g,xs.length=w
 num:∀xs∈g,∀n∈xs,-2<=n/\n<=99
 c1:1<=cO g
 c10:cO g<=10
theorem A0d (xs:List α)(i:Nat)(x:α)(h:xs[i]?=some x):(xs.take (i+1)).zipIdx=(xs.take i).zipIdx++[(x,i)]:=by have hlt:i<xs.length:=(zjW.mp h).1;rw [take_succ,h,List.zipIdx_append];simp;omega
theorem rowF_succ (f:Int->Bool)(r:Int)(xs:List Int)(i:Nat)(x:Int)(h:xs[i]?=some x):dG f r (xs.take (i+1))=dG f r (xs.take i)++if f x then [(r,(i:Int))]else []:=by
 unfold dG;rw [A0d xs i x h,List.filterMap_append]
 congr 1
 cases hf:f x<;>simp [hf]
theorem gridF_succ (f:Int->Bool)(g:bF)(i:Nat)(xs:List Int)(h:g[i]?=some xs):bB f (g.take (i+1))=bB f (g.take i)++dG f i xs:=by unfold bB;rw [A0d g i xs h,map_append,List.flatten_append];simp
theorem A16 (xs:List Int)(x:Int):dP (xs++[x])=dP xs+if pos x then 1 else 0:=by unfold dP;rw [filter_append,length_append];cases hp:pos x<;>simp [hp]
theorem A3m (g:bF)(xs:List Int):cO (g++[xs])=cO g+dP xs:=by unfold cO;rw [map_append,sum_append];simp
theorem mem_rowF:c∈dG f r xs↔c.1=r/\∃j x,c.2=(j:Nat)/\xs[j]?=some x/\f x=true:=by
 unfold dG;rw [mem_filterMap];constructor
 ·rintro⟨⟨x,j⟩,hm,e⟩;have hx:=mem_zipIdx_iff_getElem?.mp hm;cases hf:f x with
  |true=>
   simp only [hf,if_true,Option.some.injEq]at e;subst e;exact⟨rfl,j,x,rfl,hx,hf⟩
  |false=>simp [hf]at e
 ·rintro⟨e1,j,x,e2,hx,hf⟩;refine⟨(x,j),mem_zipIdx_iff_getElem?.mpr hx,?_⟩;simp only [hf,if_true,Option.some.injEq];exact Prod.ext e1.symm e2.symm
theorem mem_gridF:c∈bB f g↔ ∃(i j:Nat)(xs:List Int)(x:Int),c=((i:Int),(j:Int))/\g[i]?=some xs/\xs[j]?=some x/\f x=true:=by
 unfold bB;rw [List.mem_flatten];constructor
 ·rintro⟨l,hl,hc⟩;obtain⟨⟨xs,i⟩,hm,rfl⟩:=mem_map.mp hl;obtain⟨e1,j,x,e2,hx,hf⟩:=mem_rowF.mp hc;exact⟨i,j,xs,x,Prod.ext e1 e2,mem_zipIdx_iff_getElem?.mp hm,hx,hf⟩
 ·rintro⟨i,j,xs,x,rfl,hg,hx,hf⟩;exact⟨dG f i xs,mem_map.mpr ⟨(xs,i),mem_zipIdx_iff_getElem?.mpr hg,rfl⟩,mem_rowF.mpr ⟨rfl,j,x,rfl,hx,hf⟩⟩
theorem jJ {g:bF}{i j:Nat}{xs:List Int}{x:Int}(h1:g[i]?=some xs)(h2:xs[j]?=some x):atG g ((i:Int),(j:Int))=x:=by unfold atG;simp [getD_eq_getElem?_getD,h1,h2]
theorem zE {r:Int}:∀(pre xs:List Int)(v:Int×Int->Int),(∀j x,xs[j]?=some x->v (r,((pre.length+j:Nat):Int))=x)->(((xs.zipIdx pre.length).filterMap fun q=>if pos q.1 then some (r,(q.2:Int))else none).map v)=xs.filter pos
 |_,[],_,_=>by simp
 |pre,x::xs,v,h=>by
  have ih:=zE (r:=r) (pre++[x]) xs v fun j y hy=>by
   have:=h (j+1) y (by simpa using hy);rw [length_append];have e:pre.length+[x].length+j=pre.length+(j+1):=by simp;omega
   rw [e];exact this
  have h0:=h 0 x rfl;rw [length_append]at ih;rw [zipIdx_cons];have ih':(((xs.zipIdx (pre.length+1)).filterMap fun q=>if pos q.1 then some (r,(q.2:Int))else none).map v)=xs.filter pos:=ih;cases hp:pos x with
  |true=>
   rw [List.filterMap_cons_some (b:=(r,(pre.length:Int))) (by simp [hp]),map_cons,ih',filter_cons_of_pos hp]
   congr 1
  |false=>
   rw [List.filterMap_cons_none (by simp [hp]),ih',filter_cons_of_neg (by simp [hp])]
theorem nK (g:bF):(bB pos g).map (atG g)=(g.map fun xs=>xs.filter pos).flatten:=by
 unfold bB;rw [List.map_flatten,map_map];have e:g.zipIdx.map (List.map (atG g)∘fun p=>dG pos p.2 p.1)=g.zipIdx.map fun p=>p.1.filter pos:=by
  refine map_congr_left fun p hp=> ?_;obtain⟨xs,i⟩:=p;have hx:=mem_zipIdx_iff_getElem?.mp hp;show(dG pos i xs).map (atG g)=xs.filter pos;exact zE (r:=(i:Int)) [] xs (atG g) fun j x hj=>by
   simp only [length_nil,zero_add];exact jJ hx hj
 rw [e]
 congr 1
 have:(fun p:List Int×Nat=>p.1.filter pos)=(fun xs=>xs.filter pos)∘Prod.fst:=rfl;rw [this,←map_map,List.zipIdx_map_fst]
theorem A09 (xs:List Int):(xs.filter pos).sum=gQ xs:=by
 unfold gQ
 induction xs with
 |nil=>rfl
 |cons x xs ih=>
  rw [map_cons,sum_cons,←ih];by_cases h:0<=x
  ·rw [filter_cons_of_pos (by simp [pos,h]),sum_cons]
   congr 1
   split<;>omega
  ·rw [filter_cons_of_neg (by simp [pos,h])];rw [if_neg (by omega)];omega
theorem wY:∀g:bF,(g.map fun xs=>xs.filter pos).flatten.sum=bJ g
 | []=>rfl
 |xs::g=>by
  rw [map_cons,List.flatten_cons,sum_append,A09,wY g];unfold bJ;rw [map_cons,sum_cons]
theorem uX (g:bF):((bB pos g).map (atG g)).sum=bJ g:=by rw [nK,wY]
theorem fS (g:bF):(bB pos g).length=cO g:=by have:=congrArg List.length (nK g);rw [length_map]at this;rw [this,List.length_flatten,map_map];rfl
end Grd
namespace L2
open PySem Grd
def lC (s:Stmt):List Stmt:=match s with| .For _ _ b _ _=>b|_=> []
def RowsG (H:Hp)(bs:List Addr)(g:bF):Prop:=Paired (fun b xs=>H b=some (.tup ((xs:List Int).map V.int))) bs g
def GridAt (H:Hp)(a:Addr)(g:bF):Prop:=∃bs:List Addr,H a=some (.tup (bs.map V.ref))/\RowsG H bs g
theorem RowsG.ext (h:RowsG H bs g)(e:Ext H H'):RowsG H' bs g:=Paired.mapP h fun _ _ z=>e.tup _ _ z
theorem GridAt.ext (h:GridAt H a g)(e:Ext H H'):GridAt H' a g:=let ⟨bs,h1,h2⟩:=h;⟨bs,e.tup _ _ h1,h2.ext e⟩
theorem RowsG.get:∀{bs:List Addr}{g:bF}{i:Nat}{xs:List Int},RowsG H bs g->g[i]?=some xs->∃b,bs[i]?=some b/\H b=some (.tup (xs.map V.int))
 |_,_,0,_,.cons r _,h=>by cases h;exact⟨_,rfl,r⟩
 |_,_,i+1,_,.cons _ t,h=>RowsG.get (i:=i) t (by simpa using h)
theorem RowsG.row:∀{bs:List Addr}{g:bF}{i:Nat}{b:Addr},RowsG H bs g->bs[i]?=some b->∃xs,g[i]?=some xs/\H b=some (.tup (xs.map V.int))
 |_,_,0,_,.cons r _,h=>by cases h;exact⟨_,rfl,r⟩
 |_,_,i+1,_,.cons _ t,h=>RowsG.row (i:=i) t (by simpa using h)
end L2
namespace M07
open PySem L2 PyProof.Rows Grd
structure dY (mg:Str->Option Value):Prop where
 range:mg "range" =none
 list:mg "list" =none
 zip:mg "zip" =none
 sum:mg "sum" =none
 dict:mg "dict" =none
 set:mg "set" =none
 sorted:mg "sorted" =none
 any:mg "any" =none
 abs:mg "abs" =none
 road:∃t,mg "ROAD" =some (.int (-1) t)
end M07
namespace L2
open PySem PySem.Spec PyProof.Rows
def PlAt (H:Hp)(ps:List Addr)(cs:List (Int×Int)):Prop:=Paired (fun p c=>H p=some (.tup [.int c.1,.int c.2])) ps cs
theorem PlAt.same (h:PlAt H ps cs)(s:Same H H'):PlAt H' ps cs:=Paired.mapP h fun _ _ e=>s _ _ e
theorem PlAt.snoc (h:PlAt H ps cs)(e:H p=some (.tup [.int c.1,.int c.2])):PlAt H (ps++[p]) (cs++[c]):=Paired.snoc h e
end L2
namespace PySem
open Sem (wp)
section
structure gS (z TI TO i1 i2:Addr)(f1 f2:List Addr):Prop where
 z1:z∉f1
 z2:z∉f2
 o1:TO∉f1
 o2:TO∉f2
 c1:i1∉f2
 c2:i2∉f1
 Iz:TI≠z
 Oz:TO≠z
 iz:i1≠z
 jz:i2≠z
 IO:TI≠TO
 I1:TI≠i1
 I2:TI≠i2
 O1:TO≠i1
 O2:TO≠i2
 ij:i1≠i2
theorem A1v (n a b:Nat)(h1:a<n)(h2:b<n):gS (n+4) (n+2) (n+3) n (n+1) [n,a] [n+1,b]:=by
  constructor<;>intro h<;>first
    | (have h':@Eq Nat _ _:=h;omega)
    | (rcases mem_cons.mp h with y|y
       · have y':@Eq Nat _ _:=y;omega
       · have y':@Eq Nat _ _:=mem_singleton.mp y;omega)
theorem A79 {z TI TO i1 i2:Addr}{f1 f2:List Addr}{n1 n2 k:Nat}{P1 P2:Nat->Value->Prop}{S1 S2:Nat->Heap->Prop}{a b:Value}{Q:Value->Shared->Prop}(D1:Draws prog w A i1 f1 n1 P1 S1)(D2:Draws prog w A i2 f2 n2 P2 S2)(D:gS z TI TO i1 i2 f1 f2)
  (hz:IsZip s.heap z TI TO .none)(hTI:IsPair s.heap TI (.ref i1) (.ref i2))(hTO:IsPair s.heap TO a b)(t1:S1 k s.heap)(t2:S2 k s.heap)(hk1:k<n1)(hk2:k<n2)
  (hQ:∀x y h' tk,P1 k x->P2 k y->IsZip h' z TI TO (rawInt s.heap.objs.size)->IsPair h' TO x y->S1 (k+1) h'->S2 (k+1) h'->IsPair h' s.heap.objs.size x y->
   (∀c o,c≠z->c≠TO->c≠i1->c≠i2->s.heap.get? c=some o->h'.get? c=some o)->Q (.ref s.heap.objs.size) {s with heap:=h',toks:=tk}):
  wpAny (model prog w) A (Builtin.«zip.__next__» ⟨[.ref z],[]⟩) (fun fin s'=> ∃v,fin= .done (.ret v)/\Q v s') E s:=by
 show wpAny _ _ (field (.ref z) 2>>=_) _ _ _;refine zjZ (wpAny_field hz rfl (x:=.bool false) rfl ?_);show wpAny _ _ (field (.ref z) 3>>=_) _ _ _;refine zjZ (wpAny_field hz rfl (x:=.ref TI) rfl (zjZ (wpAny_seqItems hTI rfl ?_)));show wpAny _ _ (Builtin.SmallTypes.ownedTupleIsFree (.ref z)>>=_) _ _ _;refine zjZ ?_;unfold Builtin.SmallTypes.ownedTupleIsFree;refine zjZ (wpAny_field hz rfl (x:=.none) rfl (zjY ?_));simp only [if_true];refine zjZ (wpAny_rule (zjZ (wpAny_field hz rfl (x:=.ref TO) rfl (zjZ (wpAny_setField_rec hz (by simp) fun h₁ hz₁ hs₁=> ?_)))));replace hz₁:IsZip h₁ z TI TO .ellipsis:=hz₁;refine zjZ ?_;simp only [zipIdx_cons,zipIdx_nil,forIn_cons,forIn_nil];refine zjZ (zjZ (wpAny_onRaise ?_));show wpAny _ _ (Builtin.SmallTypes.nextOf (.ref i1)>>=_) _ _ _;have u1:S1 k h₁:=D1.frame k _ _ t1 fun c hc o e=>hs₁.extBut _ _ (fun q=>D.z1 (q▸hc)) e;refine zjZ (D1.item k _ _ _ hk1 u1 fun x h₂ tk₂ hx v1 hs₂=>zjY ?_);have hTO₂:IsPair h₂ TO a b:=hs₂.extBut _ _ D.O1 (hs₁.extBut _ _ D.Oz hTO);refine zjZ (wpAny_seqItems hTO₂ rfl (zjZ (wpAny_updateSeq_pair hTO₂ fun h₃ hTO₃ hs₃=> ?_)));replace hTO₃:IsPair h₃ TO x b:=hTO₃;refine zjZ (wpAny_letGo (zjY ?_));refine zjZ (zjZ (wpAny_onRaise ?_));show wpAny _ _ (Builtin.SmallTypes.nextOf (.ref i2)>>=_) _ _ _;have u2:S2 k h₃:=D2.frame k _ _ t2 fun c hc o e=>hs₃.extBut _ _ (fun q=>D.o2 (q▸hc)) (hs₂.extBut _ _ (fun q=>D.c1 (q▸hc)) (hs₁.extBut _ _ (fun q=>D.z2 (q▸hc)) e));refine zjZ (D2.item k _ _ _ hk2 u2 fun y h₄ tk₄ hy v2 hs₄=>zjY ?_);have hTO₄:IsPair h₄ TO x b:=hs₄.extBut _ _ D.O2 hTO₃;refine zjZ (wpAny_seqItems hTO₄ rfl (zjZ (wpAny_updateSeq_pair hTO₄ fun h₅ hTO₅ hs₅=> ?_)));replace hTO₅:IsPair h₅ TO x y:=hTO₅;refine zjZ (wpAny_letGo (zjY (zjY ?_)));refine zjZ (wpAny_seqItems hTO₅ rfl (zjZ (wpAny_newTuple ?_)));have hsz:h₅.objs.size=s.heap.objs.size:=by rw [hs₅.1,hs₄.1,hs₃.1,hs₂.1,hs₁.1]
 have hz₅:IsZip h₅ z TI TO .ellipsis:=hs₅.extBut _ _ D.Oz.symm (hs₄.extBut _ _ D.jz.symm (hs₃.extBut _ _ D.Oz.symm (hs₂.extBut _ _ D.iz.symm hz₁)));have hk₅:∀c o,c≠z->c≠TO->c≠i1->c≠i2->s.heap.get? c=some o->h₅.get? c=some o:=fun c o e1 e2 e3 e4 e=>hs₅.extBut _ _ e2 (hs₄.extBut _ _ e4 (hs₃.extBut _ _ e2 (hs₂.extBut _ _ e3 (hs₁.extBut _ _ e1 e))));have w1:S1 (k+1) h₅:=D1.frame _ _ _ v1 fun c hc o e=>hs₅.extBut _ _ (fun q=>D.o1 (q▸hc)) (hs₄.extBut _ _ (fun q=>D.c2 (q▸hc)) (hs₃.extBut _ _ (fun q=>D.o1 (q▸hc)) e));have w2:S2 (k+1) h₅:=D2.frame _ _ _ v2 fun c hc o e=>hs₅.extBut _ _ (fun q=>D.o2 (q▸hc)) e;have hzlt:z<h₅.objs.size:=zjT hz₅;show wpAny _ _ (Builtin.SmallTypes.ownedTupleHandOut (.ref z) (.ref h₅.objs.size)>>=_) _ _ _;refine zjZ ?_;unfold Builtin.SmallTypes.ownedTupleHandOut;have hz₆:IsZip (h₅.push {cls:=.type "tuple",data:=.seq #[x,y]}) z TI TO .ellipsis:=zjX _ hz₅;refine zjZ (wpAny_setField_rec hz₆ (by simp) fun h₇ hz₇ hs₇=> ?_);replace hz₇:IsZip h₇ z TI TO (rawInt h₅.objs.size):=hz₇;refine wpAny_setField_rec hz₇ (by simp) fun h₈ hz₈ hs₈=> ?_;replace hz₈:IsZip h₈ z TI TO (rawInt h₅.objs.size):=hz₈;have up:∀c o,c≠z->h₅.get? c=some o->h₈.get? c=some o:=fun c o e1 e=>hs₈.extBut _ _ e1 (hs₇.extBut _ _ e1 (zjX _ e));have hT₈:IsPair h₈ h₅.objs.size x y:=hs₈.extBut _ _ (ne_of_gt hzlt) (hs₇.extBut _ _ (ne_of_gt hzlt) (get?_push_size _ rfl));rw [hsz]at hz₈ hT₈;refine zjY ⟨_,rfl,?_⟩;show Q (.ref h₅.objs.size) _;rw [hsz];exact hQ x y h₈ _ hx hy hz₈ (up _ _ D.Oz hTO₅) (D1.frame _ _ _ w1 fun c hc o e=>up c o (fun q=>D.z1 (q▸hc)) e) (D2.frame _ _ _ w2 fun c hc o e=>up c o (fun q=>D.z2 (q▸hc)) e) hT₈ fun c o e1 e2 e3 e4 e=>up c o e1 (hk₅ c o e1 e2 e3 e4 e)
theorem A33 (D1:Draws prog w A i1 f1 n1 P1 S1)(D:gS z TI TO i1 i2 f1 f2)
  (hz:IsZip s.heap z TI TO .none)(hTI:IsPair s.heap TI (.ref i1) (.ref i2))(t1:S1 n1 s.heap)
  (hE:∀h' e,(∀c o,c≠z->c≠i1->s.heap.get? c=some o->h'.get? c=some o)->(∃o,h'.get? e=some o/\o.cls= .type "StopIteration")->E (.ref e) {s with heap:=h'}):
  wpAny (model prog w) A (Builtin.«zip.__next__» ⟨[.ref z],[]⟩) Q E s:=by
 show wpAny _ _ (field (.ref z) 2>>=_) _ _ _;refine zjZ (wpAny_field hz rfl (x:=.bool false) rfl ?_);show wpAny _ _ (field (.ref z) 3>>=_) _ _ _;refine zjZ (wpAny_field hz rfl (x:=.ref TI) rfl (zjZ (wpAny_seqItems hTI rfl ?_)));show wpAny _ _ (Builtin.SmallTypes.ownedTupleIsFree (.ref z)>>=_) _ _ _;refine zjZ ?_;unfold Builtin.SmallTypes.ownedTupleIsFree;refine zjZ (wpAny_field hz rfl (x:=.none) rfl (zjY ?_));simp only [if_true];refine zjZ (wpAny_rule (zjZ (wpAny_field hz rfl (x:=.ref TO) rfl (zjZ (wpAny_setField_rec hz (by simp) fun h₁ hz₁ hs₁=> ?_)))));replace hz₁:IsZip h₁ z TI TO .ellipsis:=hz₁;refine zjZ ?_;simp only [zipIdx_cons,zipIdx_nil,forIn_cons,forIn_nil];refine zjZ (zjZ (wpAny_onRaise ?_));show wpAny _ _ (Builtin.SmallTypes.nextOf (.ref i1)>>=_) _ _ _;have u1:S1 n1 h₁:=D1.frame n1 _ _ t1 fun c hc o e=>hs₁.extBut _ _ (fun q=>D.z1 (q▸hc)) e;refine zjZ (D1.done _ _ _ u1 fun h₂ e hs₂ he=> ?_);obtain⟨oe,hoe,hce⟩:=he;have hz₂:IsZip h₂ z TI TO .ellipsis:=hs₂ _ _ D.iz.symm hz₁;have hez:e≠z:=fun x=>by subst x;rw [hz₂]at hoe;cases hoe;simp at hce
 refine wpAny_setField_rec hz₂ (by simp) fun h₃ _ hs₃=>hE h₃ e (fun c o c1 c3 x=>hs₃.extBut _ _ c1 (hs₂ _ _ c3 (hs₁.extBut _ _ c1 x))) ⟨oe,hs₃.extBut _ _ hez hoe,hce⟩
theorem A9b {z TI TO i1 i2:Addr}{f1 f2:List Addr}{n1 n2 k:Nat}{P1 P2:Nat->Value->Prop}{S1 S2:Nat->Heap->Prop}{a b:Value}{Q:Option Value->Shared->Prop}(D1:Draws prog w A.in1 i1 f1 n1 P1 S1)(D2:Draws prog w A.in1 i2 f2 n2 P2 S2)(D:gS z TI TO i1 i2 f1 f2)
  (hz:IsZip s.heap z TI TO .none)(hTI:IsPair s.heap TI (.ref i1) (.ref i2))(hTO:IsPair s.heap TO a b)(t1:S1 k s.heap)(t2:S2 k s.heap)(hk1:k<n1)(hk2:k<n2)
  (hQ:∀x y h' tk,P1 k x->P2 k y->IsZip h' z TI TO (rawInt s.heap.objs.size)->IsPair h' TO x y->S1 (k+1) h'->S2 (k+1) h'->IsPair h' s.heap.objs.size x y->
   (∀c o,c≠z->c≠TO->c≠i1->c≠i2->s.heap.get? c=some o->h'.get? c=some o)->Q (some (.ref s.heap.objs.size)) {s with heap:=h',toks:=tk}):
  wpAny (model prog w) A (pyNext (.ref z)) Q E s:=by
 have hT:s.TypeIs (.ref z) "zip":=⟨_,hz,rfl⟩;unfold pyNext;exact zjZ (wpAny_attempt (wpAny_callSpecial?_slot (name:=Str.ofString "__next__") hT F.slot_zip_next (wpAny_call_entry F.slot_zip_next hT F.entry_zip_next
   (A79 D1 D2 D hz hTI hTO t1 t2 hk1 hk2 fun x y h' tk q1 q2 a1 a2 a3 a4 a5 a6=>zjY (hQ x y h' tk q1 q2 a1 a2 a3 a4 a5 a6)) (F.args_zip_next_1 _))))
theorem A1j (D1:Draws prog w A.in1 i1 f1 n1 P1 S1)(D:gS z TI TO i1 i2 f1 f2)
  (hz:IsZip s.heap z TI TO .none)(hTI:IsPair s.heap TI (.ref i1) (.ref i2))(t1:S1 n1 s.heap)
  (hQ:∀h',(∀c o,c≠z->c≠i1->s.heap.get? c=some o->h'.get? c=some o)->Q none {s with heap:=h'}):wpAny (model prog w) A (pyNext (.ref z)) Q E s:=by
 have hT:s.TypeIs (.ref z) "zip":=⟨_,hz,rfl⟩;unfold pyNext;refine zjZ (wpAny_attempt (wpAny_callSpecial?_slot (name:=Str.ofString "__next__") hT F.slot_zip_next (wpAny_call_entry F.slot_zip_next hT F.entry_zip_next (A33 D1 D hz hTI t1 fun h' e hk he=> ?_) (F.args_zip_next_1 _))));obtain⟨o,ho,hc⟩:=he;exact zjZ (wpAny_isInstance (T:="StopIteration") (b:=true) ⟨o,ho,hc⟩ isSubtype_stop (zjY (hQ _ hk)))
end
abbrev zT1 (h:Heap)(l1:Addr):Heap:=h.push {cls:=.type "tuple_iterator",data:=.fields #[.ref l1,.int 0 0]}
abbrev zT2 (h:Heap)(l1 l2:Addr):Heap:=(zT1 h l1).push {cls:=.type "tuple_iterator",data:=.fields #[.ref l2,.int 0 0]}
abbrev zT3 (h:Heap)(l1 l2:Addr):Heap:=(zT2 h l1 l2).push {cls:=.type "tuple",data:=.seq #[.ref h.objs.size,.ref (zT1 h l1).objs.size]}
abbrev zT4 (h:Heap)(l1 l2:Addr):Heap:=(zT3 h l1 l2).push {cls:=.type "tuple",data:=.seq #[.none,.none]}
abbrev zT5 (h:Heap)(l1 l2:Addr):Heap:=(zT4 h l1 l2).push {cls:=.type "zip",data:=.fields #[.none,.bool false,.bool false,.ref (zT2 h l1 l2).objs.size,.ref (zT3 h l1 l2).objs.size]}
theorem A4x (l1 l2:Addr)(xs ys:Array Value):
  Meets (Builtin.«zip.__new__» ⟨[.type "zip",.ref l1,.ref l2],[]⟩) (fun _ R s=>s.heap.IsTuple l1 xs/\s.heap.IsTuple l2 ys/\R (.ok (.ret (.ref (zT4 s.heap l1 l2).objs.size))) {s with heap:=zT5 s.heap l1 l2}):=
 .of_wp fun prog w A R s h=>by
  obtain⟨hp,g,d,tk,os⟩:=s;obtain⟨p1,p2,h⟩:=h;have isz:=sub_zip;have q1:Heap.IsTuple (Shared.heap ⟨hp,g,d,tk,os⟩) l1 xs:=p1;have q2:Heap.IsTuple (Shared.heap ⟨hp.push {cls:=.type "tuple_iterator",data:=.fields #[.ref l1,.int 0 0]},g,d,tk,os⟩) l2 ys:=let ⟨o,ho,r⟩:=p2;⟨o,zjX _ ho,r⟩
  wp_walk using wpAny_pyIter_tuple q1,wpAny_pyIter_tuple q2
  exact⟨_,rfl,h⟩
section
theorem A5i (p1:s.heap.IsTuple l1 xs)(p2:s.heap.IsTuple l2 ys)
  (h:∀h',IsZip h' (s.heap.objs.size+4) (s.heap.objs.size+2) (s.heap.objs.size+3) .none->IsPair h' (s.heap.objs.size+2) (.ref s.heap.objs.size) (.ref (s.heap.objs.size+1))->
   IsPair h' (s.heap.objs.size+3) .none .none->h'.IsTupleIter s.heap.objs.size l1 0->h'.IsTupleIter (s.heap.objs.size+1) l2 0->h'.objs.size=s.heap.objs.size+5->
   (∀c o,s.heap.get? c=some o->h'.get? c=some o)->Q (.ref (s.heap.objs.size+4)) {s with heap:=h'}):
  wpAny (model prog w) A (call (.type "zip") [.ref l1,.ref l2]) Q E s:=by
 refine callType_new F.called_zip (by decide) (F.typeCall_zip_2 _ _) (F.newCall_zip_2 _ _) (fun obj=>F.args_object_init_3 obj _ _) F.entry_zip_new (A4x l1 l2 xs ys) ⟨p1,p2,?_⟩;have y1:(zT1 s.heap l1).objs.size=s.heap.objs.size+1:=size_push ..;have y2:(zT2 s.heap l1 l2).objs.size=s.heap.objs.size+2:=by rw [size_push,y1]
 have y3:(zT3 s.heap l1 l2).objs.size=s.heap.objs.size+3:=by rw [size_push,y2]
 have y4:(zT4 s.heap l1 l2).objs.size=s.heap.objs.size+4:=by rw [size_push,y3]
 have y5:(zT5 s.heap l1 l2).objs.size=s.heap.objs.size+5:=by rw [size_push,y4]
 have r5:(zT5 s.heap l1 l2).get? (zT4 s.heap l1 l2).objs.size=some _:=get?_push_size _ rfl;have r4:(zT5 s.heap l1 l2).get? (zT3 s.heap l1 l2).objs.size=some _:=zjX _ (get?_push_size _ rfl);have r3:(zT5 s.heap l1 l2).get? (zT2 s.heap l1 l2).objs.size=some _:=zjX _ (zjX _ (get?_push_size _ rfl));have r2:(zT5 s.heap l1 l2).get? (zT1 s.heap l1).objs.size=some _:=zjX _ (zjX _ (zjX _ (get?_push_size _ rfl)));have r1:(zT5 s.heap l1 l2).get? s.heap.objs.size=some _:=zjX _ (zjX _ (zjX _ (zjX _ (get?_push_size _ rfl))));show _/\_;rw [y2,y3,y4]at r5;rw [y1,y2]at r3;rw [y3]at r4;rw [y1]at r2;rw [y4];exact⟨⟨_,r5,rfl⟩,h _ r5 r3 r4 ⟨_,r1,rfl,rfl⟩ ⟨_,r2,rfl,rfl⟩ y5 fun c o x=>zjX _ (zjX _ (zjX _ (zjX _ (zjX _ x))))⟩
theorem A0r (D1:Draws prog w A i1 f1 n1 P1 S1)(D2:Draws prog w A i2 f2 n2 P2 S2)(D:gS z TI TO i1 i2 f1 f2)
  (hz:IsZip s.heap z TI TO .none)(hTI:IsPair s.heap TI (.ref i1) (.ref i2))(hTO:IsPair s.heap TO a b)(t1:S1 n2 s.heap)(t2:S2 n2 s.heap)(hk1:n2<n1)
  (hE:∀h' e tk,(∀c o,c≠z->c≠TO->c≠i1->c≠i2->s.heap.get? c=some o->h'.get? c=some o)->(∃o,h'.get? e=some o/\o.cls= .type "StopIteration")->E (.ref e) {s with heap:=h',toks:=tk}):
  wpAny (model prog w) A (Builtin.«zip.__next__» ⟨[.ref z],[]⟩) Q E s:=by
 show wpAny _ _ (field (.ref z) 2>>=_) _ _ _;refine zjZ (wpAny_field hz rfl (x:=.bool false) rfl ?_);show wpAny _ _ (field (.ref z) 3>>=_) _ _ _;refine zjZ (wpAny_field hz rfl (x:=.ref TI) rfl (zjZ (wpAny_seqItems hTI rfl ?_)));show wpAny _ _ (Builtin.SmallTypes.ownedTupleIsFree (.ref z)>>=_) _ _ _;refine zjZ ?_;unfold Builtin.SmallTypes.ownedTupleIsFree;refine zjZ (wpAny_field hz rfl (x:=.none) rfl (zjY ?_));simp only [if_true];refine zjZ (wpAny_rule (zjZ (wpAny_field hz rfl (x:=.ref TO) rfl (zjZ (wpAny_setField_rec hz (by simp) fun h₁ hz₁ hs₁=> ?_)))));replace hz₁:IsZip h₁ z TI TO .ellipsis:=hz₁;refine zjZ ?_;simp only [zipIdx_cons,zipIdx_nil,forIn_cons,forIn_nil];refine zjZ (zjZ (wpAny_onRaise ?_));show wpAny _ _ (Builtin.SmallTypes.nextOf (.ref i1)>>=_) _ _ _;have u1:S1 n2 h₁:=D1.frame n2 _ _ t1 fun c hc o e=>hs₁.extBut _ _ (fun q=>D.z1 (q▸hc)) e;refine zjZ (D1.item n2 _ _ _ hk1 u1 fun x h₂ tk₂ hx v1 hs₂=>zjY ?_);have hTO₂:IsPair h₂ TO a b:=hs₂.extBut _ _ D.O1 (hs₁.extBut _ _ D.Oz hTO);refine zjZ (wpAny_seqItems hTO₂ rfl (zjZ (wpAny_updateSeq_pair hTO₂ fun h₃ hTO₃ hs₃=> ?_)));refine zjZ (wpAny_letGo (zjY ?_));refine zjZ (zjZ (wpAny_onRaise ?_));show wpAny _ _ (Builtin.SmallTypes.nextOf (.ref i2)>>=_) _ _ _;have u2:S2 n2 h₃:=D2.frame n2 _ _ t2 fun c hc o e=>hs₃.extBut _ _ (fun q=>D.o2 (q▸hc)) (hs₂.extBut _ _ (fun q=>D.c1 (q▸hc)) (hs₁.extBut _ _ (fun q=>D.z2 (q▸hc)) e));refine zjZ (D2.done _ _ _ u2 fun h₄ e hs₄ he=> ?_);obtain⟨oe,hoe,hce⟩:=he;have hz₄:IsZip h₄ z TI TO .ellipsis:=hs₄ _ _ D.jz.symm (hs₃.extBut _ _ D.Oz.symm (hs₂.extBut _ _ D.iz.symm hz₁));have hez:e≠z:=fun x=>by subst x;rw [hz₄]at hoe;cases hoe;simp at hce
 refine wpAny_setField_rec hz₄ (by simp) fun h₅ _ hs₅=>hE h₅ e _ (fun c o c1 c2 c3 c4 x=>hs₅.extBut _ _ c1 (hs₄ _ _ c4 (hs₃.extBut _ _ c2 (hs₂.extBut _ _ c3 (hs₁.extBut _ _ c1 x))))) ⟨oe,hs₅.extBut _ _ hez hoe,hce⟩
theorem A0k (D1:Draws prog w A.in1 i1 f1 n1 P1 S1)(D2:Draws prog w A.in1 i2 f2 n2 P2 S2)(D:gS z TI TO i1 i2 f1 f2)
  (hz:IsZip s.heap z TI TO .none)(hTI:IsPair s.heap TI (.ref i1) (.ref i2))(hTO:IsPair s.heap TO a b)(t1:S1 n2 s.heap)(t2:S2 n2 s.heap)(hk1:n2<n1)
  (hQ:∀h' tk,(∀c o,c≠z->c≠TO->c≠i1->c≠i2->s.heap.get? c=some o->h'.get? c=some o)->Q none {s with heap:=h',toks:=tk}):wpAny (model prog w) A (pyNext (.ref z)) Q E s:=by
 have hT:s.TypeIs (.ref z) "zip":=⟨_,hz,rfl⟩;unfold pyNext;refine zjZ (wpAny_attempt (wpAny_callSpecial?_slot (name:=Str.ofString "__next__") hT F.slot_zip_next (wpAny_call_entry F.slot_zip_next hT F.entry_zip_next (A0r D1 D2 D hz hTI hTO t1 t2 hk1 fun h' e tk hk he=> ?_) (F.args_zip_next_1 _))));obtain⟨o,ho,hc⟩:=he;exact zjZ (wpAny_isInstance (T:="StopIteration") (b:=true) ⟨o,ho,hc⟩ isSubtype_stop (zjY (hQ _ _ hk)))
end
end PySem
namespace L2
open PySem PySem.Spec PyProof.Rows
structure SeqK where
 Sq:W.Frag->Hp->Addr->List V->Prop
 isq:Heap->Addr->Array Value->Prop
 iit:Heap->Addr->Addr->Nat->Prop
structure SeqK.Ok (k:SeqK):Prop where
 get:∀{X:Cx}{pins:List (Addr×Obj)}{σ:St}{H:Hp}{s:Shared}{a:Addr}{xs:List V},Inv X pins σ H s->k.Sq X.K H a xs->∃its:List Value,Vals xs its/\k.isq s.heap a its.toArray
 inj:∀{X:Cx}{pins:List (Addr×Obj)}{σ:St}{H:Hp}{s:Shared}{a:Addr}{xs ys:List V},Inv X pins σ H s->k.Sq X.K H a xs->k.Sq X.K H a ys->xs=ys
 lt:∀{h:Heap}{a:Addr}{its:Array Value},k.isq h a its->a<h.objs.size
 dr:∀{prog:Program}{w:World}{A:Around},A.handled=none->∀(it l:Addr),l≠it->∀items:Array Value,Draws prog w A it [it,l] items.size (fun i v=>items[i]?=some v) (fun i h=>k.iit h it l i/\k.isq h l items)
 obj:∀{h:Heap}{it l:Addr}{i:Nat},k.iit h it l i->∃o,h.get? it=some o/\∀v,o.data≠ .cell v
 «at»:∀{h h':Heap}{it l:Addr}{i:Nat},k.iit h it l i->(∀o,h.get? it=some o->h'.get? it=some o)->k.iit h' it l i
 zip:∀{prog:Program}{w:World}{A:Around}{E:Value->Shared->Prop}{s:Shared}{l1 l2:Addr}{xs ys:Array Value}{Q:Value->Shared->Prop},k.isq s.heap l1 xs->k.isq s.heap l2 ys->
  (∀h',IsZip h' (s.heap.objs.size+4) (s.heap.objs.size+2) (s.heap.objs.size+3) .none->IsPair h' (s.heap.objs.size+2) (.ref s.heap.objs.size) (.ref (s.heap.objs.size+1))->IsPair h' (s.heap.objs.size+3) .none .none->
   k.iit h' s.heap.objs.size l1 0->k.iit h' (s.heap.objs.size+1) l2 0->(∀c o,s.heap.get? c=some o->h'.get? c=some o)->Q (.ref (s.heap.objs.size+4)) {s with heap:=h'})->wpAny (model prog w) A (call (.type "zip") [.ref l1,.ref l2]) Q E s
def kL:SeqK:=⟨SqL,Heap.IsList,Heap.IsListIter⟩
def kT:SeqK:=⟨SqT,Heap.IsTuple,Heap.IsTupleIter⟩
theorem uV:kL.Ok where
 get:=fun I h=>let ⟨its,r,p,_⟩:=I.list h;⟨its,r,p.isList⟩
 inj:=fun I h1 h2=>I.list_inj h1 h2
 lt:=fun p=>let ⟨o,ho,_⟩:=p;zjT ho
 dr:=fun hh it l hne items=>Draws.list hh it l hne items
 obj:=fun⟨o,e,c,d⟩=> ⟨o,e,fun v z=>by rw [d]at z;cases z⟩
 «at»:=fun x k=>Heap.IsListIter.at x k
 zip:=fun p1 p2 h=>call_zip_2 p1 p2 fun h' a1 a2 a3 a4 a5 _ a7=>h h' a1 a2 a3 a4 a5 a7
theorem wJ:kT.Ok where
 get:=fun I h=>let ⟨its,r,p,_⟩:=I.tuple h;⟨its,r,p⟩
 inj:=fun I h1 h2=>I.tuple_inj h1 h2
 lt:=fun p=>let ⟨o,ho,_⟩:=p;zjT ho
 dr:=fun hh it l hne items=>Draws.tuple hh it l hne items
 obj:=fun⟨o,e,c,d⟩=> ⟨o,e,fun v z=>by rw [d]at z;cases z⟩
 «at»:=fun x k=>Heap.IsTupleIter.at x k
 zip:=fun p1 p2 h=>A5i p1 p2 fun h' a1 a2 a3 a4 a5 _ a7=>h h' a1 a2 a3 a4 a5 a7
def Itz (S1 S2:Hp->List V->Prop):It:=
 ⟨fun i H=> ∃xs ys x y,S1 H xs/\S2 H ys/\xs[i]?=some x/\ys[i]?=some y,fun i H v H'=> ∃p x y,v= .ref p/\H p=none/\H'=upd H p (.tup [x,y])/\(∀xs,S1 H xs->xs[i]?=some x)/\∀ys,S2 H ys->ys[i]?=some y,fun i H=> ∃xs ys,S1 H xs/\S2 H ys/\(xs.length=i\/(ys.length=i/\i<xs.length))⟩
theorem A49 {P:Program}{w:World}{K:W.Frag}{es:List Expr}{x1}{pos:Pos}{k:SeqK}(ok:k.Ok)(z TI TO i1 i2 a b:Addr)(D:gS z TI TO i1 i2 [i1,a] [i2,b])(ha:a≠i1)(hb:b≠i2):
  fQ P w K (.Tuple es x1 pos) (Itz (fun H xs=>k.Sq K H a xs) fun H ys=>k.Sq K H b ys) [z,TI,TO,i1,i2] z (fun i h=>IsZip h z TI TO .none/\IsPair h TI (.ref i1) (.ref i2)/\(∃u v,IsPair h TO u v)/\k.iit h i1 a i/\k.iit h i2 b i)where
 mem:=by simp
 obj:=fun i h st c hc=>by
  obtain⟨hz,hTI,⟨u,v,hTO⟩,h1,h2⟩:=st;simp only [mem_cons,not_mem_nil,or_false]at hc;rcases hc with rfl|rfl|rfl|rfl|rfl
  ·exact⟨_,hz,fun v z=>by cases z⟩
  ·exact⟨_,hTI,fun v z=>by cases z⟩
  ·exact⟨_,hTO,fun v z=>by cases z⟩
  ·exact ok.obj h1
  ·exact ok.obj h2
 keep:=fun i h h' st kp=>by
  obtain⟨hz,hTI,⟨u,v,hTO⟩,h1,h2⟩:=st;exact⟨kp z (by simp) _ hz,kp TI (by simp) _ hTI,⟨u,v,kp TO (by simp) _ hTO⟩,ok.at h1 fun o q=>kp i1 (by simp) o q,ok.at h2 fun o q=>kp i2 (by simp) o q⟩
 item:=by
  intro X hP hw hK hc i pins s σ H E I hf st hg;subst hP hw hK;obtain⟨hz,hTI,⟨u,v,hTO⟩,h1,h2⟩:=st;obtain⟨xs,ys,x,y,q1,q2,e1,e2⟩:=hg;obtain⟨its,rv,p1⟩:=ok.get I q1;obtain⟨jts,rw',p2⟩:=ok.get I q2;obtain⟨ux,hux,rx⟩:=rv.get e1;obtain⟨uy,huy,ry⟩:=rw'.get e2;have l1:i<its.toArray.size:=by rw [size_toArray];exact(zjW.mp hux).1
  have l2:i<jts.toArray.size:=by rw [size_toArray];exact(zjW.mp huy).1
  have hh:X.A.in1.handled=none:=by simp [I.ok.hd hc]
  refine A9b (ok.dr hh i1 a ha its.toArray) (ok.dr hh i2 b hb jts.toArray) D hz hTI hTO ⟨h1,p1⟩ ⟨h2,p2⟩ l1 l2 fun vx vy h' tk hvx hvy g1 g2 g3 g4 g5 g6=> ?_;have ex:vx=ux:=by
   have e:its[i]?=some vx:=by simpa using hvx
   rw [hux]at e;exact(Option.some.inj e).symm
  have ey:vy=uy:=by
   have e:jts[i]?=some vy:=by simpa using hvy
   rw [huy]at e;exact(Option.some.inj e).symm
  subst ex ey;refine⟨_,rfl,wpAny_letOwnedTupleGo_zip (s:={s with heap:=h',toks:=tk}) g1 fun h2' hz2 hs2=> ?_⟩;have hn:H s.heap.objs.size=none:=I.hok.fresh (zjQ _);have lz:∀{c o},s.heap.get? c=some o->s.heap.objs.size≠c:=fun e=>ne_of_gt (zjT e);have li1:s.heap.objs.size≠i1:=let ⟨o,e,_⟩:=ok.obj h1;lz e;have li2:s.heap.objs.size≠i2:=let ⟨o,e,_⟩:=ok.obj h2;lz e;have kp:∀c o,c∉[z,TI,TO,i1,i2]->s.heap.get? c=some o->h2'.get? c=some o:=fun c o hc' q=>by
   have c1:c≠z:=fun e=>hc' (by simp [e]);exact(hs2.2 c c1).trans (g6 c o c1 (fun e=>hc' (by simp [e])) (fun e=>hc' (by simp [e])) (fun e=>hc' (by simp [e])) q)
  have hT2:IsPair h2' s.heap.objs.size vx vy:=(hs2.2 _ (lz hz)).trans g5;have I2:Inv X pins σ (upd H s.heap.objs.size (.tup [x,y])) {s with heap:=h2',toks:=tk}:=I.turnLaid (fp:=[z,TI,TO,i1,i2]) kp hf (zjQ _) ⟨by show 2<=sizeLine;rw [sizeLine_eq];decide,[vx,vy],.cons rx (.cons ry .nil),⟨_,hT2,rfl,_,rfl⟩⟩;have hTI2:IsPair h2' TI (.ref i1) (.ref i2):=(hs2.2 _ D.Iz).trans (g6 _ _ D.Iz D.IO D.I1 D.I2 hTI);refine⟨.ref s.heap.objs.size,_,I2,rfl,⟨s.heap.objs.size,x,y,rfl,hn,rfl,fun zs hz'=>by rw [ok.inj I hz' q1];exact e1,fun zs hz'=>by rw [ok.inj I hz' q2];exact e2⟩,⟨hz2,hTI2,⟨_,_,(hs2.2 _ D.Oz).trans g2⟩,ok.at g3.1 fun o q=>(hs2.2 _ D.iz).trans q,ok.at g4.1 fun o q=>(hs2.2 _ D.jz).trans q⟩,fun c hc'=> ?_⟩;have hcz:c≠s.heap.objs.size:=by
   simp only [mem_cons,not_mem_nil,or_false]at hc';rcases hc' with rfl|rfl|rfl|rfl|rfl
   ·exact(lz hz).symm
   ·exact(lz hTI).symm
   ·exact(lz hTO).symm
   ·exact li1.symm
   ·exact li2.symm
  rw [aY hcz];exact(hf c hc').1
 done:=by
  intro X hP hw hK hc i pins s σ H E I hf st hg;subst hP hw hK;obtain⟨hz,hTI,⟨u,v,hTO⟩,h1,h2⟩:=st;obtain⟨xs,ys,q1,q2,hxy⟩:=hg;obtain⟨its,rv,p1⟩:=ok.get I q1;have hl:=rv.length;have hh:X.A.in1.handled=none:=by simp [I.ok.hd hc]
  rcases hxy with hx| ⟨hy,hx⟩
  rotate_left
  ·obtain⟨jts,rw',p2⟩:=ok.get I q2;have hl2:=rw'.length;have hi2:jts.toArray.size=i:=by rw [size_toArray,←hl2,hy]
   have hi1:i<its.toArray.size:=by rw [size_toArray,←hl];exact hx
   refine A0k (ok.dr hh i1 a ha its.toArray) (ok.dr hh i2 b hb jts.toArray) D hz hTI hTO (by rw [hi2];exact⟨h1,p1⟩) (by rw [hi2];exact⟨h2,p2⟩) (by rw [hi2];exact hi1) fun h' tk hk=> ⟨rfl,?_⟩;exact I.turnedL (fp:=[z,TI,TO,i1,i2]) (t':=tk) (fun c o hc' q=>hk c o (fun e=>hc' (by simp [e])) (fun e=>hc' (by simp [e])) (fun e=>hc' (by simp [e])) (fun e=>hc' (by simp [e])) q) hf
  have hi:its.toArray.size=i:=by rw [size_toArray,←hl,hx]
  refine A1j (ok.dr hh i1 a ha its.toArray) D hz hTI (by rw [hi];exact⟨h1,p1⟩) fun h' hk=> ⟨rfl,?_⟩;exact I.turnedL (fp:=[z,TI,TO,i1,i2]) (t':=s.toks) (fun c o hc' q=>hk c o (fun e=>hc' (by simp [e])) (fun e=>hc' (by simp [e])) q) hf
 self:=fun _ _ _ _ _ st h=>wpAny_pyIter_zip st.1 h
def A6j (k:SeqK)(K:W.Frag)(ta:TA):TI:=fun σ H R=>ta σ H fun vs H1=> ∃a b xs ys,vs=[.ref a,.ref b]/\k.Sq K H1 a xs/\k.Sq K H1 b ys/\R (Itz (fun H xs=>k.Sq K H a xs) fun H ys=>k.Sq K H b ys) H1
section
theorem lH {a b:Expr}{ta:TA}{p pos:Pos}{es:List Expr}{x1}{tpos:Pos}{k:SeqK}(ok:k.Ok)(hg:Gl X "zip")(hm:X.mg "zip" =none)(ha:PA X [a,b] ta)(hs:starEach [a,b] X.env=[(false,eval a X.env),(false,eval b X.env)]:=by rfl)(hs2:starEach [b] X.env=[(false,eval b X.env)]:=by rfl):
  PI X (.Tuple es x1 tpos) (.Call (.Name "zip" p) [a,b] [] pos) (A6j k X.K ta):=by
 intro pins s σ H R I h;refine Call_ (iH I hg hm boot_zip (PyProof.Rows.callWith_type1 (thn (ha pos pins s σ H _ I h) fun us s1 ⟨vs,H1,I1,r1,q1⟩=> ?_) (by rw [hs,hs2]) (by rw [hs2];rfl)));obtain⟨a',b',xs,ys,e,q1,q2,q⟩:=q1;subst e;obtain⟨u,v,rfl,rx,ry⟩:=oF r1;cases rx;cases ry;obtain⟨its,rv,p1⟩:=ok.get I1 q1;obtain⟨jts,rw',p2⟩:=ok.get I1 q2;have l1:=ok.lt p1;have l2:=ok.lt p2;refine ok.zip p1 p2 fun h' a1 a2 a3 a4 a5 a7=> ?_;refine wpAny_pyIter_zip (s:={s1 with heap:=h'}) a1 ?_;have I2:Inv X pins σ H1 {s1 with heap:=h'}:=I1.kept (t':=s1.toks) a7;have far:=A1v s1.heap.objs.size a' b' l1 l2;refine⟨s1.heap.objs.size+4,[s1.heap.objs.size+4,s1.heap.objs.size+2,s1.heap.objs.size+3,s1.heap.objs.size,s1.heap.objs.size+1],_,_,H1,rfl,I2,A49 ok _ _ _ _ _ a' b' far (ne_of_lt l1) (ne_of_lt (lt_succ_of_lt l2)),⟨a1,a2,⟨_,_,a3⟩,a4,a5⟩,fun c hc'=> ?_,q⟩;have hge:s1.heap.objs.size<=c:=by
  simp only [mem_cons,not_mem_nil,or_false]at hc';rcases hc' with rfl|rfl|rfl|rfl|rfl
  ·exact Nat.le_add_right _ 4
  ·exact Nat.le_add_right _ 2
  ·exact Nat.le_add_right _ 3
  ·exact zjQ _
  ·exact le_succ _
 exact I1.fpOk hge (I1.hok.fresh hge)
theorem oD (hlen:ys.length<=xs.length)(Pv:Nat->St->Hp->Prop)(h0:Pv 0 σ H)(hl:∀i σ H,Pv i σ H->S1 H xs/\S2 H ys)
  (hs:∀i x y p σ H,xs[i]?=some x->ys[i]?=some y->Pv i σ H->H p=none->g (.ref p) σ (upd H p (.tup [x,y])) fun σ2 H2=>tb {D with nx:=Pv (i+1),ct:=Pv (i+1),bk:=D.nx} σ2 H2)(hd:∀σ H,Pv ys.length σ H->D.nx σ H):
  cP (Itz S1 S2) g tb D σ H:=by
 refine⟨fun i m σ H=>m=ys.length - i/\i<=ys.length/\Pv i σ H,⟨ys.length,by simp,zero_le _,h0⟩,?_⟩;rintro i m σ H ⟨rfl,hi,p⟩;obtain⟨q1,q2⟩:=hl i σ H p;by_cases hlt2:i<ys.length
 ·have hlt:i<xs.length:=by omega
  refine .inr ⟨⟨xs,ys,xs[i],ys[i],q1,q2,by simp [hlt],by simp [hlt2]⟩,Pv (i+1),fun σ' H' p'=> ⟨ys.length -(i+1),by omega,rfl,hlt2,p'⟩,fun x H' y=> ?_⟩;obtain⟨pp,a,b,e1,e2,e3,e4,e5⟩:=y;subst e1 e3;exact hs i a b pp σ H (e4 xs q1) (e5 ys q2) p e2
 ·have e:i=ys.length:=by omega
  subst e;exact .inl ⟨⟨xs,ys,q1,q2,by omega⟩,hd σ H p⟩
end
section
variable {X:Cx}
theorem kS (ns:List Int):∀j:Nat,preSum (fun i=>(ns[i]?).getD 0) j=(ns.take j).sum
 |0=>by simp [preSum]
 |j+1=>by
  have ih:=kS ns j;rw [take_succ,sum_append];show preSum (fun i=>(ns[i]?).getD 0) j+(ns[j]?).getD 0=_;rw [ih];cases ns[j]?<;>simp
theorem pI (hB:0<=B):∀{ns:List Int},(∀n∈ns,-B<=n/\n<=B)->-(B*ns.length)<=ns.sum/\ns.sum<=B*ns.length
 | [],_=>by simp
 |n::ns,h=>by
  have ih:=pI hB (ns:=ns) fun m hm=>h m (zjS _ hm);have h0:=h n zjR;rw [sum_cons,length_cons];have e:B*((ns.length+1:Nat):Int)=B*(ns.length:Int)+B:=by
   rw [Int.natCast_add,Int.mul_add];simp
  rw [e];constructor<;>omega
theorem A0a (hc:X.calm=true):dF X (.builtin "sum") (fun xs H Q=> ∃(p:Addr)(ns:List Int),xs=[.ref p]/\SqL X.K H p (ns.map V.int)/\ns.length<=1000/\(∀n∈ns,-1000<=n/\n<=1000)/\Q (.int ns.sum) H):=by
 intro pins s σ H xs us Q I r h;obtain⟨p,ns,rfl,hq,hl,hn,q⟩:=h;obtain⟨u,rfl,rx⟩:=dJ r;cases rx;obtain⟨its,rv,pl,hz⟩:=I.list hq;have hlen:=rv.length;rw [length_map]at hlen;have hlt:p<s.heap.objs.size:=by obtain⟨_,e,_⟩:=pl.isList;exact zjT e
 have long:∀z:Int,-1000000<=z->z<=1000000->InLong z:=fun z h1 h2=>by unfold InLong;omega
 refine call_sum_walk (wpAny_pyIter_list pl.isList ?_);refine⟨s.heap.objs.size,[s.heap.objs.size,p],[s.heap.objs.size],its.toArray.size,_,_,fun i=>(ns[i]?).getD 0,rfl,Walks.list (A:=X.A.in1) (by simp [I.ok.hd hc]) _ p (ne_of_lt hlt) its.toArray,⟨⟨_,get?_push_size _ rfl,rfl,rfl⟩,pl.isList.push _⟩,fun b hb=> ?_,fun i v hP=> ?_,fun j hj=> ?_,fun h' tk t' hk=> ?_⟩
 ·show b<(s.heap.push _).objs.size;rw [size_push];rcases mem_cons.mp hb with z|z
  ·rw [z];exact lt_succ_self _
  ·rw [mem_singleton.mp z];exact lt_succ_of_lt hlt
 ·have hP':its[i]?=some v:=by simpa using hP
  have hi:i<ns.length:=by rw [hlen];exact(zjW.mp hP').1
  obtain⟨u,hu,ru⟩:=rv.get (i:=i) (x:=.int ns[i]) (by rw [getElem?_map];simp [hi]);rw [hP']at hu;cases hu;obtain⟨t,rfl⟩:=ru;exact⟨t,by simp [hi]⟩
 ·have hj':j<ns.length:=by rw [size_toArray]at hj;omega
  refine⟨?_,?_⟩
  ·have:=hn ns[j] (getElem_mem hj');have e:(ns[j]?).getD 0=ns[j]:=by simp [hj']
   show InLong ((ns[j]?).getD 0);rw [e];exact long _ (by omega) (by omega)
  ·rw [kS];have:=pI (B:=1000) (by decide) (ns:=ns.take (j+1)) fun n h=>hn n (mem_of_mem_take h);have h2:(ns.take (j+1)).length<=1000:=by rw [length_take];omega
   exact long _ (by omega) (by omega)
 ·have e:preSum (fun i=>(ns[i]?).getD 0) its.toArray.size=ns.sum:=by
   rw [kS,size_toArray,←hlen,take_of_length_le (zjQ _)]
  rw [e];exact⟨.int _,H,I.kept (h':=h') (t':=tk) (LSm.kept_iter hk),⟨_,rfl⟩,q⟩
theorem pK {pins:List (Addr×Obj)}{σ:St}{H:Hp}{s:Shared}{A:Around}{a p:Addr}{c d:Int×Int}(I:Inv X pins σ H s)(hu:A.units<cLine)(ha:H a=some (.tup [.int d.1,.int d.2]))(hp:H p=some (.tup [.int c.1,.int c.2])):SeqAt.EqAt A s (.ref a) (.ref p) (decide (d=c)):=by
 by_cases hap:a=p
 ·subst hap;rw [ha]at hp;have e:d=c:=by
   injection hp with z;injection z with z;injection z with z1 z2;injection z2 with z2 _;exact Prod.ext (V.int.inj z1) (V.int.inj z2)
  rw [zjV e];exact SeqAt.EqAt.same _
 ·obtain⟨its,r1,p1,_⟩:=I.tuple (SqT.of ha);obtain⟨jts,r2,p2,_⟩:=I.tuple (SqT.of hp);obtain⟨x1,x2,rfl,⟨t1,rfl⟩,⟨t2,rfl⟩⟩:=r1.two;obtain⟨y1,y2,rfl,⟨u1,rfl⟩,⟨u2,rfl⟩⟩:=r2.two;have key:SeqAt.RcAt A s (.ref a) (.ref p) ((List.range (min 2 2)).all (fun j=>if j=0 then d.1==c.1 else d.2==c.2)&&(2:Nat)==2):=SeqAt.RcAt.tuples (items:=#[.int d.1 t1,.int d.2 t2]) (items2:=#[.int c.1 u1,.int c.2 u2]) p1 p2 hu fun j h1 h2=>by
   match j,h1,h2 with
   |0,_,_=>exact SeqAt.EqAt.int_int _ _ _ _
   |1,_,_=>exact SeqAt.EqAt.int_int _ _ _ _
  have e:((List.range (min 2 2)).all (fun j=>if j=0 then d.1==c.1 else d.2==c.2)&&(2:Nat)==2)=decide (d=c):=by
   obtain⟨d1,d2⟩:=d;obtain⟨c1,c2⟩:=c;show(List.all [0,1] _&&true)=_;simp only [all_cons,List.all_nil,Bool.and_true,if_true,Nat.one_ne_zero,if_false];rw [Bool.eq_iff_iff];simp
  rw [e]at key;exact SeqAt.EqAt.of_refs hap key
def A3j:R2:=fun x y H Q=> ∃p l ps cs c,x= .ref p/\y= .ref l/\H p=some (.tup [.int c.1,.int c.2])/\H l=some (.lst (ps.map V.ref))/\PlAt H ps cs/\Q (.bl (decide (c∈cs))) H
theorem vN (he:∀a d,H a=some (.tup [.int d.1,.int d.2])->e (.ref a)=decide (d=c)):∀{ps:List Addr}{cs:List (Int×Int)}{us:List Value},PlAt H ps cs->Vals (ps.map V.ref) us->us.any e=decide (c∈cs)
 |_,_,_,.nil,.nil=>by simp
 |p::ps,d::cs,u::us,.cons h t,.cons r v=>by
  cases (show u=Value.ref p from r);rw [any_cons,he p d h,vN he t v,Bool.eq_iff_iff];simp only [Bool.or_eq_true,decide_eq_true_eq,mem_cons];constructor
  ·rintro(z|z)
   ·exact .inl z.symm
   ·exact .inr z
  ·rintro(z|z)
   ·exact .inl z.symm
   ·exact .inr z
theorem sJ:∀{ps:List Addr}{cs:List (Int×Int)}{us:List Value},PlAt H ps cs->Vals (ps.map V.ref) us->∀u∈us,∃(a:Addr)(d:Int×Int),u= .ref a/\H a=some (.tup [.int d.1,.int d.2])
 |_,_,_,.nil,.nil=>fun u hu=>by cases hu
 |p::ps,d::cs,u::us,.cons h t,.cons r v=>fun w hw=>by
  cases (show u=Value.ref p from r);rcases mem_cons.mp hw with z|z
  ·exact⟨p,d,z,h⟩
  ·exact sJ t v w z
open Classical in
theorem A58 (hu:X.A.units+1<cLine):OpR X (compareOp .In) A3j:=by
 intro pins s σ H x y v u Q I rx ry h;obtain⟨p,l,ps,cs,c,rfl,rfl,hp,hl,hP,q⟩:=h;cases rx;cases ry;obtain⟨its,r,pl,hz⟩:=I.list (SqL.of hl);let e:Value->Bool:=fun y=>decide (∃a,y= .ref a/\H a=some (.tup [.int c.1,.int c.2]));have he:∀a d,H a=some (.tup [.int d.1,.int d.2])->e (.ref a)=decide (d=c):=fun a d ha=>by
  show decide (∃a',Value.ref a= .ref a'/\_)=_;rw [Bool.eq_iff_iff];simp only [decide_eq_true_eq];constructor
  ·rintro⟨a',z1,z2⟩;cases z1;rw [ha]at z2;injection z2 with z;injection z with z;injection z with z1 z2;injection z2 with z2 _
   exact Prod.ext (V.int.inj z1) (V.int.inj z2)
  ·intro z;subst z;exact⟨a,rfl,ha⟩
 refine SeqAt.in_listAt e pl.isList (fun y hy=> ?_) ⟨.bl _,H,I,rfl,?_⟩
 ·obtain⟨a,d,rfl,ha⟩:=sJ hP r y (by simpa using hy);rw [he a d ha];exact pK I (show X.A.units+1<cLine from hu) ha hp
 ·rw [show its.toArray.any e=its.any e by simp,vN he hP r];exact q
end
section
end
section
variable {X:Cx}{x:Str}{z:Str}{j:Nat}{np p1 cpos pos:Pos}{C:Addr}{E:XK}
end
def Cx.within (X:Cx)(e:Addr)(oe:Obj):Cx:={X with A:=X.A.mark (some (.ref e)),calm:=false,pn:=(e,oe)::X.pn,xe:=fun _ _=>False}
section
end
section
variable {X:Cx}{E:XK}{R:VK}{y n:Str}{i:Nat}{Cy:Addr}{b₀:Stmt}{suite:List Stmt}{np hp:Pos}{tS:Addr->Obj->TS}
end
section
variable {P:Program}{w:World}{K:W.Frag}{mg:Str->Option Value}{base:Heap}
end
end L2
namespace L2
open PySem PySem.Spec PyProof.Rows Grd
theorem GridAt.same (h:GridAt H a g)(s:Same H H'):GridAt H' a g:=h.ext s.ext
theorem xN {K:W.Frag}{a l:Addr}{g:bF}{bs:List Addr}{f:Int->Bool}{H0:Hp}{tt2:TT}{Q:St->Hp->Prop}(ha:H0 a=some (.tup (bs.map V.ref)))(hG:RowsG H0 bs g)(hl:H0 l=none)(h4:g.length<=4)(h6:∀xs∈g,xs.length<=6)
  (htt:∀(at' k:Nat)(r:V)(i:Int) H' (Q':Bool->Hp->Prop),Q' (f i) H'->tt2 [some (.int at'),some r,some (.int k),some (.int i)] H' Q')
  (hQ:∀σ H' ps,Same H0 H'->H' l=some (.lst (ps.map V.ref))->PlAt H' ps (bB f g)->Q σ H'):
  cP (Ite fun H xs=>SqT K H a xs) (iX K 2 (dX (cJ 0) (dX (cJ 1) iA))) (cK fL (nB (uT K (cE (cS 1) jO)) (iX K 2 (dX (cJ 2) (dX (cJ 3) iA))) tt2 (dO l (mY (cE (cS 0) (cE (cS 2) jO)))))) (eC Q) [none,none,none,none] (upd H0 l (.lst [])):=by
 have s0:Same H0 (upd H0 l (.lst [])):=aQ hl;have hbs:bs.length=g.length:=Paired.length hG;refine mB (xs:=bs.map V.ref) (fun i σ H'=>σ.length=4/\Same H0 H'/\∃ps,H' l=some (.lst (ps.map V.ref))/\PlAt H' ps (bB f (g.take i))/\ps.length<=6*i) ⟨rfl,s0,[],by rw [aG];rfl,.nil,zero_le _⟩ (fun i σ H' _ h=>SqT.of (h.2.1 _ _ ha)) ?_ ?_
 ·rintro i r p σ H' hx ⟨hσ,hs,ps,hl',hP,hn⟩ hp;obtain⟨b,hbi,rfl⟩:∃b,bs[i]?=some b/\V.ref b=r:=by
   rw [getElem?_map]at hx;cases e:bs[i]? with
   |none=>rw [e]at hx;cases hx
   |some b=>rw [e]at hx;exact⟨b,rfl,Option.some.inj hx⟩
  obtain⟨xs,hgi,hb⟩:=hG.row hbi;have hx6:=h6 xs (mem_of_getElem? hgi);have hi4:i<4:=lt_of_lt_of_le (zjW.mp hgi).1 h4;have s1:Same H' (upd H' p (.tup [.int i,.ref b])):=aQ hp
  match σ,hσ with
  | [x0,x1,x2,x3],_=>
  refine⟨p,_,rfl,SqT.of aG,rfl,_,_,rfl,_,_,rfl,rfl,?_⟩;refine fU ?_;refine⟨_,rfl,b,xs.map V.int,rfl,SqT.of (s1 _ _ (hs _ _ hb)),?_⟩;refine mB (xs:=xs.map V.int) (fun j σ H2=>(∃y2 y3,σ=[some (.int i),some (.ref b),y2,y3])/\Same H0 H2/\∃ps,H2 l=some (.lst (ps.map V.ref))/\PlAt H2 ps (bB f (g.take i)++dG f i (xs.take j))/\ps.length<=6*i+j) ?_ (fun j σ H2 _ h=>SqT.of (h.2.1 _ _ hb)) ?_ ?_
  ·exact⟨⟨x2,x3,rfl⟩,hs.trans s1,ps,s1 _ _ hl',by simpa [dG]using hP.same s1,hn⟩
  ·rintro j x p2 σ H2 hxj ⟨⟨y2,y3,rfl⟩,hs2,ps2,hl2,hP2,hn2⟩ hp2;obtain⟨z,hzj,rfl⟩:∃z,xs[j]?=some z/\V.int z=x:=by
    rw [getElem?_map]at hxj;cases e:xs[j]? with
    |none=>rw [e]at hxj;cases hxj
    |some z=>rw [e]at hxj;exact⟨z,rfl,Option.some.inj hxj⟩
   have hj6:j<6:=lt_of_lt_of_le (zjW.mp hzj).1 hx6;have s2:Same H2 (upd H2 p2 (.tup [.int j,.int z])):=aQ hp2;refine⟨p2,_,rfl,SqT.of aG,rfl,_,_,rfl,_,_,rfl,rfl,?_⟩;refine htt i j (.ref b) z _ _ (dC (fun e=> ?_) fun e=> ?_)
   ·refine⟨_,rfl,_,rfl,(by show 2<=sizeLine;decide),fun q hq=> ?_⟩;have s3:=aQ (o:=.tup [.int i,.int j]) hq;have hlq:l≠q:=bL (s2 _ _ hl2) hq;refine⟨_,s3 _ _ (s2 _ _ hl2),cH (by rw [length_map];omega),⟨_,_,rfl⟩,fun b' u e'=> ?_,ps2++[q],?_,?_,?_⟩
    ·rw [aY (bL e' hl)];exact s3 _ _ (s2 _ _ (hs2 _ _ e'))
    ·rw [aG,map_append];rfl
    ·have hne:∀b' u,(upd (upd H2 p2 (.tup [.int j,.int z])) q (.tup [.int i,.int j])) b'=some (.tup u)->(upd (upd (upd H2 p2 (.tup [.int j,.int z])) q (.tup [.int i,.int j])) l (.lst (ps2.map V.ref++[.ref q]))) b'=some (.tup u):=fun b' u e'=>by
      rw [aY (fun z'=> ?_)];exact e';rw [z',aY hlq,s2 _ _ hl2]at e';cases e'
     rw [Grd.rowF_succ f i xs j _ hzj,if_pos e,←append_assoc];exact PlAt.snoc (Paired.mapP ((hP2.same s2).same s3) fun _ _ e'=>hne _ _ e') (hne _ _ aG)
    ·rw [length_append];show ps2.length+1<=_;omega
   ·refine⟨⟨_,_,rfl⟩,hs2.trans s2,ps2,s2 _ _ hl2,?_,by omega⟩;rw [Grd.rowF_succ f i xs j _ hzj,if_neg (by rw [e];decide),append_nil];exact hP2.same s2
  ·rintro σ H2 ⟨⟨y2,y3,rfl⟩,hs2,ps2,hl2,hP2,hn2⟩;rw [length_map]at hP2 hn2;refine⟨rfl,hs2,ps2,hl2,?_,by omega⟩;rw [take_of_length_le (zjQ _)]at hP2;rw [Grd.gridF_succ f g i _ hgi];exact hP2
 ·rintro σ H' ⟨_,hs,ps,hl',hP,_⟩;rw [length_map,hbs,take_of_length_le (zjQ _)]at hP;exact hQ σ H' ps hs hl' hP
theorem GridAt.ix {H:Hp}{a:Addr}{g:bF}(hA:GridAt H a g){i j:Nat}{xs:List Int}{x:Int}(h1:g[i]?=some xs)(h2:xs[j]?=some x):∃(bs:List Addr)(b:Addr),H a=some (.tup (bs.map V.ref))/\atI (bs.map V.ref) i=some (.ref b)/\H b=some (.tup (xs.map V.int))/\atI (xs.map V.int) j=some (.int x):=by obtain⟨bs,ha,hG⟩:=hA;obtain⟨b,hb,hr⟩:=hG.get h1;exact⟨bs,b,ha,cC (by rw [getElem?_map,hb];rfl),hr,cC (by rw [getElem?_map,h2];rfl)⟩
end L2
namespace M07
open PySem L2 PyProof.Rows Grd
def eE (f:Int->Bool):Sp:=fun vs H Q _=> ∃a g w,vs=[.ref a]/\GridAt H a g/\cR g w/\∀H' l ps,H l=none->Same H H'->H' l=some (.lst (ps.map V.ref))->PlAt H' ps (bB f g)->Q (.ref l) H'
def sK:Sp:=fun vs H Q _=> ∃b xs,vs=[.ref b]/\H b=some (.tup ((xs:List Int).map V.int))/\1<=xs.length/\xs.length<=6/\(∀n∈xs,-2<=n/\n<=99)/\∀H',Same H H'->Q (.bl true) H'
def qE:Sp:=fun vs H Q _=> ∃a g w,vs=[.ref a]/\GridAt H a g/\cR g w/\∀H',Same H H'->Q (.bl true) H'
theorem uI {H:Hp}{a:Addr}{xs:List V}{lo hi:Int}(h:H a=some (.tup xs))(h1:lo<=xs.length)(h2:(xs.length:Int)<=hi):cZ H lo hi (.ref a)=true:=by
 unfold cZ;rw [iB h];dsimp only
 rw [zjV h1,zjV h2];rfl
theorem qR (xs:List α):(xs.map fun _=>true).all id=true:=by simp
def nC:Sp:=fun vs H Q _=> ∃a g w,vs=[.ref a]/\GridAt H a g/\cR g w/\∀H',Same H H'->Q .non H'
def cX (H:Hp)(v:V):Option (Int×Int):=match tupOf H v with
 |some [.int r,.int c]=>some (r,c)
 |_=>none
def isCell (H:Hp)(g:bF)(v:V):Bool:=match cX H v with
 |some c=>decide (c∈bB pos g)
 |none=>false
def zO:Sp:=fun vs H Q _=> ∃a g w v,vs=[.ref a,v]/\GridAt H a g/\cR g w/\Kn H 2 v/\∀H',Same H H'->Q (.bl (isCell H g v)) H'
section
variable {P:Program}{w:World}{K:W.Frag}{mg:Str->Option Value}{base:Heap}
theorem A1p (F:D1 K mg "places_of_cells" nW ["mead"])(T:Txt mg):A1 P w K mg base 1 "places_of_cells" (eE pos):=by
 refine F.k ["mead"] ?_;ac_nf
 ·obtain⟨a,g,w',rfl,⟨bs,ha,hG⟩,G,q⟩:=h;refine⟨_,aM (bA (uL (bE nW).names ["mead"] ["at","row","k","mark"] [] rfl (jF rfl rfl T.enumerate (bC (pv 0) aA)) rfl rfl rfl (by decide +kernel)
   (fun Z=>bV rfl (aX (nm1 0 nd4) (aX (nm1 1 nd4) bW))) (fun Z=>cB)
   (fun Z=>jF rfl rfl T.enumerate (bC (pv 1) aA)) (fun Z=>bV rfl (aX (nm1 2 nd4) (aX (nm1 3 nd4) bW)))
   (fun Z=>eT (cI lD (pv 3) aO (nomark _))) (fun Z=>cF (bC (pv 0) (bC (pv 2) aA))))),?_⟩
  refine⟨_,rfl,a,_,rfl,SqT.of ha,fun Z l hl=> ?_⟩;exact xN (f:=pos) ha hG hl G.h4 (fun xs hx=>by have:=G.len xs hx;have:=G.w5;omega) (fun at' k r i H' Q' hq=> ⟨_,rfl,_,_,rfl,rfl,_,rfl,hq⟩) fun σ H' ps hs hl' hP=>q H' l ps hl hs hl' hP
theorem A0z (F:D1 K mg "is_row" nX ["thing"])(T:Txt mg)(a1:A1 P w K mg base 1 "is_tuple_within" gX)(a2:A1 P w K mg base 2 "is_number_within" lB):A1 P w K mg base 3 "is_row" sK:=by
 obtain⟨t1,mCol⟩:=T.cols;obtain⟨t2,mWa⟩:=T.water;obtain⟨t3,mWo⟩:=T.worth;refine F.k ["thing"] ?_;ac_nf
 ·obtain⟨b,xs,rfl,hb,h1,h6,hn,q⟩:=h;refine⟨_,aU (bR (bZ (bP (a1.c hr (bC (pv 0) (bC aO (bC (eP (v:=.int 6) rfl mCol ⟨_,rfl⟩) aA)))))) (aM (bA dA)) bU)
   (aM (bA (bH (fE rfl) rfl T.all boot_all (bC (bN (bE nX).names ["thing"] ["mark"] [] rfl (cY (pv 0)) rfl rfl rfl (by decide +kernel)
    (fun Z=>aJ (i:=0) (show(["mark"]:List Str).Nodup by decide +kernel) rfl (Or.inl rfl)) (fun Z=>cB)
    (fun Z=>a2.c hr (bC (pv 0) (bC (eP (v:=.int (-2)) rfl mWa ⟨_,rfl⟩) (bC (eP (v:=.int 99) rfl mWo ⟨_,rfl⟩) aA))))) aA)))),?_⟩
  have hz:(xs.map V.int).length<=1000:=by rw [length_map];omega
  refine⟨_,rfl,.ref b,1,6,rfl,.inr (.inr ⟨_,hb,hz,fun _ _=>trivial⟩),_,rfl,?_⟩;rw [uI hb (by rw [length_map];omega) (by rw [length_map];omega)];refine bT ⟨_,rfl,b,rfl,⟨_,SqT.of hb⟩,fun Z l hl=> ?_⟩;refine iF (fun _=> .bl true) hb hl hz (fun x H' Q' hm hs hq=> ?_) fun σ H' hs hl'=> ?_
  ·obtain⟨n,hn',rfl⟩:=mem_map.mp hm;have:=hn n hn';refine⟨_,rfl,.int n,-2,99,rfl,trivial,?_⟩;rw [show dW (-2) 99 (.int n)=true by simp [dW,this]];exact hq _ (Same.refl _)
  ·refine⟨l,(xs.map V.int).map fun _=>true,rfl,SqL.of (by rw [hl'];simp only [map_map];rfl),?_⟩;rw [qR];exact q H' hs
theorem A6t (F:D1 K mg "is_mead" mW ["thing"])(T:Txt mg)(a1:A1 P w K mg base 1 "is_tuple_within" gX)(a2:A1 P w K mg base 3 "is_row" sK)(a3:A1 P w K mg base 1 "places_of_cells" (eE pos)):A1 P w K mg base 4 "is_mead" qE:=by
 obtain⟨t1,mRow⟩:=T.rows;obtain⟨t2,mCel⟩:=T.cells;refine F.k ["thing"] ?_;ac_nf
 ·obtain⟨a,g,w',rfl,hA,G,q⟩:=h;refine⟨_,aU (bR (bZ (bP (a1.c hr (bC (pv 0) (bC aO (bC (eP (v:=.int 4) rfl mRow ⟨_,rfl⟩) aA)))))) (aM (bA dA)) bU)
   (aU (bR (bZ (bP (bH (fE rfl) rfl T.all boot_all (bC (bN (bE mW).names ["thing"] ["row"] [] rfl (cY (pv 0)) rfl rfl rfl (by decide +kernel)
    (fun Z=>aJ (i:=0) (show(["row"]:List Str).Nodup by decide +kernel) rfl (Or.inl rfl)) (fun Z=>cB) (fun Z=>a2.c hr (bC (pv 0) aA))) aA)))) (aM (bA dA)) bU)
   (aU (bR (bZ (bP (bH (fE rfl) rfl T.all boot_all (bC (bN (bE mW).names ["thing"] ["row"] [("thing",0)] rfl (cY (pv 0)) rfl rfl rfl (by decide +kernel)
    (fun Z=>aJ (i:=0) (show(["row","thing"]:List Str).Nodup by decide +kernel) rfl (Or.inl rfl)) (fun Z=>cB)
    (fun Z=>dD eX (bH eU rfl T.len PySem.boot_len (bC (pv 0) aA)) (bH eU rfl T.len PySem.boot_len (bC (bK cA (pv 1) aO (fun _ _=>rfl)) aA)) (nomark _))) aA)))) (aM (bA dA)) bU)
   (aM (bA (rH iG iG aO (bH eU rfl T.len PySem.boot_len (bC (a3.c hr (bC (pv 0) aA)) aA)) (eP (v:=.int 10) rfl mCel ⟨_,rfl⟩)))))),?_⟩
  obtain⟨bs,ha,hG⟩:=id hA;have hbl:bs.length=g.length:=Paired.length hG;have h4:=G.h4;have h1:=G.h1;have w5:=G.w5;have hz:(bs.map V.ref).length<=1000:=by rw [length_map];omega
  refine⟨_,rfl,.ref a,1,4,rfl,.inr (.inr ⟨_,ha,hz,fun _ _=>trivial⟩),_,rfl,?_⟩;rw [uI ha (by rw [length_map];omega) (by rw [length_map];omega)];refine bT ⟨_,rfl,a,rfl,⟨_,SqT.of ha⟩,fun Z l hl=> ?_⟩;have row:∀x∈bs.map V.ref,∃b xs,x= .ref b/\H b=some (.tup ((xs:List Int).map V.int))/\xs∈g:=fun x hx=>by
   obtain⟨b,hb,rfl⟩:=mem_map.mp hx;obtain⟨i,hi⟩:=mem_iff_getElem?.mp hb;obtain⟨xs,h1,h2⟩:=hG.row hi;exact⟨b,xs,rfl,h2,mem_of_getElem? h1⟩
  refine iF (fun _=> .bl true) ha hl hz (fun x H' Q' hm hs hq=> ?_) fun σ H1 s1 hl1=> ?_
  ·obtain⟨b,xs,rfl,hb,hx⟩:=row x hm;have:=G.len xs hx;have:=G.w1;exact⟨_,rfl,b,xs,rfl,hs _ _ hb,by omega,by omega,G.num xs hx,fun H3 s3=>hq H3 s3⟩
  ·refine⟨l,(bs.map V.ref).map fun _=>true,rfl,SqL.of (by rw [hl1];simp only [map_map];rfl),_,rfl,?_⟩;rw [qR];refine bT ⟨_,rfl,a,rfl,⟨_,SqT.of (s1 _ _ ha)⟩,fun Z2 l2 hl2=> ?_⟩;refine iF (rest:=[some (.ref a)]) (fun _=> .bl true) (s1 _ _ ha) hl2 hz (fun x H' Q' hm hs hq=> ?_) fun σ H2 s2 hl2'=> ?_
   ·obtain⟨b,xs,rfl,hb,hx⟩:=row x hm;obtain⟨xs0,e0⟩:∃xs0,g[0]?=some xs0:=⟨g[0],getElem?_eq_getElem (by omega)⟩;obtain⟨b0,hb0,eb0⟩:=hG.get e0;have sH:=s1.trans hs;refine⟨_,rfl,b,_,rfl,.inr (SqT.of (sH _ _ hb)),_,rfl,a,_,0,.ref b0,rfl,rfl,SqT.of (sH _ _ ha),cC (j:=0) (by rw [getElem?_map,hb0];rfl),b0,_,rfl,.inr (SqT.of (sH _ _ eb0)),rfl,?_⟩;rw [zjV (by rw [length_map,length_map,G.len xs hx,G.len xs0 (mem_of_getElem? e0)])];exact hq _ (Same.refl _)
   ·refine⟨l2,(bs.map V.ref).map fun _=>true,rfl,SqL.of (by rw [hl2'];simp only [map_map];rfl),_,rfl,?_⟩;rw [qR];have s12:=s1.trans s2;refine bT ⟨_,rfl,a,g,w',rfl,hA.same s12,G,fun H3 l3 ps hl3' s3 hl3 hP=> ?_⟩;have hp:ps.length=_:=Paired.length hP;rw [fS]at hp;have c1:=G.c1;have c10:=G.c10;refine⟨l3,_,rfl,.inl (SqL.of hl3),_,_,rfl,rfl,_,rfl,eW (fun z=> ?_) fun z=>absurd ?_ z⟩
    ·refine⟨_,_,rfl,rfl,?_⟩;dsimp only
     rw [zjV (show(((ps.map V.ref).length:Nat):Int)<=10 by rw [length_map];omega)];exact q H3 (s12.trans s3)
    ·rw [length_map];omega
theorem A50 (F:D1 K mg "check_mead" xR ["mead"])(aI:A1 P w K mg base 4 "is_mead" qE):A1 P w K mg base 5 "check_mead" nC:=by
 refine F.k ["mead"] ?_;ac_nf
 ·obtain⟨a,g,w',rfl,hA,G,q⟩:=h;refine⟨_,aM (bR (bZ (bP (aI.c hr (aB (pv 0) aA)))) fJ bU),?_⟩;exact⟨_,rfl,a,g,w',rfl,hA,G,fun H' hs=> ⟨_,rfl,bT (q H' hs)⟩⟩
theorem A6w (F:D1 K mg "cells_of" tH ["mead"])(aC:A1 P w K mg base 5 "check_mead" nC)(aP:A1 P w K mg base 1 "places_of_cells" (eE pos)):A1 P w K mg base 6 "cells_of" (eE pos):=by
 refine F.k ["mead"] ?_;ac_nf
 ·obtain⟨a,g,w',rfl,hA,G,q⟩:=h;refine⟨_,aU (dE (aC.c hr (aB (pv 0) aA)))<|aM (bA (aP.c hr (aB (pv 0) aA))),?_⟩;refine⟨_,rfl,a,g,w',rfl,hA,G,fun H1 s1=> ?_⟩;exact⟨_,rfl,a,g,w',rfl,hA.same s1,G,fun H2 l ps hl s2 hl' hP=>q H2 l ps (s1.free hl) (s1.trans s2) hl' hP⟩
theorem A0m (F:D1 K mg "roads_of" oX ["mead"])(T:Txt mg)(T2:dY mg)(aC:A1 P w K mg base 5 "check_mead" nC):A1 P w K mg base 6 "roads_of" (eE road):=by
 obtain⟨tR,mR⟩:=T2.road;refine F.k ["mead"] ?_;ac_nf
 ·obtain⟨a,g,w',rfl,hA,G,q⟩:=h;refine⟨_,aU (dE (aC.c hr (aB (pv 0) aA)))<|aM (bA (uL (bE oX).names ["mead"] ["at","row","k","mark"] [] rfl (jF rfl rfl T.enumerate (bC (pv 0) aA)) rfl rfl rfl (by decide +kernel)
   (fun Z=>bV rfl (aX (nm1 0 nd4) (aX (nm1 1 nd4) bW))) (fun Z=>cB)
   (fun Z=>jF rfl rfl T.enumerate (bC (pv 1) aA)) (fun Z=>bV rfl (aX (nm1 2 nd4) (aX (nm1 3 nd4) bW)))
   (fun Z=>eT (cI eX (pv 3) (eP (v:=.int (-1)) rfl mR ⟨_,rfl⟩) (nomark _))) (fun Z=>cF (bC (pv 0) (bC (pv 2) aA))))),?_⟩
  refine⟨_,rfl,a,g,w',rfl,hA,G,fun H1 s1=> ?_⟩;obtain⟨bs,ha,hG⟩:=hA.same s1;refine⟨_,rfl,a,_,rfl,SqT.of ha,fun Z l hl=> ?_⟩;refine xN (f:=road) ha hG hl G.h4 (fun xs hx=>by have:=G.len xs hx;have:=G.w5;omega) (fun at' k r i H' Q' hq=> ⟨_,rfl,rfl,_,rfl,?_⟩) fun σ H' ps hs hl' hP=>q H' l ps (s1.free hl) (s1.trans hs) hl' hP;have e:decide (V.int i=V.int (-1))=road i:=by
   unfold road;rw [Bool.eq_iff_iff];simp
  rw [e];exact hq
def tM:Sp:=fun vs H Q _=> ∃v,vs=[v]/\Kn H 2 v/\∀H',Same H H'->Q (.bl (cX H v).isSome) H'
theorem A74 (F:D1 K mg "is_pair_of_numbers" pU ["thing"])(T:Txt mg)(aT:A1 P w K mg base 1 "is_tuple_within" gX)(aN:A1 P w K mg base 1 "is_number" lW):A1 P w K mg base 2 "is_pair_of_numbers" tM:=by
 refine F.k ["thing"] ?_;ac_nf
 ·obtain⟨v,rfl,k,q⟩:=h;refine⟨_,aM (bA (fC (aT.c hr (aB (pv 0) (cW aO (cW aO aA)))) (eZ (bH (fE rfl) rfl T.all boot_all (cM (bN (bE pU).names ["thing"] ["number"] [] rfl (cY (pv 0)) rfl rfl rfl (by decide +kernel)
    (fun Z=>aJ (i:=0) (show(["number"]:List Str).Nodup by decide +kernel) rfl (Or.inl rfl)) (fun Z=>cB) (fun Z=>aN.c hr (aB (pv 0) aA))) aA))))),?_⟩
  refine⟨_,rfl,v,2,2,rfl,k.le (by decide),_,rfl,dC (fun e'=> ?_) fun e'=> ?_⟩
  ·unfold cZ at e';cases z:tupOf H v with
   |none=>rw [z]at e';cases e'
   |some xs=>
    rw [z]at e';obtain⟨p,rfl,hp⟩:=jB z;obtain⟨hz,hk⟩:=k.items hp;have hlen:xs.length=2:=by
     simp only [Bool.and_eq_true,decide_eq_true_eq]at e';omega
    refine⟨_,rfl,p,rfl,⟨xs,SqT.of hp⟩,fun Z l hl=> ?_⟩;refine iF (fun x=> .bl (isInt x)) hp hl hz (fun x H' Q' hm hs hq=> ?_) fun σ H1 s1 hl1=> ?_
    ·exact⟨_,rfl,x,rfl,(hk x hm).ext hs.ext,hq _ (Same.refl _)⟩
    ·refine⟨l,xs.map isInt,rfl,SqL.of (by rw [hl1,map_map];rfl),?_⟩;have:(cX H (.ref p)).isSome=(xs.map L2.isInt).all id:=by
      unfold cX;rw [z]
      match xs,hlen with
      | [x,y],_=>cases x<;>cases y<;>rfl
     have q':=q H1 s1;rw [this]at q';exact q'
  ·have:(cX H v).isSome=false:=by
    unfold cZ at e';unfold cX;cases z:tupOf H v with
    |none=>rfl
    |some xs=>
     rw [z]at e'
     match xs,e' with
     | [x,y],e'=>simp at e'
     | [],_=>rfl
     | [x],_=>cases x<;>rfl
     |x::y::u::t,_=>cases x<;>cases y<;>rfl
   have q':=q H (Same.refl H);rw [this]at q';exact q'
theorem A13 (F:D1 K mg "is_cell" sN ["mead","thing"])(aT:A1 P w K mg base 2 "is_pair_of_numbers" tM)(aP:A1 P w K mg base 1 "places_of_cells" (eE pos)):A1 P w K mg base 3 "is_cell" zO:=by
 refine F.k ["mead","thing"] ?_;ac_nf
 ·obtain⟨a,g,w',v,rfl,hA,G,k,q⟩:=h;refine⟨_,aM (bA (fC (aT.c hr (aB (pv 1) aA)) (eZ (dD (A58 (nD hr)) (pv 1) (aP.c hr (aB (pv 0) aA)) rfl)))),?_⟩;refine⟨_,rfl,v,rfl,k,fun H1 s1=> ⟨_,rfl,dC (fun e=> ?_) fun e=> ?_⟩⟩
  ·obtain⟨⟨r,c⟩,z⟩:=Option.isSome_iff_exists.mp e;have zt:tupOf H v=some [.int r,.int c]:=by
    unfold cX at z
    split at z
    ·rename_i r2 c2 hz;injection z with z;injection z with z1 z2
     subst z1 z2;exact hz
    ·cases z
   obtain⟨p,rfl,hp⟩:=jB zt;refine⟨_,rfl,_,rfl,a,g,w',rfl,hA.same s1,G,fun H2 l2 ps hl2 s2 hl2' hP=> ?_⟩;refine⟨p,l2,ps,bB pos g,(r,c),rfl,rfl,s2 _ _ (s1 _ _ hp),hl2',hP,?_⟩;have:isCell H g (.ref p)=decide ((r,c)∈bB pos g):=by unfold isCell;rw [z]
   have q':=q H2 (s1.trans s2);rw [this]at q';exact q'
  ·have:isCell H g v=false:=by
    unfold isCell;cases z:cX H v with
    |none=>rfl
    |some c=>rw [z]at e;cases e
   have q':=q H1 s1;rw [this]at q';exact q'
def wD:Sp:=fun vs H Q _=> ∃a l g w ps,vs=[.ref a,.ref l]/\GridAt H a g/\cR g w/\H l=some (.lst ((ps:List Addr).map V.ref))/\PlAt H ps (bB pos g)/\∀H',Same H H'->Q (.int (bJ g)) H'
theorem lZ:(["row","column","mead"]:List Str).Nodup:=by decide +kernel
theorem A8v (F:D1 K mg "worth_together" kN ["mead","places"])(T2:dY mg):A1 P w K mg base 1 "worth_together" wD:=by
 refine F.k ["mead","places"] fun nd f cdv A outer s H2 vs Q E hr h=> ?_
 ·obtain⟨a,l,g,w',ps,rfl,hA,G,hl',hP,q⟩:=h;refine⟨_,aM (bA (bH (A0a rfl) rfl T2.sum boot_sum (cM (bN (bE kN).names ["mead","places"] ["row","column"] [("mead",0)] rfl (dN (pv 1)) rfl rfl rfl (by decide +kernel)
    (fun Z=>bV rfl (aX (nm1 0 lZ) (aX (nm1 1 lZ) bW))) (fun Z=>cB) (fun Z=>bK cA (bK cA (pv 2) (pv 0) (fun _ _=>rfl)) (pv 1) (fun _ _=>rfl))) aA))),?_⟩
  have s12:Same H2 H2:=Same.refl H2;refine⟨_,rfl,?_⟩;have hpl:ps.length=(bB pos g).length:=Paired.length hP;have h20:ps.length<=10:=by rw [hpl,fS];exact G.c10
  refine⟨l,rfl,⟨_,SqL.of hl'⟩,fun Z l3 hl3=> ?_⟩;refine gU (K:=K) (a:=l) (xs:=ps.map V.ref) (fun i σ H'=>(∃o1 o2,σ=[o1,o2,some (.ref a)])/\Same H2 H'/\H' l3=some (.lst ((((bB pos g).take i).map (atG g)).map V.int))) ⟨⟨_,_,rfl⟩,aQ hl3,by rw [aG];rfl⟩ (fun i σ H' _ h=>SqL.of (h.2.1 _ _ hl')) ?_ ?_
  ·rintro i x σ H' hi ⟨⟨o1,o2,rfl⟩,hs,hl3'⟩;obtain⟨p,hpi,rfl⟩:∃p,ps[i]?=some p/\V.ref p=x:=by
    rw [getElem?_map]at hi;cases e:ps[i]? with
    |none=>rw [e]at hi;cases hi
    |some p=>rw [e]at hi;exact⟨p,rfl,Option.some.inj hi⟩
   have hil:i<ps.length:=(zjW.mp hpi).1;obtain⟨cc,hci,hpc⟩:∃cc,(bB pos g)[i]?=some cc/\H2 p=some (.tup [.int cc.1,.int cc.2]):=by
    have go:∀{ps:List Addr}{cs:List (Int×Int)}{i:Nat}{p:Addr},PlAt H2 ps cs->ps[i]?=some p->∃cc,cs[i]?=some cc/\H2 p=some (.tup [.int cc.1,.int cc.2]):=by
     intro ps cs i p h
     induction h generalizing i with
     |nil=>intro z;simp at z
     |cons r t ih=>
      intro z;cases i with
      |zero=>cases z;exact⟨_,rfl,r⟩
      |succ i=>exact ih (by simpa using z)
    exact go hP hpi
   obtain⟨i',j',xs,n,rfl,hg,hx,hf⟩:=mem_gridF.mp (mem_of_getElem? hci);obtain⟨bs,b,h1,h2,h3,h4⟩:=(hA.same (s12.trans hs)).ix hg hx;refine⟨p,_,rfl,SqT.of (hs _ _ hpc),rfl,_,_,rfl,_,_,rfl,rfl,?_⟩;refine fU ?_;refine⟨_,rfl,_,rfl,a,_,_,_,rfl,rfl,SqT.of h1,h2,_,rfl,b,_,_,_,rfl,rfl,SqT.of h3,h4,?_⟩;refine⟨_,hl3',cH (by rw [length_map,length_map,length_take];omega),⟨_,_,rfl⟩,fun b' u e'=> ?_,?_⟩
   ·rw [aY (bL e' hl3)];exact hs _ _ e'
   ·rw [aG,take_succ,hci,map_append,map_append];show some (HO.lst (_++[V.int n]))=some (HO.lst (_++[V.int (atG g ((i':Int),(j':Int)))]));rw [jJ hg hx]
  ·rintro σ H' ⟨_,hs,hl3'⟩;rw [length_map,hpl,take_of_length_le (zjQ _)]at hl3';refine⟨l3,_,rfl,SqL.of hl3',by rw [length_map,←hpl];omega,fun n hn=> ?_,?_⟩
   ·rw [nK]at hn;obtain⟨ys,hy,hny⟩:=List.mem_flatten.mp hn;obtain⟨xs,hxg,rfl⟩:=mem_map.mp hy;have:=G.num xs hxg n (mem_filter.mp hny).1;omega
   ·rw [uX];exact q H' (s12.trans hs)
end
end M07
namespace Srt
open PySem PySem.W PyProof.Rows
section
def fI (cmp:Nat->Nat->(Bool->Shared->Prop)->Shared->Prop)(n:Nat)(r:Nat->Int)(s:Shared):Prop:=∀i j (C:Bool->Shared->Prop),i<n->j<n->C (decide (r i<r j)) s->cmp i j C s
def at' (p:Array Nat)(k:Nat):Nat:=p.getD k 0
def Pm (n:Nat)(p:Array Nat):Prop:=p.Perm (List.range n).toArray
theorem Pm.size (h:Pm n p):p.size=n:=by rw [Array.Perm.size_eq h];simp
theorem Pm.lt (h:Pm n p)(k:Nat)(hn:0<n):at' p k<n:=by
 unfold at';by_cases hk:k<p.size
 ·have e:p.getD k 0=p[k]:=by simp [Array.getD,hk]
  rw [e];have h1:p[k]∈p.toList:=by simp
  have h2:=(Array.perm_iff_toList_perm.mp h).mem_iff.mp h1;simpa using h2
 ·have e:p.getD k 0=0:=by simp [Array.getD,hk]
  rw [e];exact hn
def R (r:Nat->Int)(p:Array Nat)(k:Nat):Int:=r (at' p k)
def Up (r:Nat->Int)(p:Array Nat)(k:Nat):Prop:=∀i j,i<=j->j<k->R r p i<=R r p j
def Dn (r:Nat->Int)(p:Array Nat)(k:Nat):Prop:=∀i j,i<=j->j<k->R r p j<=R r p i
theorem A1q (h:Up r p k)(h1:R r p (k - 1)<=R r p k):Up r p (k+1):=by
 intro i j hij hj;by_cases e:j<k
 ·exact h i j hij e
 ·have:j=k:=by omega
  subst this;by_cases e2:i=j
  ·subst e2;exact Int.le_refl _
  ·exact Int.le_trans (h i (j - 1) (by omega) (by omega)) h1
theorem rA (h:Dn r p k)(h1:R r p k<=R r p (k - 1)):Dn r p (k+1):=by
 intro i j hij hj;by_cases e:j<k
 ·exact h i j hij e
 ·have:j=k:=by omega
  subst this;by_cases e2:i=j
  ·subst e2;exact Int.le_refl _
  ·exact Int.le_trans h1 (h i (j - 1) (by omega) (by omega))
theorem A89 (hj:j<=p.size)(k:Nat):at' (kas_rev p i j) k=if i<=k/\k<j then at' p (i+j - 1 - k)else at' p k:=by
 have e:=getElem?_mirror_all (xs:=p) (i:=i) hj k;have g:∀(xs:Array Nat)(k:Nat),at' xs k=(xs[k]?).getD 0:=fun xs k=>by unfold at';simp [Array.getD];split<;>simp [*]
 rw [g,g,g];show(mirror p i j ((j - i)/2))[k]?.getD 0=_;rw [e]
 split<;>rfl
theorem oA (hj:j<=p.size)(k:Nat):R r (kas_rev p i j) k=if i<=k/\k<j then R r p (i+j - 1 - k)else R r p k:=by unfold R;rw [A89 hj];split<;>rfl
theorem jQ (hj:j<=p.size)(h:∀k,i<=k->k<j->R r p k=R r p (j - 1))(k:Nat):R r (kas_rev p i j) k=R r p k:=by
 rw [oA hj]
 split
 ·rw [h _ (by omega) (by omega),h k (by omega) (by omega)]
 ·rfl
theorem Pm.rev (h:Pm n p)(i j:Nat):Pm n (kas_rev p i j):=Array.Perm.trans (mirror_perm _ _ _ _) h
theorem Pm.bub (h:Pm n p)(k d:Nat):Pm n (bubble p k d):=Array.Perm.trans (bubble_perm _ _ _) h
theorem tF (hs:src<p.size)(hd:d<=src)(k:Nat):R r (bubble p src d) k=if k=src - d then R r p src else if src - d<k/\k<=src then R r p (k - 1)else R r p k:=by
 have e:=getElem?_bubble (xs:=p) hs d hd k;have g:∀(xs:Array Nat)(k:Nat),at' xs k=(xs[k]?).getD 0:=fun xs k=>by unfold at';simp [Array.getD];split<;>simp [*]
 unfold R;rw [g,e]
 split
 ·rw [g]
 ·split<;>rw [g]
theorem oG (ha:fI cmp n r s)(hn:0<n)(hp:Pm n p):∀(f k:Nat)(Q:Nat->Shared->Prop),1<=k->Up r p k->(∀m,k<=m->m<=k+f->Up r p m->(m=k+f\/R r p m<R r p (m - 1))->Q m s)->(kas_asc p f k).kasWp cmp Q s
 |0,k,Q,h1,hu,h=>h k (zjQ _) (zjQ _) hu (.inl rfl)
 |f+1,k,Q,h1,hu,h=>by
  show cmp (at' p k) (at' p (k - 1)) (fun b s'=>(if b=true then KasT.ret k else kas_asc p f (k+1)).kasWp cmp Q s') s;refine ha _ _ _ (hp.lt _ hn) (hp.lt _ hn) ?_;by_cases c:r (at' p k)<r (at' p (k - 1))
  ·rw [zjV c];exact h k (zjQ _) (by omega) hu (.inr c)
  ·rw [zjU c];refine oG ha hn hp f (k+1) Q (by omega) (A1q hu (Int.not_lt.mp c)) fun m a b u e=>h m (by omega) (by omega) u ?_;rcases e with e|e
   ·left;omega
   ·exact .inr e
theorem qY (ha:fI cmp n r s)(hn:0<n):∀(f k q:Nat)(p:Array Nat)(Q:Array Nat×Nat×Nat->Shared->Prop),Pm n p->1<=k->k+f<=n->Dn r p k->q+1<=k->(∀i,k -(q+1)<=i->i<k->R r p i=R r p (k - 1))->
  (∀p' m q',Pm n p'->k<=m->m<=k+f->Dn r p' m->q'+1<=m->(∀i,m -(q'+1)<=i->i<m->R r p' i=R r p' (m - 1))->Q (p',m,q') s)->(kas_desc f p k q).kasWp cmp Q s
 |0,k,q,p,Q,hp,h1,hk,hd,hq,he,h=>h p k q hp (zjQ _) (zjQ _) hd hq he
 |f+1,k,q,p,Q,hp,h1,hk,hd,hq,he,h=>by
  have hsz:k<=p.size:=by rw [hp.size];omega
  show cmp (at' p k) (at' p (k - 1)) (fun c s'=>(if c=true then(if q>0 then kas_desc f (kas_rev p (k -(q+1)) k) (k+1) 0 else kas_desc f p (k+1) 0)else KasT.ask (at' p (k - 1)) (at' p k) fun d=>if d=true then KasT.ret (p,k,q)else kas_desc f p (k+1) (q+1)).kasWp cmp Q s') s;refine ha _ _ _ (hp.lt _ hn) (hp.lt _ hn) ?_;by_cases c:r (at' p k)<r (at' p (k - 1))
  ·rw [zjV c];have go:∀p',Pm n p'->(∀i,R r p' i=R r p i)->(kas_desc f p' (k+1) 0).kasWp cmp Q s:=fun p' hp' e=>by
    refine qY ha hn f (k+1) 0 p' Q hp' (by omega) (by omega) ?_ (by omega) ?_ fun p2 m q' a1 a2 a3 a4 a5 a6=>h p2 m q' a1 (by omega) (by omega) a4 a5 a6
    ·intro i j hij hj;rw [e,e];exact rA hd (Int.le_of_lt c) i j hij hj
    ·intro i hi1 hi2;have:i=k:=by omega
     subst this;rfl
   show(if q>0 then kas_desc f (kas_rev p (k -(q+1)) k) (k+1) 0 else kas_desc f p (k+1) 0).kasWp cmp Q s;by_cases hq0:q>0
   ·rw [if_pos hq0];exact go _ (hp.rev _ _) (jQ hsz he)
   ·rw [if_neg hq0];exact go p hp fun _=>rfl
  ·rw [zjU c];show cmp (at' p (k - 1)) (at' p k) (fun d s'=>(if d=true then KasT.ret (p,k,q)else kas_desc f p (k+1) (q+1)).kasWp cmp Q s') s;refine ha _ _ _ (hp.lt _ hn) (hp.lt _ hn) ?_;by_cases d:r (at' p (k - 1))<r (at' p k)
   ·rw [zjV d];exact h p k q hp (zjQ _) (by omega) hd hq he
   ·rw [zjU d];have e:R r p k=R r p (k - 1):=Int.le_antisymm (Int.not_lt.mp d) (Int.not_lt.mp c);show(kas_desc f p (k+1) (q+1)).kasWp cmp Q s;refine qY ha hn f (k+1) (q+1) p Q hp (by omega) (by omega) (rA hd (Int.le_of_eq e)) (by omega) ?_ fun p2 m q' a1 a2 a3 a4 a5 a6=>h p2 m q' a1 (by omega) (by omega) a4 a5 a6;intro i hi1 hi2;rw [show k+1 - 1=k by omega,e];by_cases ik:i=k
    ·rw [ik,e]
    ·exact he i (by omega) (by omega)
theorem vX (ha:fI cmp n r s)(hn:0<n)(hp:Pm n p)(h1:1<=k)(hk:k<=nrem)(hz:nrem<=n)(hd:Dn r p k)
  (h:∀m p',Pm n p'->1<=m->m<=nrem->Up r p' m->Q (m,p') s):(kas_tail3 k nrem p).kasWp cmp Q s:=by
 unfold kas_tail3;rw [KasT.kasWp_bind];have hsz:k<=p.size:=by rw [hp.size];omega
 refine oG ha hn (hp.rev 0 k) _ _ _ h1 ?_ fun m a b u _=>h m _ (hp.rev 0 k) (by omega) (by omega) u;intro i j hij hj;rw [oA hsz,oA hsz,if_pos (by omega),if_pos (by omega)];exact hd _ _ (by omega) (by omega)
theorem xH (ha:fI cmp n r s)(hn:0<n)(hp:Pm n p)(hk:k+1<=nrem)(hz:nrem<=n)(hd:Dn r p (k+1))
  (h:∀m p',Pm n p'->1<=m->m<=nrem->Up r p' m->Q (m,p') s):(kas_descPart k nrem p).kasWp cmp Q s:=by
 unfold kas_descPart;rw [KasT.kasWp_bind];refine qY ha hn _ (k+1) 0 p _ hp (by omega) (by omega) hd (by omega) (fun i a b=>show R r p i=R r p (k+1 - 1) by rw [show i=k+1 - 1 by omega]) fun p' m q hp' a1 a2 hd' hq he=> ?_;show(if q>0 then kas_tail3 m nrem (kas_rev p' (m -(q+1)) m)else kas_tail3 m nrem p').kasWp cmp Q s;have hsz:m<=p'.size:=by rw [hp'.size];omega
 by_cases hq0:q>0
 ·rw [if_pos hq0];refine vX ha hn (hp'.rev _ _) (by omega) (by omega) hz ?_ h;intro i j hij hj;rw [jQ hsz he,jQ hsz he];exact hd' i j hij hj
 ·rw [if_neg hq0];exact vX ha hn hp' (by omega) (by omega) hz hd' h
theorem A2o (ha:fI cmp n r s)(hn:0<n)(hp:Pm n p)
  (h:∀m p',Pm n p'->1<=m->m<=n->Up r p' m->Q (m,p') s):(kas_count n p).kasWp cmp Q s:=by
 unfold kas_count;rw [KasT.kasWp_bind];refine oG ha hn hp _ 1 _ (zjQ _) (fun i j a b=>show R r p i<=R r p j by rw [show i=j by omega];exact Int.le_refl _) fun m a b u e=> ?_;by_cases e1:m=n
 ·rw [if_pos (by simpa using e1)];exact h m p hp a (by omega) u
 ·rw [if_neg (by simpa using e1)];have hlt:R r p m<R r p (m - 1):=e.resolve_left (by omega);have dn1:∀p',Pm n p'->Dn r p' m->(∀i,R r p' i=R r p i)->Dn r p' (m+1):=fun p' _ d z=>rA d (by rw [z,z];exact Int.le_of_lt hlt);by_cases e2:m>1
  ·rw [if_pos e2];show cmp (at' p 0) (at' p (m - 1)) (fun c s'=>(if c=true then KasT.ret (m,p)else kas_descPart m n (kas_rev p 0 m)).kasWp cmp Q s') s;refine ha _ _ _ (hp.lt _ hn) (hp.lt _ hn) ?_;by_cases c:r (at' p 0)<r (at' p (m - 1))
   ·rw [zjV c];exact h m p hp a (by omega) u
   ·rw [zjU c];have hall:∀k,0<=k->k<m->R r p k=R r p (m - 1):=fun k _ hk=>by
     have a1:=u 0 k (by omega) hk;have a2:=u k (m - 1) (by omega) (by omega);have a3:R r p (m - 1)<=R r p 0:=Int.not_lt.mp c;omega
    have hsz:m<=p.size:=by rw [hp.size];omega
    refine xH ha hn (hp.rev 0 m) (by omega) (zjQ _) (dn1 _ (hp.rev 0 m) ?_ (jQ hsz hall)) h;intro i j hij hj;rw [jQ hsz hall,jQ hsz hall,hall i (by omega) (by omega),hall j (by omega) hj];exact Int.le_refl _
  ·rw [if_neg e2];have:m=1:=by omega
   subst this;refine xH ha hn hp (by omega) (zjQ _) (dn1 p hp (fun i j hij hj=> ?_) fun _=>rfl) h;have:i=j:=by omega
   subst this;exact Int.le_refl _
theorem pE (ha:fI cmp n r s)(hn:0<n)(hp:Pm n p)(hu:Up r p k):∀(f lo hi:Nat)(Q:Nat->Shared->Prop),lo<=hi->hi<=k->hi - lo<=f->(∀i,i<lo->R r p i<=R r p k)->(∀i,hi<=i->i<k->R r p k<R r p i)->
  (∀l,l<=k->(∀i,i<l->R r p i<=R r p k)->(∀i,l<=i->i<k->R r p k<R r p i)->Q l s)->(kas_place p k f lo hi).kasWp cmp Q s
 |0,lo,hi,Q,h1,h2,h3,hl,hh,h=>h lo (by omega) hl fun i a b=>hh i (by omega) b
 |f+1,lo,hi,Q,h1,h2,h3,hl,hh,h=>by
  unfold kas_place;by_cases e:lo≥hi
  ·rw [if_pos e];exact h lo (by omega) hl fun i a b=>hh i (by omega) b
  ·rw [if_neg e];show cmp (at' p k) (at' p ((lo+hi)/2)) (fun c s'=>(if c=true then kas_place p k f lo ((lo+hi)/2)else kas_place p k f ((lo+hi)/2+1) hi).kasWp cmp Q s') s;refine ha _ _ _ (hp.lt _ hn) (hp.lt _ hn) ?_;by_cases c:r (at' p k)<r (at' p ((lo+hi)/2))
   ·rw [zjV c];refine pE ha hn hp hu f lo ((lo+hi)/2) Q (by omega) (by omega) (by omega) hl (fun i a b=> ?_) h;exact Int.lt_of_lt_of_le c (hu ((lo+hi)/2) i a b)
   ·rw [zjU c];refine pE ha hn hp hu f ((lo+hi)/2+1) hi Q (by omega) (by omega) (by omega) (fun i a=> ?_) hh h;exact Int.le_trans (hu i ((lo+hi)/2) (by omega) (by omega)) (Int.not_lt.mp c)
theorem A0b (ha:fI cmp n r s)(hn:0<n):∀(f k:Nat)(p:Array Nat)(Q:Array Nat->Shared->Prop),Pm n p->k+f=n->Up r p k->(∀p',Pm n p'->Up r p' n->Q p' s)->(kas_bin f p k).kasWp cmp Q s
 |0,k,p,Q,hp,hk,hu,h=>h p hp (by rw [←hk];exact hu)
 |f+1,k,p,Q,hp,hk,hu,h=>by
  show((kas_place p k k 0 k).bind fun l=>kas_bin f (bubble p k (k - l)) (k+1)).kasWp cmp Q s;rw [KasT.kasWp_bind];refine pE ha hn hp hu k 0 k _ (zero_le _) (zjQ _) (by omega) (fun i a=>by omega) (fun i a b=>by omega) fun l hl h1 h2=> ?_;refine A0b ha hn f (k+1) _ Q (hp.bub _ _) (by omega) ?_ h;have hs:k<p.size:=by rw [hp.size];omega
  intro i j hij hj;rw [tF hs (by omega),tF hs (by omega),show k -(k - l)=l by omega];by_cases c1:i=l
  ·rw [if_pos c1];by_cases c2:j=l
   ·rw [if_pos c2];exact Int.le_refl _
   ·rw [if_neg c2,if_pos (by omega)];exact Int.le_of_lt (h2 (j - 1) (by omega) (by omega))
  ·rw [if_neg c1];by_cases c2:j=l
   ·rw [if_pos c2,if_neg (by omega)];exact h1 i (by omega)
   ·rw [if_neg c2];by_cases c3:l<i/\i<=k
    ·rw [if_pos c3,if_pos (by omega)];exact hu _ _ (by omega) (by omega)
    ·rw [if_neg c3];by_cases c4:l<j/\j<=k
     ·rw [if_pos c4];exact hu _ _ (by omega) (by omega)
     ·rw [if_neg c4];exact hu _ _ hij (by omega)
theorem A6k (ha:fI cmp n r s)(h2:2<=n)(h:∀p,Pm n p->Up r p n->Q p s):(kas_sort n).kasWp cmp Q s:=by
 unfold kas_sort;rw [KasT.kasWp_bind];refine A2o ha (by omega) (Array.Perm.refl _) fun m p hp h1 hm u=> ?_;show(if m<n then kas_bin (n - max m 1) p (max m 1)else KasT.ret p).kasWp cmp Q s;by_cases e:m<n
 ·rw [if_pos e];have:max m 1=m:=by omega
  rw [this];exact A0b ha (by omega) _ _ p Q hp (by omega) u h
 ·rw [if_neg e];have:m=n:=by omega
  subst this;exact h p hp u
end
end Srt
namespace Tms
open PySem PyProof.Rows
def gal:Bool->Keyed->Array Keyed->Nat->Nat->Nat->StateT SortSt Sem (Option Nat):=sortPriv%PySem.Builtin.gallop
section
variable {M:Model}{A:Around}{E:Value->Shared->Prop}{s:Shared}{S:Keyed->Prop}{r:Keyed->Keyed->Bool}{κ:SortKind}
def Oc (M:Model)(A:Around)(E:Value->Shared->Prop)(s:Shared)(κ:SortKind)(S:Keyed->Prop)(r:Keyed->Keyed->Bool):Prop:=
 ∀(x y:Keyed)(st:SortSt)(Q:Option Bool->SortSt->Prop),S x->S y->kindOf st=κ->Q (some (r x y)) st->wpS M A E s (lt' x y) Q st
theorem cL {a:Array Keyed}{i:Nat}{x:Keyed}{Q:Keyed->SortSt->Prop}{st:SortSt}(e:a[i]?=some x)(h:Q x st):wpS M A E s (elem' a i) Q st:=by rw [elem'_eq,e];exact wpS_pure h
structure Bey (S:Keyed->Prop)(r:Keyed->Keyed->Bool)(left:Bool)(key:Keyed)(a:Array Keyed)(base n:Nat)(b:Nat->Bool):Prop where
 at_:∀i,i<n->∃x,a[base+i]?=some x/\S x/\(if left=true then r x key else !r key x)=b i
 mono:∀i j,i<=j->j<n->b j=true->b i=true
 key:S key
theorem jR {left:Bool}{key:Keyed}{a:Array Keyed}{base n hint:Nat}{b:Nat->Bool}{Q:Option Nat->SortSt->Prop}{st:SortSt}(O:Oc M A E s κ S r)(hk:kindOf st=κ)(B:Bey S r left key a base n b)(hh:hint<n)
  (h:∀k,k<=n->(∀i,i<k->b i=true)->(∀i,k<=i->i<n->b i=false)->Q (some k) st):wpS M A E s (gal left key a base n hint) Q st:=by
 have bey:∀(i:Nat)(R:Option Bool->SortSt->Prop),i<n->R (some (b i)) st->wpS M A E s (elem' a (base+i)>>=fun x=>if left=true then lt' x key else lt' key x>>=fun z=>pure (z.map (fun x=> !x))) R st:=by
  intro i R hi hR;obtain⟨x,e,hS,eb⟩:=B.at_ i hi;refine wpS_bind (cL e ?_);cases left with
  |true=>rw [if_pos rfl]at eb⊢;exact O _ _ _ _ hS B.key hk (by rw [eb];exact hR)
  |false=>
   rw [if_neg (by decide)]at eb⊢;refine wpS_bind (O _ _ _ _ B.key hS hk (wpS_pure ?_));show R (some (!r key x)) st;rw [eb];exact hR
 have bin:∀lo hi:Nat,lo<=hi->hi<=n->(∀i,i<lo->b i=true)->(∀i,hi<=i->i<n->b i=false)->∀{f:Nat->Option (Option Nat)×Nat×Nat->StateT SortSt Sem (ForInStep (Option (Option Nat)×Nat×Nat))}{g:Option (Option Nat)×Nat×Nat->StateT SortSt Sem (Option Nat)},
   (∀x lo hi (R:ForInStep (Option (Option Nat)×Nat×Nat)->SortSt->Prop),hi<=n->(lo≥hi->R (.done (none,lo,hi)) st)->(∀m,m=lo+(hi - lo)/2->lo<hi->R (.yield (if b m=true then(none,m+1,hi)else(none,lo,m))) st)->wpS M A E s (f x (none,lo,hi)) R st)->
   (∀lo hi,Q (some hi) st->wpS M A E s (g (none,lo,hi)) Q st)->
   wpS M A E s (forIn [0:n] (none,lo,hi) f>>=g) Q st:=by
  intro lo hi h1 h2 h3 h4 f g hf hg;refine wpS_bind (wpS_mono (wpS_forRange (I:=fun x c st'=>st'=st/\∃lo hi,c=(none,lo,hi)/\lo<=hi/\hi<=n/\(∀i,i<lo->b i=true)/\(∀i,hi<=i->i<n->b i=false)/\hi - lo+x<=n)
   (Q:=fun c st'=>st'=st/\∃lo hi,c=(none,lo,hi)/\hi<=lo/\hi<=n/\(∀i,i<lo->b i=true)/\(∀i,hi<=i->i<n->b i=false)) ?_ ?_ ⟨rfl,lo,hi,rfl,h1,h2,h3,h4,by omega⟩) ?_)
  ·rintro x c st' _ hx ⟨rfl,lo,hi,rfl,g1,g2,g3,g4,g5⟩;refine hf x lo hi _ g2 (fun hge=> ⟨rfl,lo,hi,rfl,hge,g2,g3,g4⟩) fun m hm hlt=> ?_;have m1:lo<=m:=by omega
   have m2:m<hi:=by omega
   cases hb:b m with
   |true=>
    rw [if_pos rfl];exact⟨rfl,_,_,rfl,by omega,g2,fun i hi'=>B.mono i m (by omega) (by omega) hb,g4,by omega⟩
   |false=>
    rw [if_neg (by decide)];refine⟨rfl,_,_,rfl,m1,by omega,g3,fun i h5 h6=> ?_,by omega⟩;cases hc:b i with
    |false=>rfl
    |true=>rw [B.mono m i h5 h6 hc]at hb;exact nomatch hb
  ·rintro c st' ⟨rfl,lo,hi,rfl,g1,g2,g3,g4,g5⟩;exact⟨rfl,lo,hi,rfl,by omega,g2,g3,g4⟩
  ·rintro c st' ⟨rfl,lo,hi,rfl,g1,g2,g3,g4⟩;exact hg lo hi (h hi g2 (fun i hi'=>g3 i (by omega)) g4)
 refine wpS_bind (bey hint _ hh ?_);dsimp only
 cases hb:b hint with
 |true=>
  rw [if_pos rfl];refine wpS_bind (wpS_mono (wpS_forRange (I:=fun x c st'=>st'=st/\∃l o,c=(none,l,o)/\x+1<=o/\l<o/\hint+l<n/\b (hint+l)=true)
   (Q:=fun c st'=>st'=st/\∃l o,c=(none,l,o)/\l<o/\hint+l<n/\b (hint+l)=true/\(n - hint<=o\/(hint+o<n/\b (hint+o)=false))) ?_ ?_ ⟨rfl,0,1,rfl,by omega,by omega,hh,hb⟩) ?_)
  ·rintro x c st' _ hx ⟨rfl,l,o,rfl,g1,g2,g3,g4⟩;dsimp only
   by_cases ho:o≥n - hint
   ·rw [if_pos ho];exact wpS_pure ⟨rfl,l,o,rfl,g2,g3,g4,.inl ho⟩
   ·rw [if_neg ho];refine wpS_bind (bey (hint+o) _ (by omega) ?_);cases hc:b (hint+o)with
    |true=>exact wpS_pure ⟨rfl,_,_,rfl,by omega,by omega,by omega,hc⟩
    |false=>exact wpS_pure ⟨rfl,_,_,rfl,g2,g3,g4,.inr ⟨by omega,hc⟩⟩
  ·rintro c st' ⟨rfl,l,o,rfl,g1,g2,g3,g4⟩;exact⟨rfl,l,o,rfl,g2,g3,g4,.inl (by omega)⟩
  ·rintro c st' ⟨rfl,l,o,rfl,g2,g3,g4,g5⟩;dsimp only
   refine bin _ _ (by rcases g5 with g5|g5<;>omega) (by omega) (fun i hi=>B.mono i (hint+l) (by omega) g3 g4) (fun i h5 h6=> ?_) (fun x lo hi R hn h1 h2=> ?_) fun lo hi hq=>wpS_pure hq
   ·rcases g5 with g5| ⟨g5,g6⟩
    ·omega
    ·cases hc:b i with
     |false=>rfl
     |true=>rw [B.mono (hint+o) i (by omega) h6 hc]at g6;exact nomatch g6
   ·dsimp only
    by_cases hlt:lo≥hi
    ·rw [if_pos hlt];exact wpS_pure (h1 hlt)
    ·rw [if_neg hlt];refine wpS_bind (bey (lo+(hi - lo)/2) _ (by omega) ?_);have q:=h2 _ rfl (by omega);cases hc:b (lo+(hi - lo)/2)with
     |true=>rw [hc,if_pos rfl]at q;exact wpS_pure q
     |false=>rw [hc,if_neg (by decide)]at q;exact wpS_pure q
 |false=>
  rw [if_neg (by decide)];refine wpS_bind (wpS_mono (wpS_forRange (I:=fun x c st'=>st'=st/\∃l o,c=(none,l,o)/\x+1<=o/\l<o/\l<=hint/\b (hint - l)=false)
   (Q:=fun c st'=>st'=st/\∃l o,c=(none,l,o)/\l<o/\l<=hint/\b (hint - l)=false/\(hint+1<=o\/(o<=hint/\b (hint - o)=true))) ?_ ?_ ⟨rfl,0,1,rfl,by omega,by omega,zero_le _,hb⟩) ?_)
  ·rintro x c st' _ hx ⟨rfl,l,o,rfl,g1,g2,g3,g4⟩;dsimp only
   by_cases ho:o≥hint+1
   ·rw [if_pos ho];exact wpS_pure ⟨rfl,l,o,rfl,g2,g3,g4,.inl ho⟩
   ·rw [if_neg ho];refine wpS_bind (bey (hint - o) _ (by omega) ?_);cases hc:b (hint - o)with
    |true=>exact wpS_pure ⟨rfl,_,_,rfl,g2,g3,g4,.inr ⟨by omega,hc⟩⟩
    |false=>exact wpS_pure ⟨rfl,_,_,rfl,by omega,by omega,by omega,hc⟩
  ·rintro c st' ⟨rfl,l,o,rfl,g1,g2,g3,g4⟩;exact⟨rfl,l,o,rfl,g2,g3,g4,.inl (by omega)⟩
  ·rintro c st' ⟨rfl,l,o,rfl,g2,g3,g4,g5⟩;dsimp only
   refine bin _ _ (by rcases g5 with g5|g5<;>omega) (by omega) (fun i hi=> ?_) (fun i h5 h6=> ?_) (fun x lo hi R hn h1 h2=> ?_) fun lo hi hq=>wpS_pure hq
   ·rcases g5 with g5| ⟨g5,g6⟩
    ·omega
    ·exact B.mono i (hint - o) (by omega) (by omega) g6
   ·cases hc:b i with
    |false=>rfl
    |true=>rw [B.mono (hint - l) i (by omega) h6 hc]at g4;exact nomatch g4
   ·dsimp only
    by_cases hlt:lo≥hi
    ·rw [if_pos hlt];exact wpS_pure (h1 hlt)
    ·rw [if_neg hlt];refine wpS_bind (bey (lo+(hi - lo)/2) _ (by omega) ?_);have q:=h2 _ rfl (by omega);cases hc:b (lo+(hi - lo)/2)with
     |true=>rw [hc,if_pos rfl]at q;exact wpS_pure q
     |false=>rw [hc,if_neg (by decide)]at q;exact wpS_pure q
end
section
variable {α:Type}{R:α->α->Prop}{la lb lo:List α}{ia ib k:Nat}{x:α}
structure Mg (R:α->α->Prop)(la lb lo:List α)(ia ib:Nat):Prop where
 pm:lo.Perm (la.take ia++lb.take ib)
 so:lo.Pairwise R
 lt:∀x∈lo,∀y,y∈la.drop ia\/y∈lb.drop ib->R x y
def Md (R:α->α->Prop)(la lb l:List α):Prop:=l.Perm (la++lb)/\l.Pairwise R
theorem Mg.sw (m:Mg R la lb lo ia ib):Mg R lb la lo ib ia:=⟨m.pm.trans perm_append_comm,m.so,fun x hx y hy=>m.lt x hx y hy.symm⟩
theorem kI (e:la[ia]?=some x):la.drop ia=x::la.drop (ia+1):=by obtain⟨h,e⟩:=zjW.mp e;rw [List.drop_eq_getElem_cons h,e]
theorem iU (e:la[ia]?=some x):la.take (ia+1)=la.take ia++[x]:=by rw [List.take_add_one,e];rfl
theorem Mg.a (m:Mg R la lb lo ia ib)(sa:la.Pairwise R)(e:la[ia]?=some x)(h:∀y∈lb.drop ib,R x y):Mg R la lb (lo++[x]) (ia+1) ib:=by
 have sd:(la.drop ia).Pairwise R:=sa.sublist (drop_sublist _ _);have ed:=kI e;refine⟨?_,?_,?_⟩
 ·rw [iU e];refine(m.pm.append_right [x]).trans ?_;rw [append_assoc,append_assoc];exact List.Perm.append_left _ perm_append_comm
 ·refine pairwise_append.mpr ⟨m.so,pairwise_singleton _ _,fun z hz y hy=> ?_⟩;obtain rfl:y=x:=by simpa using hy
  exact m.lt z hz _ (.inl (by rw [ed];exact zjR))
 ·intro z hz y hy;rcases mem_append.mp hz with hz|hz
  ·exact m.lt z hz y (hy.imp (fun q=>by rw [ed];exact zjS _ q) id)
  ·obtain rfl:z=x:=by simpa using hz
   rcases hy with hy|hy
   ·rw [ed]at sd;exact(pairwise_cons.mp sd).1 y hy
   ·exact h y hy
theorem Mg.b (m:Mg R la lb lo ia ib)(sb:lb.Pairwise R)(e:lb[ib]?=some x)(h:∀y∈la.drop ia,R x y):Mg R la lb (lo++[x]) ia (ib+1):=(m.sw.a sb e h).sw
theorem Mg.as (m:Mg R la lb lo ia ib)(sa:la.Pairwise R):∀k,ia+k<=la.length->(∀i x,i<k->la[ia+i]?=some x->∀y∈lb.drop ib,R x y)->Mg R la lb (lo++(la.drop ia).take k) (ia+k) ib
 |0,_,_=>by simpa using m
 |k+1,hk,h=>by
  have m1:=m.as sa k (by omega) fun i x hi e=>h i x (by omega) e;have hl:ia+k<la.length:=by omega
  have e:la[ia+k]?=some la[ia+k]:=getElem?_eq_getElem hl;have m2:=m1.a sa e (h k _ (by omega) e);have et:(la.drop ia).take (k+1)=(la.drop ia).take k++[la[ia+k]]:=iU (by rw [getElem?_drop];exact e);rw [et,←append_assoc];exact m2
theorem Mg.bs (m:Mg R la lb lo ia ib)(sb:lb.Pairwise R)(k:Nat)(hk:ib+k<=lb.length)(h:∀i x,i<k->lb[ib+i]?=some x->∀y∈la.drop ia,R x y):Mg R la lb (lo++(lb.drop ib).take k) ia (ib+k):=(m.sw.as sb k hk h).sw
theorem Mg.da (m:Mg R la lb lo ia ib)(sa:la.Pairwise R)(hb:lb.length<=ib):Md R la lb (lo++la.drop ia):=by refine⟨?_,pairwise_append.mpr ⟨m.so,sa.sublist (drop_sublist _ _),fun x hx y hy=>m.lt x hx y (.inl hy)⟩⟩;have p:=m.pm.append_right (la.drop ia);rw [take_of_length_le hb]at p;refine p.trans ?_;rw [append_assoc];refine(List.Perm.append_left _ perm_append_comm).trans ?_;rw [←append_assoc,take_append_drop]
theorem Mg.db (m:Mg R la lb lo ia ib)(sb:lb.Pairwise R)(ha:la.length<=ia):Md R la lb (lo++lb.drop ib):=⟨(m.sw.da sb ha).1.trans perm_append_comm,(m.sw.da sb ha).2⟩
theorem Mg.l1 (m:Mg R la lb lo ia ib)(sb:lb.Pairwise R)(e:la[ia]?=some x)(hl:ia+1=la.length)(h:∀y∈lb,R y x):Md R la lb (lo++lb.drop ib++la.drop ia):=by
 have ed:la.drop ia=[x]:=by rw [kI e,drop_of_length_le (by omega)]
 refine⟨?_,?_⟩
 ·have p:=(m.pm.append_right (lb.drop ib)).append_right (la.drop ia);refine p.trans ?_;rw [append_assoc (la.take ia),take_append_drop,append_assoc];refine(List.Perm.append_left _ perm_append_comm).trans ?_;rw [←append_assoc,take_append_drop]
 ·rw [ed];refine pairwise_append.mpr ⟨pairwise_append.mpr ⟨m.so,sb.sublist (drop_sublist _ _),fun x hx y hy=>m.lt x hx y (.inr hy)⟩,pairwise_singleton _ _,fun z hz y hy=> ?_⟩;obtain rfl:y=x:=by simpa using hy
  rcases mem_append.mp hz with hz|hz
  ·exact m.lt z hz _ (.inl (by rw [ed];exact zjR))
  ·exact h z (mem_of_mem_drop hz)
theorem jK (tr:∀x y z:α,R x y->R y z->R x z)(sb:lb.Pairwise R){y:α}(e:lb[ib]?=some y)(h:R x y):∀z∈lb.drop ib,R x z:=by
 have sd:(lb.drop ib).Pairwise R:=sb.sublist (drop_sublist _ _);rw [kI e]at sd⊢;intro z hz;rcases mem_cons.mp hz with rfl|hz
 ·exact h
 ·exact tr _ _ _ h ((pairwise_cons.mp sd).1 z hz)
theorem Mg.nil:Mg R la lb [] 0 0:=⟨by simp,List.Pairwise.nil,fun _ h=>nomatch h⟩
end
def mgl:Array Keyed->Array Keyed->StateT SortSt Sem (Array Keyed):=sortPriv%PySem.Builtin.mergeLo
abbrev sg (st:SortSt)(g:Nat):SortSt:=SortSt.mk' (kindOf st) (arrOf st) (pendingOf st) g (failedOf st)
def Le (r:Keyed->Keyed->Bool)(x y:Keyed):Prop:=r y x=false
section
variable {M:Model}{A:Around}{E:Value->Shared->Prop}{s:Shared}{S:Keyed->Prop}{r:Keyed->Keyed->Bool}{κ:SortKind}{β:Type}{st:SortSt}{Q:β->SortSt->Prop}
end
section
variable {M:Model}{A:Around}{E:Value->Shared->Prop}{s:Shared}{S:Keyed->Prop}{r:Keyed->Keyed->Bool}{κ:SortKind}{a b:Array Keyed}
theorem gH {a:Array Keyed}{i j:Nat}:(a.extract i j).toList=(a.toList.drop i).take (j - i):=by rw [Array.toList_extract]
theorem jT {a:Array Keyed}{i:Nat}:(a.extract i a.size).toList=a.toList.drop i:=by rw [gH,take_of_length_le];rw [length_drop];exact zjQ _
theorem cN {a:Array Keyed}{i:Nat}(h:i<a.size):∃x,a[i]?=some x/\a.toList[i]?=some x/\x∈a.toList:=⟨a[i],by simp [h],by simp [h],by simp⟩
structure Li (r:Keyed->Keyed->Bool)(a b o:Array Keyed)(i j:Nat):Prop where
 mg:Mg (Le r) a.toList b.toList o.toList i j
 ha:i+1<a.size
 hb:j<b.size
theorem tO {key:Keyed}{i:Nat}(tr:∀x y z,Le r x y->Le r y z->Le r x z)(sa:a.toList.Pairwise (Le r))(hS:∀x∈a.toList,S x)(hk:S key):Bey S r false key a i (a.size - i) (fun k=>match a[i+k]? with|some x=> !r key x|none=>false):=by
 refine⟨fun k hk'=> ?_,fun k l hkl hl hb=> ?_,hk⟩
 ·obtain⟨x,e,_,m⟩:=cN (a:=a) (i:=i+k) (by omega);exact⟨x,e,hS x m,by rw [e];rfl⟩
 ·obtain⟨x,e,e1,m⟩:=cN (a:=a) (i:=i+k) (by omega);obtain⟨y,e',e1',m'⟩:=cN (a:=a) (i:=i+l) (by omega);simp only [e,e']at hb⊢;rcases eq_or_lt_of_le hkl with rfl|hlt
  ·rw [e]at e';cases e';exact hb
  ·have q:Le r x y:=(pairwise_iff_getElem.mp sa) (i+k) (i+l) (by simp;omega) (by simp;omega) (by omega)|>fun q=>by
    have h1:=(zjW.mp e1).2;have h2:=(zjW.mp e1').2;rw [h1,h2]at q;exact q
   have q2:Le r y key:=by unfold Le;simpa using hb
   have q3:Le r x key:=tr _ _ _ q q2;unfold Le at q3;simp [q3]
theorem wU {key:Keyed}{i:Nat}(tr:∀x y z,Le r x y->Le r y z->Le r x z)(sa:a.toList.Pairwise (Le r))(hS:∀x∈a.toList,S x)(hk:S key):Bey S r true key a i (a.size - i) (fun k=>match a[i+k]? with|some x=>r x key|none=>false):=by
 refine⟨fun k hk'=> ?_,fun k l hkl hl hb=> ?_,hk⟩
 ·obtain⟨x,e,_,m⟩:=cN (a:=a) (i:=i+k) (by omega);exact⟨x,e,hS x m,by rw [e];rfl⟩
 ·obtain⟨x,e,e1,m⟩:=cN (a:=a) (i:=i+k) (by omega);obtain⟨y,e',e1',m'⟩:=cN (a:=a) (i:=i+l) (by omega);simp only [e,e']at hb⊢;rcases eq_or_lt_of_le hkl with rfl|hlt
  ·rw [e]at e';cases e';exact hb
  ·have q:Le r x y:=(pairwise_iff_getElem.mp sa) (i+k) (i+l) (by simp;omega) (by simp;omega) (by omega)|>fun q=>by
    have h1:=(zjW.mp e1).2;have h2:=(zjW.mp e1').2;rw [h1,h2]at q;exact q
   cases h3:r x key with
   |true=>rfl
   |false=>
    have q3:Le r key y:=tr _ _ _ h3 q;unfold Le at q3;rw [q3]at hb;exact nomatch hb
end
section
variable {M:Model}{A:Around}{E:Value->Shared->Prop}{s:Shared}{S:Keyed->Prop}{r:Keyed->Keyed->Bool}{κ:SortKind}{a b:Array Keyed}
structure Mi (S:Keyed->Prop)(r:Keyed->Keyed->Bool)(a b:Array Keyed):Prop where
 tr:∀x y z,Le r x y->Le r y z->Le r x z
 as:∀x y,r x y=true->Le r x y
 sa:a.toList.Pairwise (Le r)
 sb:b.toList.Pairwise (Le r)
 xa:∀x∈a.toList,S x
 xb:∀x∈b.toList,S x
 na:1<=a.size
 nb:1<=b.size
 hd:∀x∈a.toList,∀y,b.toList[0]?=some y->Le r y x
 tl:∀y∈b.toList,∀x,a.toList[a.size - 1]?=some x->Le r y x
theorem len {a:Array Keyed}:a.toList.length=a.size:=Array.length_toList
theorem Li.one {o:Array Keyed}{i j:Nat}(m:Mi S r a b)(L:Mg (Le r) a.toList b.toList o.toList i j)(hi:(i+1==a.size)=true):Md (Le r) a.toList b.toList (o++b.extract j b.size++a.extract i a.size).toList:=by
 have hi:i+1=a.size:=by simpa using hi
 obtain⟨x,_,e,_⟩:=cN (a:=a) (i:=i) (by omega);rw [Array.toList_append,Array.toList_append,jT,jT];exact L.l1 m.sb e (by rw [len];exact hi) fun y hy=>m.tl y hy x (by rw [show a.size - 1=i by omega];exact e)
theorem Li.fb {o:Array Keyed}{i j:Nat}(m:Mi S r a b)(L:Mg (Le r) a.toList b.toList o.toList i j)(hj:(j==b.size)=true):Md (Le r) a.toList b.toList (o++a.extract i a.size++b.extract j b.size).toList:=by
 have hj:j=b.size:=by simpa using hj
 rw [Array.toList_append,Array.toList_append,jT,jT,drop_of_length_le (l:=b.toList) (by rw [len];omega),append_nil];exact L.da m.sa (by rw [len];omega)
theorem Li.fa {o:Array Keyed}{i j:Nat}(m:Mi S r a b)(L:Mg (Le r) a.toList b.toList o.toList i j)(hi:(i==a.size)=true):Md (Le r) a.toList b.toList (o++a.extract i a.size++b.extract j b.size).toList:=by
 have hi:i=a.size:=by simpa using hi
 rw [Array.toList_append,Array.toList_append,jT,jT,drop_of_length_le (l:=a.toList) (by rw [len];omega),append_nil];exact L.db m.sb (by rw [len];omega)
theorem A8o {st:SortSt}{Q:Array Keyed->SortSt->Prop}(O:Oc M A E s κ S r)(hk:kindOf st=κ)(m:Mi S r a b)(h:∀l g,Md (Le r) a.toList b.toList l.toList->Q l (sg st g)):wpS M A E s (mgl a b) Q st:=by
 have ga:∀{o:Array Keyed}{i j:Nat}{x y:Keyed},Mg (Le r) a.toList b.toList o.toList i j->a.toList[i]?=some x->b.toList[j]?=some y->Le r x y->Mg (Le r) a.toList b.toList (o.push x).toList (i+1) j:=by
  intro o i j x y L ex ey q;rw [Array.toList_push];exact L.a m.sa ex (jK m.tr m.sb ey q)
 have gb:∀{o:Array Keyed}{i j:Nat}{x y:Keyed},Mg (Le r) a.toList b.toList o.toList i j->a.toList[i]?=some x->b.toList[j]?=some y->Le r y x->Mg (Le r) a.toList b.toList (o.push y).toList i (j+1):=by
  intro o i j x y L ex ey q;rw [Array.toList_push];exact L.b m.sb ey (jK m.tr m.sa ex q)
 refine wpS_bind (wpS_lift (wpAny_rule ⟨rfl,?_⟩));obtain⟨y0,b0,b0',_⟩:=cN (a:=b) (i:=0) m.nb;refine wpS_bind (cL b0 ?_);have L0:Mg (Le r) a.toList b.toList (#[y0]:Array Keyed).toList 0 1:=(Mg.nil (R:=Le r) (la:=a.toList) (lb:=b.toList)).b m.sb b0' (fun z hz=>m.hd z hz y0 b0');dsimp only
 by_cases e1:((1:Nat)==b.size)=true
 ·rw [if_pos e1];exact wpS_pure (h _ (gallopOf st) (Li.fb m L0 e1))
 rw [if_neg e1];by_cases e2:((0:Nat)+1==a.size)=true
 ·rw [if_pos e2];exact wpS_pure (h _ (gallopOf st) (Li.one m L0 e2))
 rw [if_neg e2];have n1:=m.na;have n2:=m.nb;have b1:1<b.size:=by have:¬(1:Nat)=b.size:=fun q=>e1 (by rw [←q];rfl);omega
 have a1:0+1<a.size:=by have:¬(0:Nat)+1=a.size:=fun q=>e2 (by rw [←q];rfl);omega
 refine wpS_bind (wpS_get ?_);refine wpS_bind (wpS_mono (wpS_forRange
  (I:=fun X c st'=> ∃g o i j mg,st'=sg st g/\c=(none,o,i,j,mg)/\Li r a b o i j/\X<=i+j)
  (Q:=fun c st'=> ∃g l w,st'=sg st g/\c=(some l,w)/\Md (Le r) a.toList b.toList l.toList) ?_ ?_ ⟨gallopOf st,_,_,_,_,rfl,rfl,⟨L0,a1,b1⟩,by omega⟩) ?_)
 ·rintro X c _ _ hX ⟨g,o,i,j,mg,rfl,rfl,L,hx⟩;dsimp only
  refine wpS_bind (wpS_mono (wpS_forRange
   (I:=fun X c st'=>st'=sg st g/\∃o i' j' ac bc,c=(none,o,i',j',ac,bc)/\Li r a b o i' j'/\i+j+X<=i'+j')
   (Q:=fun c st'=>st'=sg st g/\((∃l w,c=(some l,w)/\Md (Le r) a.toList b.toList l.toList)\/ ∃o i' j' ac bc,c=(none,o,i',j',ac,bc)/\Li r a b o i' j'/\i+j+1<=i'+j')) ?_ ?_ ⟨rfl,_,_,_,_,_,rfl,L,by omega⟩) ?_)
  ·rintro X c _ _ hX ⟨rfl,o,i',j',ac,bc,rfl,L,hx⟩;dsimp only
   obtain⟨x,ea,ea',ma⟩:=cN (a:=a) (i:=i') (by have:=L.ha;omega);obtain⟨y,eb,eb',mb⟩:=cN (a:=b) (i:=j') L.hb;refine wpS_bind (cL eb (wpS_bind (cL ea (wpS_bind (O _ _ _ _ (m.xb y mb) (m.xa x ma) hk ?_)))));dsimp only
   cases hr:r y x with
   |true=>
    rw [if_pos rfl];refine wpS_bind (cL eb ?_);have L1:=gb L.mg ea' eb' (m.as _ _ hr);by_cases f1:(j'+1==b.size)=true
    ·rw [if_pos f1];exact wpS_pure ⟨rfl,.inl ⟨_,_,rfl,Li.fb m L1 f1⟩⟩
    ·rw [if_neg f1];have L2:Li r a b (o.push y) i' (j'+1):=⟨L1,L.ha,by have:=L.hb;have:¬j'+1=b.size:=fun q=>f1 (by rw [←q];exact beq_self_eq_true _);omega⟩
     split
     ·exact wpS_pure ⟨rfl,.inr ⟨_,_,_,_,_,rfl,L2,by omega⟩⟩
     ·exact wpS_pure ⟨rfl,_,_,_,_,_,rfl,L2,by omega⟩
   |false=>
    rw [if_neg (by decide)];refine wpS_bind (cL ea ?_);have L1:=ga L.mg ea' eb' hr;by_cases f1:(i'+1+1==a.size)=true
    ·rw [if_pos f1];exact wpS_pure ⟨rfl,.inl ⟨_,_,rfl,Li.one m L1 f1⟩⟩
    ·rw [if_neg f1];have L2:Li r a b (o.push x) (i'+1) j':=⟨L1,by have:=L.ha;have:¬i'+1+1=a.size:=fun q=>f1 (by rw [←q];exact beq_self_eq_true _);omega,L.hb⟩
     split
     ·exact wpS_pure ⟨rfl,.inr ⟨_,_,_,_,_,rfl,L2,by omega⟩⟩
     ·exact wpS_pure ⟨rfl,_,_,_,_,_,rfl,L2,by omega⟩
  ·rintro c _ ⟨rfl,o,i',j',ac,bc,rfl,L,hx⟩;exact⟨rfl,.inr ⟨_,_,_,_,_,rfl,L,by omega⟩⟩
  ·rintro c _ ⟨rfl,⟨l,w,rfl,hl⟩| ⟨o,i',j',ac,bc,rfl,L,hx'⟩⟩
   ·exact wpS_pure ⟨g,l,_,rfl,rfl,hl⟩
   dsimp only
   refine wpS_bind (wpS_lift (wpAny_rule ⟨rfl,?_⟩));refine wpS_bind (wpS_mono (wpS_forRange
    (I:=fun _ c st'=> ∃g o i2 j2 mg ac bc,st'=sg st g/\c=(none,o,i2,j2,mg,ac,bc)/\Li r a b o i2 j2/\i'+j'<=i2+j2)
    (Q:=fun c st'=> ∃g,st'=sg st g/\((∃l w,c=(some l,w)/\Md (Le r) a.toList b.toList l.toList)\/ ∃o i2 j2 mg ac bc,c=(none,o,i2,j2,mg,ac,bc)/\Li r a b o i2 j2/\i'+j'<=i2+j2)) ?_ ?_ ⟨g,_,_,_,_,_,_,rfl,rfl,L,by omega⟩) ?_)
   ·rintro X c _ _ hX ⟨g,o,i2,j2,mg,ac,bc,rfl,rfl,L,hx2⟩;dsimp only
    obtain⟨y,eb,eb',mb⟩:=cN (a:=b) (i:=j2) L.hb;have ha2:=L.ha;have hb2:=L.hb;by_cases hm:mg>1
    case' pos=>rw [if_pos hm]
    case' neg=>rw [if_neg hm]
    all_goals
     refine wpS_bind (wpS_modify ?_);refine wpS_bind (cL eb (wpS_bind (jR O hk (tO m.tr m.sa m.xa (m.xb y mb)) (by omega) fun k k1 k2 k3=> ?_)));dsimp only
     have La:Mg (Le r) a.toList b.toList (o++a.extract i2 (i2+k)).toList (i2+k) j2:=by
      rw [Array.toList_append,gH,show i2+k - i2=k by omega];refine L.mg.as m.sa k (by rw [len];omega) fun q x hq e=>jK m.tr m.sb eb' ?_;have:=k2 q hq;have e':a[i2+q]?=some x:=by rw [←Array.getElem?_toList];exact e
      rw [e']at this;unfold Le;simpa using this
     have low:∀x,i2+k<a.size->a.toList[i2+k]?=some x->Le r y x:=fun x hl e=>by
      have:=k3 k (zjQ _) (by omega);have e':a[i2+k]?=some x:=by rw [←Array.getElem?_toList];exact e
      rw [e']at this;exact m.as _ _ (by simpa using this)
     by_cases hk0:k>0
     case' pos=>
      rw [if_pos hk0];by_cases f1:(i2+k+1==a.size)=true
      case pos=>rw [if_pos f1];exact wpS_pure ⟨_,rfl,.inl ⟨_,_,rfl,Li.one m La f1⟩⟩
      rw [if_neg f1];by_cases f2:(i2+k==a.size)=true
      case pos=>rw [if_pos f2];exact wpS_pure ⟨_,rfl,.inl ⟨_,_,rfl,Li.fa m La f2⟩⟩
      rw [if_neg f2];have f1':¬i2+k+1=a.size:=fun q=>f1 (by rw [q];exact beq_self_eq_true _);have f2':¬i2+k=a.size:=fun q=>f2 (by rw [q];exact beq_self_eq_true _);have h3:i2+k+1<a.size:=by omega
      have h4:i'+j'<=i2+k+j2:=by omega
      have h5:∀x,a.toList[i2+k]?=some x->Le r y x:=fun x e=>low x (by omega) e
      revert La h3 h4 h5
      generalize o++a.extract i2 (i2+k)=o3;generalize i2+k=i3
     case' neg=>
      rw [if_neg hk0];have e0:k=0:=by omega
      have La:=L.mg;have h3:=ha2;have h4:=hx2;have h5:∀x,a.toList[i2]?=some x->Le r y x:=fun x e=>low x (by omega) (by rw [e0];exact e)
      revert La h3 h4 h5
      generalize o=o3;generalize i2=i3
     all_goals
      intro L3 h3 h4 h5;obtain⟨x,ea,ea',ma⟩:=cN (a:=a) (i:=i3) (by omega);refine wpS_bind (cL eb ?_);have L4:=gb L3 ea' eb' (h5 x ea');by_cases f1:(j2+1==b.size)=true
      case pos=>rw [if_pos f1];exact wpS_pure ⟨_,rfl,.inl ⟨_,_,rfl,Li.fb m L4 f1⟩⟩
      rw [if_neg f1];have f1':¬j2+1=b.size:=fun q=>f1 (by rw [q];exact beq_self_eq_true _);refine wpS_bind (cL ea (wpS_bind (jR O hk (wU m.tr m.sb m.xb (m.xa x ma)) (by omega) fun k' p1 p2 p3=> ?_)));dsimp only
      have Lb:Mg (Le r) a.toList b.toList (o3.push y++b.extract (j2+1) (j2+1+k')).toList i3 (j2+1+k'):=by
       rw [Array.toList_append,gH,show j2+1+k' -(j2+1)=k' by omega];refine L4.bs m.sb k' (by rw [len];omega) fun q z hq e=>jK m.tr m.sa ea' ?_;have:=p2 q hq;have e':b[j2+1+q]?=some z:=by rw [←Array.getElem?_toList];exact e
       rw [e']at this;exact m.as _ _ (by simpa using this)
      have lob:∀z,j2+1+k'<b.size->b.toList[j2+1+k']?=some z->Le r x z:=fun z hl e=>by
       have:=p3 k' (zjQ _) (by omega);have e':b[j2+1+k']?=some z:=by rw [←Array.getElem?_toList];exact e
       rw [e']at this;simpa [Le]using this
      by_cases hk1:k'>0
      case' pos=>
       rw [if_pos hk1];by_cases f2:(j2+1+k'==b.size)=true
       case pos=>rw [if_pos f2];exact wpS_pure ⟨_,rfl,.inl ⟨_,_,rfl,Li.fb m Lb f2⟩⟩
       rw [if_neg f2];have f2':¬j2+1+k'=b.size:=fun q=>f2 (by rw [q];exact beq_self_eq_true _);have h6:j2+1+k'<b.size:=by omega
       have h7:i'+j'<=i3+(j2+1+k'):=by omega
       have h8:∀z,b.toList[j2+1+k']?=some z->Le r x z:=fun z e=>lob z (by omega) e
       revert Lb h6 h7 h8
       generalize o3.push y++b.extract (j2+1) (j2+1+k')=o4;generalize j2+1+k'=j3
      case' neg=>
       rw [if_neg hk1];have e0:k'=0:=by omega
       have h6:j2+1<b.size:=by omega
       have h7:i'+j'<=i3+(j2+1):=by omega
       have h8:∀z,b.toList[j2+1]?=some z->Le r x z:=fun z e=>lob z (by omega) (by rw [e0];exact e)
       revert L4 h6 h7 h8
       generalize o3.push y=o4;generalize j2+1=j3
      all_goals
       intro L5 h6 h7 h8;obtain⟨z,ez,ez',mz⟩:=cN (a:=b) (i:=j3) h6;refine wpS_bind (cL ea ?_);have L6:=ga L5 ea' ez' (h8 z ez');by_cases f2:(i3+1+1==a.size)=true
       case pos=>rw [if_pos f2];exact wpS_pure ⟨_,rfl,.inl ⟨_,_,rfl,Li.one m L6 f2⟩⟩
       rw [if_neg f2];have f2':¬i3+1+1=a.size:=fun q=>f2 (by rw [q];exact beq_self_eq_true _);have L7:Li r a b (o4.push x) (i3+1) j3:=⟨L6,by omega,h6⟩
       split
       ·exact wpS_pure ⟨_,rfl,.inr ⟨_,_,_,_,_,_,rfl,L7,by omega⟩⟩
       ·exact wpS_pure ⟨_,_,_,_,_,_,_,rfl,rfl,L7,by omega⟩
   ·rintro c _ ⟨g,o,i2,j2,mg,ac,bc,rfl,rfl,L,hx⟩;exact⟨g,rfl,.inr ⟨_,_,_,_,_,_,rfl,L,hx⟩⟩
   ·rintro c _ ⟨g,rfl,⟨l,w,rfl,hl⟩| ⟨o,i2,j2,mg,ac,bc,rfl,L,hx2⟩⟩
    ·exact wpS_pure ⟨g,l,_,rfl,rfl,hl⟩
    ·dsimp only
     exact wpS_bind (wpS_modify (wpS_pure ⟨_,_,_,_,_,rfl,rfl,L,by omega⟩))
 ·rintro c _ ⟨g,o,i,j,mg,rfl,rfl,L,hx⟩;have h1:=L.ha;have h2:=L.hb;omega
 ·rintro c _ ⟨g,l,w,rfl,rfl,hl⟩;exact wpS_pure (h l g hl)
end
section
variable {α:Type}{R:α->α->Prop}{la lb lo:List α}{na nb k:Nat}{x:α}
structure Mh (R:α->α->Prop)(la lb lo:List α)(na nb:Nat):Prop where
 pm:lo.Perm (la.drop na++lb.drop nb)
 so:lo.Pairwise (fun x y=>R y x)
 lt:∀x∈lo,∀y,y∈la.take na\/y∈lb.take nb->R y x
theorem Mh.sw (m:Mh R la lb lo na nb):Mh R lb la lo nb na:=⟨m.pm.trans perm_append_comm,m.so,fun x hx y hy=>m.lt x hx y hy.symm⟩
theorem Mh.a (m:Mh R la lb lo (na+1) nb)(sa:la.Pairwise R)(e:la[na]?=some x)(h:∀y∈lb.take nb,R y x):Mh R la lb (lo++[x]) na nb:=by
 have st:(la.take (na+1)).Pairwise R:=sa.sublist (take_sublist _ _);have et:=iU e;refine⟨?_,?_,?_⟩
 ·rw [kI e];exact(perm_append_comm).trans (m.pm.cons x)
 ·refine pairwise_append.mpr ⟨m.so,pairwise_singleton _ _,fun z hz y hy=> ?_⟩;obtain rfl:y=x:=by simpa using hy
  exact m.lt z hz _ (.inl (by rw [et];exact mem_append_right _ zjR))
 ·intro z hz y hy;rcases mem_append.mp hz with hz|hz
  ·exact m.lt z hz y (hy.imp (fun q=>by rw [et];exact mem_append_left _ q) id)
  ·obtain rfl:z=x:=by simpa using hz
   rcases hy with hy|hy
   ·rw [et]at st;exact(pairwise_append.mp st).2.2 y hy _ zjR
   ·exact h y hy
theorem Mh.as (sa:la.Pairwise R):∀(k na:Nat),Mh R la lb lo (na+k) nb->na+k<=la.length->(∀i x,na<=i->i<na+k->la[i]?=some x->∀y∈lb.take nb,R y x)->Mh R la lb (lo++((la.drop na).take k).reverse) na nb
 |0,na,m,_,_=>by simpa using m
 |k+1,na,m,hk,h=>by
  have m1:=Mh.as sa k (na+1) (by rw [show na+1+k=na+(k+1) by omega];exact m) (by omega) fun i x h1 h2 e=>h i x (by omega) (by omega) e;have hl:na<la.length:=by omega
  have e:la[na]?=some la[na]:=getElem?_eq_getElem hl;have m2:=m1.a sa e (h na _ (zjQ _) (by omega) e);have et:((la.drop na).take (k+1)).reverse=((la.drop (na+1)).take k).reverse++[la[na]]:=by rw [kI e,List.take_succ_cons,List.reverse_cons]
  rw [et,←append_assoc];exact m2
theorem Mh.da (m:Mh R la lb lo na nb)(sa:la.Pairwise R)(hb:nb=0):Md R la lb (la.take na++lo.reverse):=by refine⟨?_,pairwise_append.mpr ⟨sa.sublist (take_sublist _ _),List.pairwise_reverse.mpr m.so,fun y hy x hx=>m.lt x (mem_reverse.mp hx) y (.inl hy)⟩⟩;have p:=(List.reverse_perm lo).trans m.pm;rw [hb,drop_zero]at p;refine(List.Perm.append_left _ p).trans ?_;rw [←append_assoc,take_append_drop]
theorem Mh.db (m:Mh R la lb lo na nb)(sb:lb.Pairwise R)(ha:na=0):Md R la lb (lb.take nb++lo.reverse):=⟨(m.sw.da sb ha).1.trans perm_append_comm,(m.sw.da sb ha).2⟩
theorem Mh.l1 (m:Mh R la lb lo na 1)(sa:la.Pairwise R)(e:lb[0]?=some x)(h:∀y∈la,R x y):Md R la lb (lb.take 1++la.take na++lo.reverse):=by
 have ed:lb.take 1=[x]:=by rw [show 1=0+1 from rfl,iU e];rfl
 refine⟨?_,?_⟩
 ·have p:=(List.reverse_perm lo).trans m.pm;refine(List.Perm.append_left _ p).trans ?_;rw [append_assoc,←append_assoc (la.take na),take_append_drop];refine perm_append_comm.trans ?_;rw [append_assoc];refine List.Perm.append_left _ (perm_append_comm.trans ?_);rw [take_append_drop]
 ·rw [ed];refine pairwise_append.mpr ⟨pairwise_append.mpr ⟨pairwise_singleton _ _,sa.sublist (take_sublist _ _),fun z hz y hy=> ?_⟩,List.pairwise_reverse.mpr m.so,fun z hz y hy=> ?_⟩
  ·obtain rfl:z=x:=by simpa using hz
   exact h y (mem_of_mem_take hy)
  ·rcases mem_append.mp hz with hz|hz
   ·exact m.lt y (mem_reverse.mp hy) z (.inr (by rw [ed];exact hz))
   ·exact m.lt y (mem_reverse.mp hy) z (.inl hz)
theorem lQ (tr:∀x y z:α,R x y->R y z->R x z)(sb:lb.Pairwise R){y:α}(e:lb[nb]?=some y)(h:R y x):∀z∈lb.take (nb+1),R z x:=by
 have sd:(lb.take (nb+1)).Pairwise R:=sb.sublist (take_sublist _ _);rw [iU e]at sd⊢;intro z hz;rcases mem_append.mp hz with hz|hz
 ·exact tr _ _ _ ((pairwise_append.mp sd).2.2 z hz y zjR) h
 ·obtain rfl:z=y:=by simpa using hz
  exact h
end
def mgh:Array Keyed->Array Keyed->StateT SortSt Sem (Array Keyed):=sortPriv%PySem.Builtin.mergeHi
section
variable {M:Model}{A:Around}{E:Value->Shared->Prop}{s:Shared}{S:Keyed->Prop}{r:Keyed->Keyed->Bool}{κ:SortKind}{a b:Array Keyed}
theorem Bey.le {left:Bool}{key:Keyed}{base n n':Nat}{f:Nat->Bool}(B:Bey S r left key a base n f)(h:n'<=n):Bey S r left key a base n' f:=⟨fun i hi=>B.at_ i (by omega),fun i j h1 h2 h3=>B.mono i j h1 (by omega) h3,B.key⟩
structure Lh (r:Keyed->Keyed->Bool)(a b o:Array Keyed)(i j:Nat):Prop where
 mg:Mh (Le r) a.toList b.toList o.toList i j
 ha:1<=i/\i<=a.size
 hb:2<=j/\j<=b.size
theorem jA {a:Array Keyed}{i:Nat}:(a.extract 0 i).toList=a.toList.take i:=by rw [gH,drop_zero,sub_zero]
theorem Lh.one {o:Array Keyed}{i j:Nat}(m:Mi S r a b)(L:Mh (Le r) a.toList b.toList o.toList i j)(hj:(j==1)=true):Md (Le r) a.toList b.toList (b.extract 0 j++a.extract 0 i++o.reverse).toList:=by
 have hj:j=1:=by simpa using hj
 subst hj;obtain⟨x,_,e,_⟩:=cN (a:=b) (i:=0) m.nb;rw [Array.toList_append,Array.toList_append,jA,jA,Array.toList_reverse];exact L.l1 m.sa e fun y hy=>m.hd y hy x e
theorem Lh.fa {o:Array Keyed}{i j:Nat}(m:Mi S r a b)(L:Mh (Le r) a.toList b.toList o.toList i j)(hi:(i==0)=true):Md (Le r) a.toList b.toList (a.extract 0 i++b.extract 0 j++o.reverse).toList:=by
 have hi:i=0:=by simpa using hi
 subst hi;rw [Array.toList_append,Array.toList_append,jA,jA,Array.toList_reverse,List.take_zero,List.nil_append];exact L.db m.sb rfl
theorem Lh.fb {o:Array Keyed}{i j:Nat}(m:Mi S r a b)(L:Mh (Le r) a.toList b.toList o.toList i j)(hj:(j==0)=true):Md (Le r) a.toList b.toList (a.extract 0 i++b.extract 0 j++o.reverse).toList:=by
 have hj:j=0:=by simpa using hj
 subst hj;rw [Array.toList_append,Array.toList_append,jA,jA,Array.toList_reverse,List.take_zero,append_nil];exact L.da m.sa rfl
theorem A82 {st:SortSt}{Q:Array Keyed->SortSt->Prop}(O:Oc M A E s κ S r)(hk:kindOf st=κ)(m:Mi S r a b)(h:∀l g,Md (Le r) a.toList b.toList l.toList->Q l (sg st g)):wpS M A E s (mgh a b) Q st:=by
 have ga:∀{o:Array Keyed}{i j:Nat}{x y:Keyed},Mh (Le r) a.toList b.toList o.toList (i+1) (j+1)->a.toList[i]?=some x->b.toList[j]?=some y->Le r y x->Mh (Le r) a.toList b.toList (o.push x).toList i (j+1):=by
  intro o i j x y L ex ey q;rw [Array.toList_push];exact L.a m.sa ex (lQ m.tr m.sb ey q)
 have gb:∀{o:Array Keyed}{i j:Nat}{x y:Keyed},Mh (Le r) a.toList b.toList o.toList (i+1) (j+1)->a.toList[i]?=some x->b.toList[j]?=some y->Le r x y->Mh (Le r) a.toList b.toList (o.push y).toList (i+1) j:=by
  intro o i j x y L ex ey q;rw [Array.toList_push];exact(L.sw.a m.sb ey (lQ m.tr m.sa ex q)).sw
 have n1:=m.na;have n2:=m.nb;refine wpS_bind (wpS_lift (wpAny_rule ⟨rfl,?_⟩));obtain⟨x0,a0,a0',_⟩:=cN (a:=a) (i:=a.size - 1) (by omega);refine wpS_bind (cL a0 ?_);have L0:Mh (Le r) a.toList b.toList (#[x0]:Array Keyed).toList (a.size - 1) b.size:=by
  have z:Mh (Le r) a.toList b.toList [] (a.size - 1+1) b.size:=⟨by rw [drop_of_length_le (l:=a.toList) (by rw [len];omega),drop_of_length_le (l:=b.toList) (by rw [len];omega)];exact List.Perm.refl _,List.Pairwise.nil,fun _ h=>nomatch h⟩;exact z.a m.sa a0' fun y hy=>m.tl y (mem_of_mem_take hy) x0 a0'
 dsimp only
 by_cases e1:(a.size - 1==0)=true
 ·rw [if_pos e1];exact wpS_pure (h _ (gallopOf st) (Lh.fa m L0 e1))
 rw [if_neg e1];by_cases e2:(b.size==1)=true
 ·rw [if_pos e2];exact wpS_pure (h _ (gallopOf st) (Lh.one m L0 e2))
 rw [if_neg e2];have a1:1<=a.size - 1:=by have:¬a.size - 1=0:=fun q=>e1 (by rw [q];rfl);omega
 have b1:2<=b.size:=by have:¬b.size=1:=fun q=>e2 (by rw [q];rfl);omega
 refine wpS_bind (wpS_get ?_);refine wpS_bind (wpS_mono (wpS_forRange
  (I:=fun X c st'=> ∃g o i j mg,st'=sg st g/\c=(none,i,j,o,mg)/\Lh r a b o i j/\X+i+j<=a.size+b.size)
  (Q:=fun c st'=> ∃g l w,st'=sg st g/\c=(some l,w)/\Md (Le r) a.toList b.toList l.toList) ?_ ?_ ⟨gallopOf st,_,_,_,_,rfl,rfl,⟨L0,⟨a1,by omega⟩,⟨b1,zjQ _⟩⟩,by omega⟩) ?_)
 ·rintro X c _ _ hX ⟨g,o,i,j,mg,rfl,rfl,L,hx⟩;dsimp only
  refine wpS_bind (wpS_mono (wpS_forRange
   (I:=fun X c st'=>st'=sg st g/\∃o i' j' ac bc,c=(none,i',j',o,ac,bc)/\Lh r a b o i' j'/\X+i'+j'<=i+j)
   (Q:=fun c st'=>st'=sg st g/\((∃l w,c=(some l,w)/\Md (Le r) a.toList b.toList l.toList)\/ ∃o i' j' ac bc,c=(none,i',j',o,ac,bc)/\Lh r a b o i' j'/\1+i'+j'<=i+j)) ?_ ?_ ⟨rfl,_,_,_,_,_,rfl,L,by omega⟩) ?_)
  ·rintro X c _ _ hX ⟨rfl,o,i',j',ac,bc,rfl,L,hx⟩;dsimp only
   obtain⟨i1,rfl⟩:∃i1,i'=i1+1:=⟨i' - 1,by have:=L.ha;omega⟩;obtain⟨j1,rfl⟩:∃j1,j'=j1+1:=⟨j' - 1,by have:=L.hb;omega⟩;have ha2:=L.ha;have hb2:=L.hb;simp only [add_sub_cancel];obtain⟨x,ea,ea',ma⟩:=cN (a:=a) (i:=i1) (by omega);obtain⟨y,eb,eb',mb⟩:=cN (a:=b) (i:=j1) (by omega);refine wpS_bind (cL eb (wpS_bind (cL ea (wpS_bind (O _ _ _ _ (m.xb y mb) (m.xa x ma) hk ?_)))));dsimp only
   cases hr:r y x with
   |true=>
    rw [if_pos rfl];refine wpS_bind (cL ea ?_);have L1:=ga L.mg ea' eb' (m.as _ _ hr);by_cases f1:(i1==0)=true
    ·rw [if_pos f1];exact wpS_pure ⟨rfl,.inl ⟨_,_,rfl,Lh.fa m L1 f1⟩⟩
    ·rw [if_neg f1];have L2:Lh r a b (o.push x) i1 (j1+1):=⟨L1,by have:¬i1=0:=fun q=>f1 (by rw [q];rfl);omega,hb2⟩
     split
     ·exact wpS_pure ⟨rfl,.inr ⟨_,_,_,_,_,rfl,L2,by omega⟩⟩
     ·exact wpS_pure ⟨rfl,_,_,_,_,_,rfl,L2,by omega⟩
   |false=>
    rw [if_neg (by decide)];refine wpS_bind (cL eb ?_);have L1:=gb L.mg ea' eb' hr;by_cases f1:(j1==1)=true
    ·rw [if_pos f1];exact wpS_pure ⟨rfl,.inl ⟨_,_,rfl,Lh.one m L1 f1⟩⟩
    ·rw [if_neg f1];have L2:Lh r a b (o.push y) (i1+1) j1:=⟨L1,ha2,by have:¬j1=1:=fun q=>f1 (by rw [q];rfl);omega⟩
     split
     ·exact wpS_pure ⟨rfl,.inr ⟨_,_,_,_,_,rfl,L2,by omega⟩⟩
     ·exact wpS_pure ⟨rfl,_,_,_,_,_,rfl,L2,by omega⟩
  ·rintro c _ ⟨rfl,o,i',j',ac,bc,rfl,L,hx⟩;exact⟨rfl,.inr ⟨_,_,_,_,_,rfl,L,by omega⟩⟩
  ·rintro c _ ⟨rfl,⟨l,w,rfl,hl⟩| ⟨o,i',j',ac,bc,rfl,L,hx'⟩⟩
   ·exact wpS_pure ⟨g,l,_,rfl,rfl,hl⟩
   dsimp only
   refine wpS_bind (wpS_lift (wpAny_rule ⟨rfl,?_⟩));refine wpS_bind (wpS_mono (wpS_forRange
    (I:=fun _ c st'=> ∃g o i2 j2 mg ac bc,st'=sg st g/\c=(none,i2,j2,o,mg,ac,bc)/\Lh r a b o i2 j2/\i2+j2<=i'+j')
    (Q:=fun c st'=> ∃g,st'=sg st g/\((∃l w,c=(some l,w)/\Md (Le r) a.toList b.toList l.toList)\/ ∃o i2 j2 mg ac bc,c=(none,i2,j2,o,mg,ac,bc)/\Lh r a b o i2 j2/\i2+j2<=i'+j')) ?_ ?_ ⟨g,_,_,_,_,_,_,rfl,rfl,L,by omega⟩) ?_)
   ·rintro X c _ _ hX ⟨g,o,i2,j2,mg,ac,bc,rfl,rfl,L,hx2⟩;dsimp only
    have ha2:=L.ha;have hb2:=L.hb;obtain⟨j1,rfl⟩:∃j1,j2=j1+1:=⟨j2 - 1,by omega⟩;simp only [add_sub_cancel];obtain⟨y,eb,eb',mb⟩:=cN (a:=b) (i:=j1) (by omega);by_cases hm:mg>1
    case' pos=>rw [if_pos hm]
    case' neg=>rw [if_neg hm]
    all_goals
     refine wpS_bind (wpS_modify ?_);refine wpS_bind (cL eb (wpS_bind (jR O hk ((tO (i:=0) m.tr m.sa m.xa (m.xb y mb)).le (n':=i2) (by omega)) (by omega) fun k k1 k2 k3=> ?_)));dsimp only
     simp only [zero_add]at k2 k3;have La:Mh (Le r) a.toList b.toList (o++(a.extract k i2).reverse).toList k (j1+1):=by
      rw [Array.toList_append,Array.toList_reverse,gH];refine Mh.as m.sa (i2 - k) k (by rw [show k+(i2 - k)=i2 by omega];exact L.mg) (by rw [len];omega) fun q x h1 h2 e=>lQ m.tr m.sb eb' ?_;have:=k3 q h1 (by omega);have e':a[q]?=some x:=by rw [←Array.getElem?_toList];exact e
      rw [e']at this;exact m.as _ _ (by simpa using this)
     have low:∀x,1<=k->a.toList[k - 1]?=some x->Le r x y:=fun x hl e=>by
      have:=k2 (k - 1) (by omega);have e':a[k - 1]?=some x:=by rw [←Array.getElem?_toList];exact e
      rw [e']at this;unfold Le;simpa using this
     by_cases hk0:i2 - k>0
     case' pos=>
      rw [if_pos hk0];by_cases f1:(k==0)=true
      case pos=>rw [if_pos f1];exact wpS_pure ⟨_,rfl,.inl ⟨_,_,rfl,Lh.fa m La f1⟩⟩
      rw [if_neg f1];have f1':¬k=0:=fun q=>f1 (by rw [q];rfl);have h3:1<=k/\k<=a.size:=by omega
      have h4:k+(j1+1)<=i'+j':=by omega
      have h5:=fun x e=>low x h3.1 e
      revert La h3 h4 h5
      generalize o++(a.extract k i2).reverse=o3;generalize i2 - k=kk;generalize k=i3
     case' neg=>
      rw [if_neg hk0];have e0:k=i2:=by omega
      have La:=L.mg;have h3:=ha2;have h4:=hx2;have h5:∀x,a.toList[i2 - 1]?=some x->Le r x y:=fun x e=>low x (by omega) (by rw [e0];exact e)
      revert La h3 h4 h5
      generalize o=o3;generalize i2 - k=kk;generalize i2=i3
     all_goals
      intro L3 h3 h4 h5;obtain⟨i1,rfl⟩:∃i1,i3=i1+1:=⟨i3 - 1,by omega⟩;simp only [add_sub_cancel]at h5⊢;obtain⟨x,ea,ea',ma⟩:=cN (a:=a) (i:=i1) (by omega);refine wpS_bind (cL eb ?_);have L4:=gb L3 ea' eb' (h5 x ea');by_cases f1:(j1==1)=true
      case pos=>rw [if_pos f1];exact wpS_pure ⟨_,rfl,.inl ⟨_,_,rfl,Lh.one m L4 f1⟩⟩
      rw [if_neg f1];have f1':¬j1=1:=fun q=>f1 (by rw [q];rfl);refine wpS_bind (cL ea (wpS_bind (jR O hk ((wU (i:=0) m.tr m.sb m.xb (m.xa x ma)).le (n':=j1) (by omega)) (by omega) fun k' p1 p2 p3=> ?_)));dsimp only
      simp only [zero_add]at p2 p3;have Lb:Mh (Le r) a.toList b.toList (o3.push y++(b.extract k' j1).reverse).toList (i1+1) k':=by
       rw [Array.toList_append,Array.toList_reverse,gH];refine(Mh.as m.sb (j1 - k') k' (by rw [show k'+(j1 - k')=j1 by omega];exact L4.sw) (by rw [len];omega) fun q z h1 h2 e=>lQ m.tr m.sa ea' ?_).sw;have:=p3 q h1 (by omega);have e':b[q]?=some z:=by rw [←Array.getElem?_toList];exact e
       rw [e']at this;simpa [Le]using this
      have lob:∀z,1<=k'->b.toList[k' - 1]?=some z->Le r z x:=fun z hl e=>by
       have:=p2 (k' - 1) (by omega);have e':b[k' - 1]?=some z:=by rw [←Array.getElem?_toList];exact e
       rw [e']at this;exact m.as _ _ (by simpa using this)
      by_cases hk1:j1 - k'>0
      case' pos=>
       rw [if_pos hk1];by_cases f2:(k'==1)=true
       case pos=>rw [if_pos f2];exact wpS_pure ⟨_,rfl,.inl ⟨_,_,rfl,Lh.one m Lb f2⟩⟩
       rw [if_neg f2];by_cases f3:(k'==0)=true
       case pos=>rw [if_pos f3];exact wpS_pure ⟨_,rfl,.inl ⟨_,_,rfl,Lh.fb m Lb f3⟩⟩
       rw [if_neg f3];have f2':¬k'=1:=fun q=>f2 (by rw [q];rfl);have f3':¬k'=0:=fun q=>f3 (by rw [q];rfl);have h6:2<=k'/\k'<=b.size:=by omega
       have h7:i1+1+k'<=i'+j':=by omega
       have h8:=fun z e=>lob z (by omega) e
       revert Lb h6 h7 h8
       generalize o3.push y++(b.extract k' j1).reverse=o4;generalize j1 - k'=kk1;generalize k'=j3
      case' neg=>
       rw [if_neg hk1];have e0:k'=j1:=by omega
       have h6:2<=j1/\j1<=b.size:=by omega
       have h7:i1+1+j1<=i'+j':=by omega
       have h8:∀z,b.toList[j1 - 1]?=some z->Le r z x:=fun z e=>lob z (by omega) (by rw [e0];exact e)
       revert L4 h6 h7 h8
       generalize o3.push y=o4;generalize j1 - k'=kk1;generalize j1=j3
      all_goals
       intro L5 h6 h7 h8;obtain⟨j4,rfl⟩:∃j4,j3=j4+1:=⟨j3 - 1,by omega⟩;simp only [add_sub_cancel]at h8;obtain⟨z,ez,ez',mz⟩:=cN (a:=b) (i:=j4) (by omega);refine wpS_bind (cL ea ?_);have L6:=ga L5 ea' ez' (h8 z ez');by_cases f2:(i1==0)=true
       case pos=>rw [if_pos f2];exact wpS_pure ⟨_,rfl,.inl ⟨_,_,rfl,Lh.fa m L6 f2⟩⟩
       rw [if_neg f2];have f2':¬i1=0:=fun q=>f2 (by rw [q];rfl);have L7:Lh r a b (o4.push x) i1 (j4+1):=⟨L6,by omega,h6⟩
       split
       ·exact wpS_pure ⟨_,rfl,.inr ⟨_,_,_,_,_,_,rfl,L7,by omega⟩⟩
       ·exact wpS_pure ⟨_,_,_,_,_,_,_,rfl,rfl,L7,by omega⟩
   ·rintro c _ ⟨g,o,i2,j2,mg,ac,bc,rfl,rfl,L,hx⟩;exact⟨g,rfl,.inr ⟨_,_,_,_,_,_,rfl,L,hx⟩⟩
   ·rintro c _ ⟨g,rfl,⟨l,w,rfl,hl⟩| ⟨o,i2,j2,mg,ac,bc,rfl,L,hx2⟩⟩
    ·exact wpS_pure ⟨g,l,_,rfl,rfl,hl⟩
    ·dsimp only
     exact wpS_bind (wpS_modify (wpS_pure ⟨_,_,_,_,_,rfl,rfl,L,by omega⟩))
 ·rintro c _ ⟨g,o,i,j,mg,rfl,rfl,L,hx⟩;have h1:=L.ha;have h2:=L.hb;omega
 ·rintro c _ ⟨g,l,w,rfl,rfl,hl⟩;exact wpS_pure (h l g hl)
end
theorem zP {α:Type}(sa:Nat):∀(l:List α)(n:Nat)(a:Array α),sa+n+l.length<=a.size->
  ((l.zipIdx n).foldl (fun a (p:α×Nat)=>a.setIfInBounds (sa+p.2) p.1) a).toList=a.toList.take (sa+n)++l++a.toList.drop (sa+n+l.length)
 | [],n,a,h=>by simp
 |x::l,n,a,h=>by
  have h':sa+n+(l.length+1)<=a.size:=h;show((l.zipIdx (n+1)).foldl _ (a.setIfInBounds (sa+n) x)).toList=_;rw [zP sa l (n+1) _ (by rw [Array.size_setIfInBounds];omega)];have e:(a.setIfInBounds (sa+n) x).toList=a.toList.set (sa+n) x:=by simp
  have hl:sa+n<a.toList.length:=by rw [Array.length_toList];omega
  rw [e];have e1:(a.toList.set (sa+n) x).take (sa+(n+1))=a.toList.take (sa+n)++[x]:=by
   rw [show sa+(n+1)=sa+n+1 by omega,iU (x:=x) (by rw [List.getElem?_set_self hl])];rw [List.take_set_of_le (zjQ _)]
  have e2:(a.toList.set (sa+n) x).drop (sa+(n+1)+l.length)=a.toList.drop (sa+n+(x::l).length):=by
   rw [List.drop_set_of_lt (by omega),length_cons];congr 1;omega
  rw [e1,e2];simp
theorem A6p {M:Model}{A:Around}{E:Value->Shared->Prop}{s:Shared}{Q:PUnit->SortSt->Prop}{st st':SortSt}(h:Q ⟨⟩ st'):wpS M A E s (set st':StateT SortSt Sem PUnit) Q st:=by unfold wpS;rw [StateT.run_set];exact zjY ⟨rfl,h⟩
section
variable {S:Keyed->Prop}{r:Keyed->Keyed->Bool}
def bf (r:Keyed->Keyed->Bool)(left:Bool)(key:Keyed)(l:List Keyed)(i:Nat):Bool:=match l[i]? with
 |some x=>if left=true then r x key else !r key x
 |none=>false
theorem xL {left:Bool}{key:Keyed}{ar:Array Keyed}{base n:Nat}{l:List Keyed}(tr:∀x y z,Le r x y->Le r y z->Le r x z)(sl:l.Pairwise (Le r))(g:∀i,i<n->ar[base+i]?=l[i]?)(hn:l.length=n)(hk:S key)(hS:∀x∈l,S x):Bey S r left key ar base n (bf r left key l):=by
 refine⟨fun i hi=> ?_,fun i j hij hj hb=> ?_,hk⟩
 ·have e:l[i]?=some l[i]:=getElem?_eq_getElem (by omega);exact⟨l[i],(g i hi).trans e,hS _ (getElem_mem _),by unfold bf;rw [e]⟩
 ·rcases eq_or_lt_of_le hij with rfl|hlt
  ·exact hb
  have ei:l[i]?=some l[i]:=getElem?_eq_getElem (by omega);have ej:l[j]?=some l[j]:=getElem?_eq_getElem (by omega);have q:Le r l[i] l[j]:=pairwise_iff_getElem.mp sl i j (by omega) (by omega) hlt;unfold bf at hb⊢;rw [ej]at hb;rw [ei];cases left with
  |true=>
   simp only [if_true]at hb⊢;cases h3:r l[i] key with
   |true=>rfl
   |false=>
    have q3:Le r key l[j]:=tr _ _ _ h3 q;unfold Le at q3;rw [q3]at hb;exact nomatch hb
  |false=>
   simp only [Bool.false_eq_true,if_false]at hb⊢;have q2:Le r l[j] key:=by unfold Le;simpa using hb
   have q3:Le r l[i] key:=tr _ _ _ q q2;unfold Le at q3;simp [q3]
end
theorem uD (x y z:Nat×Nat×Nat):((#[x,y]:Array (Nat×Nat×Nat)).setIfInBounds 0 z).eraseIdxIfInBounds (0+1)= #[z]:=by simp [Array.eraseIdxIfInBounds]
def mga:Nat->StateT SortSt Sem Bool:=mergeAt'
section
variable {M:Model}{A:Around}{E:Value->Shared->Prop}{s:Shared}{S:Keyed->Prop}{r:Keyed->Keyed->Bool}{κ:SortKind}
theorem A5y {st:SortSt}{Q:Bool->SortSt->Prop}{n1 n2 p q:Nat}{la lb:List Keyed}(O:Oc M A E s κ S r)(hk:kindOf st=κ)(hp:pendingOf st= #[(0,n1,p),(n1,n2,q)])(hf:failedOf st=none)(ea:(arrOf st).toList=la++lb)(h1:la.length=n1)(h2:lb.length=n2)(n1p:1<=n1)(n2p:1<=n2)
  (tr:∀x y z,Le r x y->Le r y z->Le r x z)(as:∀x y,r x y=true->Le r x y)(sa:la.Pairwise (Le r))(sb:lb.Pairwise (Le r))(hS:∀x∈la++lb,S x)
  (h:∀st',(arrOf st').toList.Perm (la++lb)->(arrOf st').toList.Pairwise (Le r)->kindOf st'=κ->pendingOf st'= #[(0,n1+n2,p)]->failedOf st'=none->Q true st'):wpS M A E s (mga 0) Q st:=by
 obtain⟨kd,ar,pd,gp,fl⟩:=st;have hp:pd= #[(0,n1,p),(n1,n2,q)]:=hp;have hf:fl=none:=hf;have hk:kd=κ:=hk;have ea:ar.toList=la++lb:=ea;subst hp hf hk;have hz:ar.size=n1+n2:=by rw [←Array.length_toList,ea,length_append,h1,h2]
 refine wpS_bind (wpS_get ?_);dsimp only
 refine wpS_bind (A6p ?_);obtain⟨b0,eb,eb',mb⟩:=cN (a:=ar) (i:=n1) (by omega);refine wpS_bind (cL eb ?_);have sE:∀x∈ar.toList,S x:=fun x hx=>hS x (by rw [ea]at hx;exact hx);have ga:∀i,i<n1->ar[0+i]?=la[i]?:=fun i hi=>by
  rw [←Array.getElem?_toList,ea,zero_add,List.getElem?_append_left (by omega)]
 have gb:∀i,i<n2->ar[n1+i]?=lb[i]?:=fun i hi=>by
  rw [←Array.getElem?_toList,ea,List.getElem?_append_right (by omega)];congr 1;omega
 have eb0:lb[0]?=some b0:=by rw [←gb 0 (by omega)];exact eb
 have done:(∀x∈la,Le r x b0)->Q true (SortSt.mk' kd ar ((#[(0,n1,p),(n1,n2,q)].setIfInBounds 0 (0,n1+n2,p)).eraseIdxIfInBounds (0+1)) gp none):=fun hx=>by
  refine h _ (by show ar.toList.Perm _;rw [ea]) ?_ rfl (uD _ _ _) rfl;show ar.toList.Pairwise _;rw [ea];exact pairwise_append.mpr ⟨sa,sb,fun x hx' y hy=>jK tr sb eb0 (hx x hx') y (by rw [drop_zero];exact hy)⟩
 refine wpS_bind (jR O hk.symm (xL tr sa ga h1 (sE b0 mb) fun x hx=>hS x (mem_append_left _ hx)) n1p fun k k1 k2 k3=> ?_);dsimp only
 have lowk:∀x∈la.take k,Le r x b0:=fun x hx=>by
  obtain⟨i,hi,e⟩:=mem_iff_getElem.mp hx;have hi':i<k:=by rw [length_take]at hi;omega
  have:=k2 i hi';have e':la[i]?=some x:=by rw [getElem_take]at e;rw [←e];exact getElem?_eq_getElem _
  unfold bf at this;rw [e']at this;unfold Le;simpa using this
 have upk:∀x∈la.drop k,Le r b0 x:=fun x hx=>by
  obtain⟨i,hi,e⟩:=mem_iff_getElem.mp hx;have hi':k+i<n1:=by rw [length_drop]at hi;omega
  have:=k3 (k+i) (by omega) hi';have e':la[k+i]?=some x:=by rw [getElem_drop]at e;rw [←e];exact getElem?_eq_getElem _
  unfold bf at this;rw [e']at this;exact as _ _ (by simpa using this)
 by_cases f1:(n1 - k==0)=true
 ·rw [if_pos f1];have f1':n1 - k=0:=by simpa using f1
  exact wpS_pure (done fun x hx=>lowk x (by rw [take_of_length_le (by omega)];exact hx))
 rw [if_neg f1];have f1':¬n1 - k=0:=fun q=>f1 (by rw [q];rfl);obtain⟨ky,ek,ek',mk⟩:=cN (a:=ar) (i:=0+k+(n1 - k) - 1) (by omega);have eka:la[n1 - 1]?=some ky:=by rw [←ga (n1 - 1) (by omega),show 0+(n1 - 1)=0+k+(n1 - k) - 1 by omega];exact ek
 have allk:∀x∈la,Le r x ky\/x=ky:=fun x hx=>by
  have st:=sa;have e0:la=la.take (n1 - 1)++[ky]:=by rw [←iU eka,show n1 - 1+1=n1 by omega,take_of_length_le (by omega)]
  rw [e0]at st hx;rcases mem_append.mp hx with hx|hx
  ·exact .inl ((pairwise_append.mp st).2.2 x hx ky zjR)
  ·exact .inr (by simpa using hx)
 refine wpS_bind (cL ek (wpS_bind (jR O hk.symm (xL tr sb gb h2 (sE ky mk) fun x hx=>hS x (mem_append_right _ hx)) (by omega) fun nb b1 b2 b3=> ?_)));dsimp only
 have lowb:∀y∈lb.take nb,Le r y ky:=fun y hy=>by
  obtain⟨i,hi,e⟩:=mem_iff_getElem.mp hy;have hi':i<nb:=by rw [length_take]at hi;omega
  have:=b2 i hi';have e':lb[i]?=some y:=by rw [getElem_take]at e;rw [←e];exact getElem?_eq_getElem _
  unfold bf at this;rw [e']at this;exact as _ _ (by simpa using this)
 have upb:∀y∈lb.drop nb,Le r ky y:=fun y hy=>by
  obtain⟨i,hi,e⟩:=mem_iff_getElem.mp hy;have hi':nb+i<n2:=by rw [length_drop]at hi;omega
  have:=b3 (nb+i) (by omega) hi';have e':lb[nb+i]?=some y:=by rw [getElem_drop]at e;rw [←e];exact getElem?_eq_getElem _
  unfold bf at this;rw [e']at this;simpa [Le]using this
 by_cases f2:(nb==0)=true
 ·rw [if_pos f2];have f2':nb=0:=by simpa using f2
  have q0:Le r ky b0:=upb b0 (by rw [f2',drop_zero];exact mem_of_getElem? eb0);exact wpS_pure (done fun x hx=>(allk x hx).elim (fun q=>tr _ _ _ q q0) fun q=>by rw [q];exact q0)
 rw [if_neg f2];have f2':¬nb=0:=fun q=>f2 (by rw [q];rfl);have xa:(ar.extract (0+k) n1).toList=la.drop k:=by
  rw [gH,ea,zero_add,List.drop_append_of_le_length (by omega),List.take_append_of_le_length (by rw [length_drop];omega),take_of_length_le (by rw [length_drop];omega)]
 have xb:(ar.extract n1 (n1+nb)).toList=lb.take nb:=by
  rw [gH,ea,←h1,List.drop_left];congr 1;omega
 have mi:Mi S r (ar.extract (0+k) n1) (ar.extract n1 (n1+nb)):=by
  refine⟨tr,as,?_,?_,?_,?_,?_,?_,?_,?_⟩
  ·rw [xa];exact sa.sublist (drop_sublist _ _)
  ·rw [xb];exact sb.sublist (take_sublist _ _)
  ·rw [xa];exact fun x hx=>hS x (mem_append_left _ (mem_of_mem_drop hx))
  ·rw [xb];exact fun x hx=>hS x (mem_append_right _ (mem_of_mem_take hx))
  ·rw [←len,xa,length_drop];omega
  ·rw [←len,xb,length_take];omega
  ·rw [xa,xb];intro x hx y hy;have:y=b0:=by rw [List.getElem?_take_of_lt (by omega),eb0]at hy;exact(Option.some.inj hy).symm
   rw [this];exact upk x hx
  ·rw [←len,xa,xb];intro y hy x hx;have:x=ky:=by
    rw [getElem?_drop,length_drop,show k+(la.length - k - 1)=n1 - 1 by omega,eka]at hx;exact(Option.some.inj hx).symm
   rw [this];exact lowb y hy
 have fin:∀(l:Array Keyed)(g:Nat),Md (Le r) (ar.extract (0+k) n1).toList (ar.extract n1 (n1+nb)).toList l.toList->
   Q true (SortSt.mk' kd (l.toList.zipIdx.foldl (fun a x=>a.setIfInBounds (0+k+x.snd) x.fst) ar) ((#[(0,n1,p),(n1,n2,q)].setIfInBounds 0 (0,n1+n2,p)).eraseIdxIfInBounds (0+1)) g none):=by
  intro l g hl;rw [xa,xb]at hl;have ll:l.toList.length=n1 - k+nb:=by rw [hl.1.length_eq,length_append,length_drop,length_take];omega
  have e:=zP (0+k) l.toList 0 ar (by rw [ll];omega);have e1:(l.toList.zipIdx.foldl (fun a (x:Keyed×Nat)=>a.setIfInBounds (0+k+x.snd) x.fst) ar).toList=la.take k++l.toList++lb.drop nb:=by
   refine e.trans ?_;rw [ea,List.take_append_of_le_length (by omega),show 0+k+0+l.toList.length=la.length+nb by omega,List.drop_append,drop_of_length_le (l:=la) (by omega),List.nil_append,show la.length+nb - la.length=nb by omega,show 0+k+0=k by omega]
  refine h _ ?_ ?_ rfl (uD _ _ _) rfl
  ·show(Array.toList _).Perm _;refine(List.Perm.of_eq e1).trans ?_;refine((List.Perm.append_left _ hl.1).append_right _).trans (List.Perm.of_eq ?_);rw [←append_assoc,take_append_drop,append_assoc,take_append_drop]
  ·show(Array.toList _).Pairwise _;refine e1▸ ?_;have s1:(la.take k++la.drop k).Pairwise (Le r):=by rw [take_append_drop];exact sa
   have s2:(lb.take nb++lb.drop nb).Pairwise (Le r):=by rw [take_append_drop];exact sb
   have hlm:∀z∈l.toList,z∈la.drop k\/z∈lb.take nb:=fun z hz=>mem_append.mp (hl.1.mem_iff.mp hz);have allb:∀x,Le r x b0->∀y∈lb,Le r x y:=fun x hx y hy=>jK tr sb eb0 hx y (by rw [drop_zero];exact hy);refine pairwise_append.mpr ⟨pairwise_append.mpr ⟨(pairwise_append.mp s1).1,hl.2,fun x hx z hz=> ?_⟩,(pairwise_append.mp s2).2.1,fun x hx z hz=> ?_⟩
   ·rcases hlm z hz with hz|hz
    ·exact(pairwise_append.mp s1).2.2 x hx z hz
    ·exact allb x (lowk x hx) z (mem_of_mem_take hz)
   ·rcases mem_append.mp hx with hx|hx
    ·exact allb x (lowk x hx) z (mem_of_mem_drop hz)
    ·rcases hlm x hx with hx|hx
     ·exact(allk x (mem_of_mem_drop hx)).elim (fun q=>tr _ _ _ q (upb z hz)) fun q=>by rw [q];exact upb z hz
     ·exact(pairwise_append.mp s2).2.2 x hx z hz
 by_cases f3:n1 - k<=nb
 ·rw [if_pos f3];exact wpS_bind (A8o O hk.symm mi fun l g hl=>wpS_bind (wpS_modify (wpS_bind (wpS_get (wpS_pure (fin l g hl))))))
 ·rw [if_neg f3];exact wpS_bind (A82 O hk.symm mi fun l g hl=>wpS_bind (wpS_modify (wpS_bind (wpS_get (wpS_pure (fin l g hl))))))
end
def at' (a:Array Keyed)(i:Nat):Keyed:=(a[i]?).getD (Value.none,Value.none)
theorem qA {a:Array Keyed}{i:Nat}(h:i<a.size):a[i]?=some (at' a i):=by unfold at';simp [h]
theorem uF {a:Array Keyed}{i:Nat}(h:i<a.size):at' a i∈a.toList:=by have:=qA h;rw [←Array.getElem?_toList]at this;exact mem_of_getElem? this
section
variable {M:Model}{A:Around}{E:Value->Shared->Prop}{s:Shared}{S:Keyed->Prop}{r:Keyed->Keyed->Bool}{κ:SortKind}{st:SortSt}{a:Array Keyed}{lo nrem n:Nat}
theorem lO {i j:Nat}{Q:Option Bool->SortSt->Prop}(O:Oc M A E s κ S r)(hk:kindOf st=κ)(hS:∀x∈(arrOf st).toList,S x)(hi:i<(arrOf st).size)(hj:j<(arrOf st).size)(h:Q (some (r (at' (arrOf st) i) (at' (arrOf st) j))) st):wpS M A E s (ltAt' i j) Q st:=by rw [ltAt'_eq];refine wpS_bind (wpS_get ?_);exact wpS_bind (cL (qA hi) (wpS_bind (cL (qA hj) (O _ _ _ _ (hS _ (uF hi)) (hS _ (uF hj)) hk h))))
theorem A4o {i j:Nat}{Q:Unit->SortSt->Prop}(h:Q () (setArr st (mirror (arrOf st) i j ((j - i)/2)))):wpS M A E s (reverseSlice' i j) Q st:=by rw [reverseSlice'_eq];exact wpS_modify h
def Up (r:Keyed->Keyed->Bool)(a:Array Keyed)(lo n:Nat):Prop:=∀i,lo+1<=i->i<lo+n->r (at' a i) (at' a (i - 1))=false
theorem yO {f:Nat->Option (Option Nat)×Nat->StateT SortSt Sem (ForInStep (Option (Option Nat)×Nat))}{Q:Option (Option Nat)×Nat->SortSt->Prop}(h1:1<=n)(hn:n<=nrem)(U:Up r a lo n)
  (hf:∀x m (R:ForInStep (Option (Option Nat)×Nat)->SortSt->Prop),1<=m->m<nrem->(r (at' a (lo+m)) (at' a (lo+m - 1))=true->R (.done (none,m)) st)->(r (at' a (lo+m)) (at' a (lo+m - 1))=false->R (.yield (none,m+1)) st)->wpS M A E s (f x (none,m)) R st)
  (h:∀m,n<=m->m<=nrem->Up r a lo m->(m=nrem\/r (at' a (lo+m)) (at' a (lo+m - 1))=true)->Q (none,m) st):wpS M A E s (forIn [n:nrem] (none,n) f) Q st:=by
 refine wpS_mono (wpS_forRange (I:=fun x c st'=>st'=st/\c=(none,x)/\x<=nrem/\n<=x/\Up r a lo x) (Q:=fun c st'=>st'=st/\∃m,c=(none,m)/\n<=m/\m<=nrem/\Up r a lo m/\(m=nrem\/r (at' a (lo+m)) (at' a (lo+m - 1))=true)) ?_ ?_ ⟨rfl,rfl,hn,zjQ _,U⟩) ?_
 ·rintro x c _ h2 h3 ⟨rfl,rfl,h4,h5,U'⟩;refine hf x x _ (by omega) h3 (fun q=> ⟨rfl,x,rfl,h5,h4,U',.inr q⟩) fun q=> ⟨rfl,rfl,by omega,by omega,fun i h6 h7=> ?_⟩;rcases lt_or_ge i (lo+x)with h8|h8
  ·exact U' i h6 h8
  ·obtain rfl:i=lo+x:=by omega
   exact q
 ·rintro c _ ⟨rfl,rfl,h4,h5,U'⟩;exact⟨rfl,_,rfl,h5,h4,U',.inl (by omega)⟩
 ·rintro c _ ⟨rfl,m,rfl,h4,h5,U',h6⟩;exact h m h4 h5 U' h6
theorem Up.le (tr:∀x y z,Le r x y->Le r y z->Le r x z)(U:Up r a lo n):∀d i,lo<=i->i+d+1<lo+n->Le r (at' a i) (at' a (i+d+1))
 |0,i,h1,h2=>U (i+1) (by omega) (by omega)
 |d+1,i,h1,h2=>tr _ _ _ (Up.le tr U d i h1 (by omega)) (U (i+d+2) (by omega) (by omega))
def Di (r:Keyed->Keyed->Bool)(a:Array Keyed):Prop:=∀i j,i<j->j<a.size->r (at' a i) (at' a j)=true\/r (at' a j) (at' a i)=true
theorem sO {Q:Option Nat->SortSt->Prop}(O:Oc M A E s κ S r)(hk:kindOf st=κ)(ha:arrOf st=a)(hS:∀x∈a.toList,S x)(D:Di r a)(tr:∀x y z,Le r x y->Le r y z->Le r x z)(as:∀x y,r x y=true->Le r x y)(h1:1<=nrem)(hz:lo+nrem<=a.size)
  (h:∀m a',1<=m->m<=nrem->a'.Perm a->(∀i,i<lo->a'[i]?=a[i]?)->Up r a' lo m->Q (some m) (setArr st a')):wpS M A E s (countRun' lo nrem) Q st:=by
 have step:∀{st:SortSt}{a:Array Keyed}(m:Nat){R:Option Bool->SortSt->Prop},kindOf st=κ->arrOf st=a->(∀x∈a.toList,S x)->lo+nrem<=a.size->1<=m->m<nrem->R (some (r (at' a (lo+m)) (at' a (lo+m - 1)))) st->wpS M A E s (ltAt' (lo+m) (lo+m - 1)) R st:=by
  intro st a m R hk ha hS hz h1 h2 hR;subst ha;exact lO O hk hS (by omega) (by omega) hR
 have same:setArr st a=st:=by subst ha;rfl
 refine wpS_bind (yO (a:=a) (lo:=lo) (r:=r) (zjQ 1) h1 (fun i h2 h3=>by omega) (fun x m R m1 m2 r1 r2=> ?_) fun m m1 m2 U mx=> ?_)
 ·refine wpS_bind (step m hk ha hS hz m1 m2 ?_);cases hr:r (at' a (lo+m)) (at' a (lo+m - 1))with
  |true=>exact wpS_pure (r1 hr)
  |false=>exact wpS_pure (r2 hr)
 dsimp only
 by_cases f1:(m==nrem)=true
 ·rw [if_pos f1];have q:=h m a m1 m2 (Array.Perm.refl _) (fun _ _=>rfl) U;rw [same]at q;exact wpS_pure q
 rw [if_neg f1];have f1':¬m=nrem:=fun q=>f1 (by rw [q];exact beq_self_eq_true _);by_cases f2:m>1
 ·rw [if_pos f2];refine wpS_bind (lO O hk (by rw [ha];exact hS) (by rw [ha];omega) (by rw [ha];omega) ?_);rw [ha];have q1:Le r (at' a lo) (at' a (lo+m - 1)):=by
   have:=Up.le tr U (m - 2) lo (zjQ _) (by omega);rw [show lo+(m - 2)+1=lo+m - 1 by omega]at this;exact this
  have q2:r (at' a lo) (at' a (lo+m - 1))=true:=(D lo (lo+m - 1) (by omega) (by omega)).elim id fun q=>by unfold Le at q1;rw [q1]at q;exact nomatch q
  rw [q2];have q:=h m a m1 m2 (Array.Perm.refl _) (fun _ _=>rfl) U;rw [same]at q;exact wpS_pure q
 rw [if_neg f2];obtain rfl:m=1:=by omega
 have d1:r (at' a (lo+1)) (at' a lo)=true:=mx.elim (fun q=>absurd q f1') fun q=>by rw [show lo+1 - 1=lo by omega]at q;exact q
 refine wpS_bind (wpS_lift (wpAny_rule ⟨rfl,?_⟩));refine wpS_bind (wpS_mono (wpS_forRange (I:=fun x c st'=>st'=st/\c=(none,x,0)/\x<=nrem/\2<=x/\∀i,lo+1<=i->i<lo+x->r (at' a i) (at' a (i - 1))=true)
  (Q:=fun c st'=>st'=st/\∃x,c=(none,x,0)/\x<=nrem/\2<=x/\∀i,lo+1<=i->i<lo+x->r (at' a i) (at' a (i - 1))=true) ?_ ?_ ⟨rfl,rfl,by omega,zjQ _,fun i h3 h4=> ?_⟩) ?_)
 ·rintro x c _ h3 h4 ⟨rfl,rfl,h5,h6,V⟩;dsimp only
  refine wpS_bind (step x hk ha hS hz (by omega) h4 ?_);cases hr:r (at' a (lo+x)) (at' a (lo+x - 1))with
  |true=>
   refine wpS_pure ⟨rfl,rfl,by omega,by omega,fun i h7 h8=> ?_⟩;rcases lt_or_ge i (lo+x)with h9|h9
   ·exact V i h7 h9
   ·obtain rfl:i=lo+x:=by omega
    exact hr
  |false=>
   refine wpS_bind (lO O hk (by rw [ha];exact hS) (by rw [ha];omega) (by rw [ha];omega) ?_);rw [ha];have q2:r (at' a (lo+x - 1)) (at' a (lo+x))=true:=(D (lo+x - 1) (lo+x) (by omega) (by omega)).elim id fun q=>by rw [hr]at q;exact nomatch q
   rw [q2];exact wpS_pure ⟨rfl,x,rfl,h5,h6,V⟩
 ·rintro c _ ⟨rfl,rfl,h5,h6,V⟩;exact⟨rfl,_,rfl,h5,h6,V⟩
 ·obtain rfl:i=lo+1:=by omega
  rw [show lo+1 - 1=lo by omega];exact d1
 rintro c st ⟨rfl,x,rfl,h5,h6,V⟩;dsimp only
 rw [if_neg (by omega)];refine wpS_bind (A4o ?_);have eM:∀k,(mirror (arrOf st) lo (lo+x) ((lo+x - lo)/2))[k]?=if lo<=k/\k<lo+x then a[lo+(lo+x) - 1 - k]? else a[k]?:=fun k=>by
  rw [ha];exact getElem?_mirror_all (by omega) k
 have pM:(mirror (arrOf st) lo (lo+x) ((lo+x - lo)/2)).Perm a:=by rw [ha];exact mirror_perm _ _ _ _
 generalize mirror (arrOf st) lo (lo+x) ((lo+x - lo)/2)=a' at eM pM⊢;have zM:a'.size=a.size:=pM.size_eq;have U':Up r a' lo x:=fun i h7 h8=>by
  have e1:at' a' i=at' a (lo+(lo+x) - 1 - i):=by unfold at';rw [eM i,if_pos ⟨by omega,by omega⟩]
  have e2:at' a' (i - 1)=at' a (lo+(lo+x) - 1 -(i - 1)):=by unfold at';rw [eM (i - 1),if_pos ⟨by omega,by omega⟩]
  have q:=V (lo+(lo+x) - 1 -(i - 1)) (by omega) (by omega);rw [show lo+(lo+x) - 1 -(i - 1) - 1=lo+(lo+x) - 1 - i by omega]at q;rw [e1,e2];exact as _ _ q
 have hS':∀y∈a'.toList,S y:=fun y hy=>hS y (pM.toList.mem_iff.mp hy);refine wpS_bind (yO (st:=setArr st a') (a:=a') (lo:=lo) (r:=r) (by omega) h5 U' (fun z m R m1 m2 r1 r2=> ?_) fun m m1 m2 U2 _=> ?_)
 ·refine wpS_bind (step (st:=setArr st a') (a:=a') m hk rfl hS' (by rw [zM];exact hz) m1 m2 ?_);cases hr:r (at' a' (lo+m)) (at' a' (lo+m - 1))with
  |true=>exact wpS_pure (r1 hr)
  |false=>exact wpS_pure (r2 hr)
 ·exact wpS_pure (h m a' (by omega) m2 pM (fun i hi=>by rw [eM i,if_neg (by omega)]) U2)
end
section
variable {M:Model}{A:Around}{E:Value->Shared->Prop}{s:Shared}{S:Keyed->Prop}{r:Keyed->Keyed->Bool}{κ:SortKind}{st:SortSt}{a:Array Keyed}{lo n ok:Nat}
theorem A2t {i j:Nat}{Q:Unit->SortSt->Prop}(h:Q () (setArr st (bubble (arrOf st) i (i - j)))):wpS M A E s (moveDown' i j) Q st:=by rw [moveDown'_eq];exact wpS_modify h
theorem A9g {i j:Nat}{Q:Option Bool->SortSt->Prop}(ha:arrOf st=a)(O:Oc M A E s κ S r)(hk:kindOf st=κ)(hS:∀x∈a.toList,S x)(hi:i<a.size)(hj:j<a.size)(h:Q (some (r (at' a i) (at' a j))) st):wpS M A E s (ltAt' i j) Q st:=by subst ha;exact lO O hk hS hi hj h
theorem Up.le' (tr:∀x y z,Le r x y->Le r y z->Le r x z)(U:Up r a lo n){i j:Nat}(h1:lo<=i)(h2:i<j)(h3:j<lo+n):Le r (at' a i) (at' a j):=by have:=Up.le tr U (j - i - 1) i h1 (by omega);rw [show i+(j - i - 1)+1=j by omega]at this;exact this
theorem xZ {Q:Bool->SortSt->Prop}(O:Oc M A E s κ S r)(hk:kindOf st=κ)(ha:arrOf st=a)(hS:∀x∈a.toList,S x)(tr:∀x y z,Le r x y->Le r y z->Le r x z)(as:∀x y,r x y=true->Le r x y)(hn:1<=n)(hok:ok<=n)(hz:lo+n<=a.size)(U:Up r a lo ok)
  (h:∀a',a'.Perm a->(∀i,i<lo->a'[i]?=a[i]?)->Up r a' lo n->Q true (setArr st a')):wpS M A E s (binarySort' lo n ok) Q st:=by
 have same:setArr st a=st:=by subst ha;rfl
 refine wpS_bind (wpS_mono (wpS_forRange (I:=fun x c st'=> ∃a',st'=setArr st a'/\c=(none,())/\a'.Perm a/\(∀i,i<lo->a'[i]?=a[i]?)/\Up r a' lo x)
  (Q:=fun c st'=> ∃a',st'=setArr st a'/\c=(none,())/\a'.Perm a/\(∀i,i<lo->a'[i]?=a[i]?)/\Up r a' lo n) ?_ ?_ ⟨a,same.symm,rfl,Array.Perm.refl _,fun _ _=>rfl,fun i h1 h2=> ?_⟩) ?_)
 ·rintro k c _ h1 h2 ⟨b,rfl,rfl,pb,fb,V⟩;have zb:b.size=a.size:=pb.size_eq;have Sb:∀y∈b.toList,S y:=fun y hy=>hS y (pb.toList.mem_iff.mp hy);dsimp only
  refine wpS_bind (wpS_mono (wpS_forRange (I:=fun x c st'=>st'=setArr st b/\∃l e,c=(none,l,e)/\l<=e/\e<=k/\(∀i,i<l->r (at' b (lo+k)) (at' b (lo+i))=false)/\(∀i,e<=i->i<k->r (at' b (lo+k)) (at' b (lo+i))=true)/\e - l+x<=k)
   (Q:=fun c st'=>st'=setArr st b/\∃l e,c=(none,l,e)/\l<=k/\(∀i,i<l->r (at' b (lo+k)) (at' b (lo+i))=false)/\(∀i,l<=i->i<k->r (at' b (lo+k)) (at' b (lo+i))=true)) ?_ ?_ ⟨rfl,0,k,rfl,zero_le _,zjQ _,fun i hi=>absurd hi (Nat.not_lt_zero _),fun i h3 h4=>by omega,by omega⟩) ?_)
  ·rintro x c _ _ hx ⟨rfl,l,e,rfl,g1,g2,g3,g4,g5⟩;dsimp only
   by_cases f1:l≥e
   ·rw [if_pos f1];exact wpS_pure ⟨rfl,l,e,rfl,by omega,g3,fun i h3 h4=>g4 i (by omega) h4⟩
   rw [if_neg f1];refine wpS_bind (A9g (st:=setArr st b) (a:=b) (i:=lo+k) (j:=lo+(l+e)/2) rfl O hk Sb (by omega) (by omega) ?_);cases hr:r (at' b (lo+k)) (at' b (lo+(l+e)/2))with
   |true=>
    refine wpS_pure ⟨rfl,l,_,rfl,by omega,by omega,g3,fun i h3 h4=> ?_,by omega⟩;rcases eq_or_lt_of_le h3 with rfl|h5
    ·exact hr
    ·have q:=Up.le' tr V (i:=lo+(l+e)/2) (j:=lo+i) (by omega) (by omega) (by omega);cases hc:r (at' b (lo+k)) (at' b (lo+i))with
     |true=>rfl
     |false=>have q2:=tr _ _ _ q hc;unfold Le at q2;rw [q2]at hr;exact nomatch hr
   |false=>
    refine wpS_pure ⟨rfl,_,e,rfl,by omega,g2,fun i h3=> ?_,g4,by omega⟩;rcases lt_or_ge i ((l+e)/2)with h5|h5
    ·exact tr _ _ _ (Up.le' tr V (i:=lo+i) (j:=lo+(l+e)/2) (by omega) (by omega) (by omega)) hr
    ·obtain rfl:i=(l+e)/2:=by omega
     exact hr
  ·rintro c _ ⟨rfl,l,e,rfl,g1,g2,g3,g4,g5⟩;exact⟨rfl,l,e,rfl,by omega,g3,fun i h3 h4=>g4 i (by omega) h4⟩
  ·rintro c _ ⟨rfl,l,e,rfl,g1,g3,g4⟩;dsimp only
   refine wpS_bind (A2t (wpS_pure ?_));have eB:∀j,(bubble b (lo+k) (k - l))[j]?=if j=lo+l then b[lo+k]? else if lo+l<j/\j<=lo+k then b[j - 1]? else b[j]?:=fun j=>by
    have:=getElem?_bubble (xs:=b) (src:=lo+k) (by omega) (k - l) (by omega) j;rw [show lo+k -(k - l)=lo+l by omega]at this;exact this
   refine⟨bubble b (lo+k) (k - l),?_,rfl,(bubble_perm _ _ _).trans pb,fun i hi=> ?_,fun i h3 h4=> ?_⟩
   ·show setArr st (bubble b (lo+k) (lo+k -(lo+l)))=_;rw [show lo+k -(lo+l)=k - l by omega]
   ·rw [eB i,if_neg (by omega),if_neg (by omega)];exact fb i hi
   ·have ev:∀j,at' (bubble b (lo+k) (k - l)) j=if j=lo+l then at' b (lo+k)else if lo+l<j/\j<=lo+k then at' b (j - 1)else at' b j:=fun j=>by
     unfold at';rw [eB j];split;rfl;split;rfl;rfl
    rw [ev i,ev (i - 1)];by_cases c1:i=lo+l
    ·rw [if_pos c1,if_neg (by omega),if_neg (by omega),show i - 1=lo+(l - 1) by omega];exact g3 (l - 1) (by omega)
    rw [if_neg c1];by_cases c2:i<lo+l
    ·rw [if_neg (by omega),if_neg (by omega),if_neg (by omega)];exact V i h3 (by omega)
    rw [if_pos ⟨by omega,by omega⟩];by_cases c3:i - 1=lo+l
    ·rw [if_pos c3,c3];exact as _ _ (g4 l (zjQ _) (by omega))
    ·rw [if_neg c3,if_pos ⟨by omega,by omega⟩];exact V (i - 1) (by omega) (by omega)
 ·rintro c _ ⟨b,rfl,rfl,pb,fb,V⟩;exact⟨b,rfl,rfl,pb,fb,fun i h1 h2=>V i h1 (by omega)⟩
 ·rcases lt_or_ge ok 1 with h3|h3
  ·omega
  ·exact U i h1 (by omega)
 ·rintro c _ ⟨b,rfl,rfl,pb,fb,V⟩;exact wpS_pure (h b pb fb V)
end
section
variable {M:Model}{A:Around}{E:Value->Shared->Prop}{s:Shared}{S:Keyed->Prop}{r:Keyed->Keyed->Bool}{κ:SortKind}{st:SortSt}{a:Array Keyed}{lo n:Nat}
def Ne (r:Keyed->Keyed->Bool)(x y:Keyed):Prop:=r x y=true\/r y x=true
theorem mZ {a:Array Keyed}{i:Nat}(h:i<a.toList.length):a.toList[i]=at' a i:=by
 have h':i<a.size:=by rw [←Array.length_toList];exact h
 unfold at';simp [h']
theorem uS (h:a.toList.Pairwise (Ne r)):Di r a:=fun i j hij hj=>by
 have hl:a.toList.length=a.size:=Array.length_toList;have q:=pairwise_iff_getElem.mp h i j (by omega) (by omega) hij;rw [mZ,mZ]at q;exact q
theorem A4l {a':Array Keyed}(h:a.toList.Pairwise (Ne r))(p:a'.Perm a):a'.toList.Pairwise (Ne r):=
 (List.Perm.pairwise_iff (fun{x y} (q:Ne r x y)=>q.symm) p.toList).mpr h
theorem Up.pw (tr:∀x y z,Le r x y->Le r y z->Le r x z)(U:Up r a lo n)(hz:lo+n<=a.size):((a.toList.drop lo).take n).Pairwise (Le r):=by refine pairwise_iff_getElem.mpr fun i j hi hj hij=> ?_;rw [length_take]at hi hj;rw [getElem_take,getElem_take,getElem_drop,getElem_drop,mZ,mZ];exact Up.le' tr U (by omega) (by omega) (by omega)
theorem Up.of {a':Array Keyed}(U:Up r a 0 n)(h:∀i,i<n->a'[i]?=a[i]?):Up r a' 0 n:=fun i h1 h2=>by
 have e:∀i,i<n->at' a' i=at' a i:=fun i hi=>by unfold at';rw [h i hi]
 rw [e i (by omega),e (i - 1) (by omega)];exact U i h1 h2
theorem A2q (h1:64<=n)(h2:n<128):minRun' n n 0=n/2+n%2:=by obtain⟨f,rfl⟩:∃f,n=f+2:=⟨n - 2,by omega⟩;rw [show minRun' (f+2) (f+2) 0=if f+2<64 then f+2+0 else minRun' (f+1) ((f+2)/2) (max 0 ((f+2)%2))from minRun'_succ (f+1) (f+2) 0,if_neg (by omega)];rw [minRun'_succ,if_pos (by omega)];omega
theorem wp_runs {Q:Unit->SortSt->Prop}(O:Oc M A E s κ S r)(hk:kindOf st=κ)(ha:arrOf st=a)(hp:pendingOf st= #[])(hf:failedOf st=none)(hS:∀x∈a.toList,S x)(D:a.toList.Pairwise (Ne r))(tr:∀x y z,Le r x y->Le r y z->Le r x z)(as:∀x y,r x y=true->Le r x y)(hn:a.size=n)(h1:64<=n)(h2:n<128)
  (h:∀st',(arrOf st').toList.Perm a.toList->failedOf st'=none->(arrOf st').toList.Pairwise (Le r)->Q () st'):wpS M A E s sortRuns' Q st:=by
 obtain⟨kd,ar,pd,gp,fl⟩:=st;have hp:pd= #[]:=hp;have hf:fl=none:=hf;have hk:kd=κ:=hk;have ha:ar=a:=ha;subst hp hf hk ha;rw [sortRuns'_eq];refine wpS_bind (wpS_get ?_);dsimp only
 simp only [hn,A2q h1 h2];generalize hmr:n/2+n%2=mr;have mr1:32<=mr/\mr<=n/\n<=2*mr:=by omega
 refine wpS_bind (wpS_mono (wpS_forRange
  (I:=fun x c st'=>(x=0/\c=(none,0)/\st'=SortSt.mk' kd ar #[] gp none)\/(∃m a',x=1/\c=(none,m)/\mr<=m/\m<=n/\a'.Perm ar/\Up r a' 0 m/\st'=SortSt.mk' kd a' #[(0,m,0)] gp none)\/ ∃m a' pw,2<=x/\c=(none,n)/\1<=m/\m<n/\a'.Perm ar/\Up r a' 0 m/\Up r a' m (n - m)/\st'=SortSt.mk' kd a' #[(0,m,pw),(m,n - m,0)] gp none)
  (Q:=fun c st'=>(∃a',c=(none,n)/\a'.Perm ar/\Up r a' 0 n/\st'=SortSt.mk' kd a' #[(0,n,0)] gp none)\/ ∃m a' pw,c=(none,n)/\1<=m/\m<n/\a'.Perm ar/\Up r a' 0 m/\Up r a' m (n - m)/\st'=SortSt.mk' kd a' #[(0,m,pw),(m,n - m,0)] gp none) ?_ ?_ (.inl ⟨rfl,rfl,rfl⟩)) ?_)
 ·rintro x c st' _ hx (⟨rfl,rfl,rfl⟩| ⟨m,a',rfl,rfl,m1,m2,pa,U,rfl⟩| ⟨m,a',pw,hx1,rfl,m1,m2,pa,U,V,rfl⟩)
  ·dsimp only
   rw [if_neg (by omega)];simp only [sub_zero,zero_add];refine wpS_bind (sO (a:=ar) O hk rfl hS (uS D) tr as (by omega) (by rw [zero_add];exact le_of_eq hn.symm) fun m a1 m1 m2 p1 _ U1=> ?_);dsimp only
   by_cases f1:m<mr
   ·rw [if_pos f1];generalize hq:min n mr=q;obtain rfl:mr=q:=by omega
    refine wpS_bind (wpS_lift (wpAny_rule ⟨rfl,?_⟩));refine wpS_bind (xZ (a:=a1) O hk rfl (fun x hx=>hS x (p1.toList.mem_iff.mp hx)) tr as (by omega) (by omega) (by rw [p1.size_eq,hn];omega) U1 fun a2 p2 _ U2=> ?_);exact wpS_bind (wpS_get (wpS_bind (wpS_modify (wpS_pure (.inr (.inl ⟨mr,a2,trivial,rfl,zjQ _,by omega,p2.trans p1,U2,rfl⟩))))))
   ·rw [if_neg f1];exact wpS_bind (wpS_get (wpS_bind (wpS_modify (wpS_pure (.inr (.inl ⟨m,a1,trivial,rfl,by omega,m2,p1,U1,rfl⟩))))))
  ·dsimp only
   by_cases f1:m≥n
   ·rw [if_pos f1];obtain rfl:m=n:=by omega
    exact wpS_pure (.inl ⟨a',rfl,pa,U,rfl⟩)
   rw [if_neg f1];have hS':∀x∈a'.toList,S x:=fun x hx=>hS x (pa.toList.mem_iff.mp hx);refine wpS_bind (sO (st:=SortSt.mk' kd a' #[(0,m,0)] gp none) (a:=a') O hk rfl hS' (uS (A4l D pa)) tr as (by omega) (by rw [pa.size_eq,hn];omega) fun k a1 k1 k2 p1 q1 U1=> ?_);dsimp only
   by_cases f2:k<mr
   case' pos=>
    rw [if_pos f2];generalize hq:min (n - m) mr=q;obtain rfl:q=n - m:=by omega
    refine wpS_bind (wpS_lift (wpAny_rule ⟨rfl,?_⟩));refine wpS_bind (xZ (st:=setArr (SortSt.mk' kd a' #[(0,m,0)] gp none) a1) (a:=a1) O hk rfl (fun x hx=>hS' x (p1.toList.mem_iff.mp hx)) tr as (by omega) k2 (by rw [p1.size_eq,pa.size_eq,hn];omega) U1 fun a2 p2 q2 U2=> ?_);have pz:a2.Perm ar:=(p2.trans p1).trans pa;have V:Up r a2 0 m:=U.of fun i hi=>(q2 i hi).trans (q1 i hi);have kq:n - m=n - m:=rfl;simp only [Bool.not_true,Bool.false_eq_true,if_false]
   case' neg=>
    rw [if_neg f2];obtain rfl:k=n - m:=by omega
    have pz:a1.Perm ar:=p1.trans pa;have V:Up r a1 0 m:=U.of fun i hi=>q1 i hi;have U2:=U1;obtain⟨a2,rfl⟩:∃a2,a2=a1:=⟨_,rfl⟩
   all_goals
    refine wpS_bind (wpS_get ?_);refine wpS_bind (wpS_mono (wpS_forRange (I:=fun _ c st''=>st''=SortSt.mk' kd a2 #[(0,m,0)] gp none/\c=(none,())) (Q:=fun c st''=>st''=SortSt.mk' kd a2 #[(0,m,0)] gp none/\c=(none,())) ?_ (fun _ _ hh=>hh) ⟨rfl,rfl⟩) ?_)
    ·rintro x c _ _ _ ⟨rfl,rfl⟩;exact wpS_bind (wpS_get (wpS_pure ⟨rfl,rfl⟩))
    ·rintro c _ ⟨rfl,rfl⟩;refine wpS_bind (wpS_modify (wpS_bind (wpS_modify (wpS_pure (.inr (.inr ⟨m,a2,_,zjQ _,?_,by omega,by omega,pz,V,U2,rfl⟩))))));show(none,m+(n - m))=(none,n);rw [show m+(n - m)=n by omega]
  ·dsimp only
   rw [if_pos (zjQ _)];exact wpS_pure (.inr ⟨m,a',pw,rfl,m1,m2,pa,U,V,rfl⟩)
 ·rintro c st' (⟨hx,rfl,rfl⟩| ⟨m,a',hx1,rfl,m1,m2,pa,U,rfl⟩| ⟨m,a',pw,hx1,rfl,m1,m2,pa,U,V,rfl⟩)
  ·omega
  ·omega
  ·exact .inr ⟨m,a',pw,rfl,m1,m2,pa,U,V,rfl⟩
 ·rintro c _ (⟨a',rfl,pa,U,rfl⟩| ⟨m,a',pw,rfl,m1,m2,pa,U,V,rfl⟩)
  ·dsimp only
   refine wpS_bind (wpS_mono (wpS_forRange (I:=fun _ c st''=>st''=SortSt.mk' kd a' #[(0,n,0)] gp none/\c=(none,())) (Q:=fun c st''=>st''=SortSt.mk' kd a' #[(0,n,0)] gp none/\c=(none,())) ?_ (fun _ _ hh=>hh) ⟨rfl,rfl⟩) ?_)
   ·rintro x c _ _ _ ⟨rfl,rfl⟩;exact wpS_bind (wpS_get (wpS_pure ⟨rfl,rfl⟩))
   ·rintro c _ ⟨rfl,rfl⟩;have q:=Up.pw tr U (by rw [pa.size_eq,zero_add];exact le_of_eq hn.symm);rw [drop_zero,take_of_length_le (by rw [Array.length_toList,pa.size_eq];exact le_of_eq hn)]at q;exact wpS_pure (h _ pa.toList rfl q)
  ·dsimp only
   have za:a'.toList.length=n:=by rw [Array.length_toList,pa.size_eq];exact hn
   refine wpS_bind (wpS_mono (wpS_forRange (I:=fun x c st''=>c=(none,())/\((x=0/\st''=SortSt.mk' kd a' #[(0,m,pw),(m,n - m,0)] gp none)\/((arrOf st'').toList.Perm ar.toList/\(arrOf st'').toList.Pairwise (Le r)/\(pendingOf st'').size<=1/\failedOf st''=none)))
    (Q:=fun c st''=>c=(none,())/\(arrOf st'').toList.Perm ar.toList/\(arrOf st'').toList.Pairwise (Le r)/\failedOf st''=none) ?_ ?_ ⟨rfl,.inl ⟨rfl,rfl⟩⟩) ?_)
   ·rintro x c st'' _ _ ⟨rfl,⟨rfl,rfl⟩| ⟨p1,p2,p3,p4⟩⟩
    ·refine wpS_bind (wpS_get ?_);have q1:=Up.pw tr U (by rw [pa.size_eq,hn];omega);have q2:=Up.pw tr V (by rw [pa.size_eq,hn];omega);rw [drop_zero]at q1;rw [take_of_length_le (by rw [length_drop];omega)]at q2;refine wpS_bind (A5y (n1:=m) (n2:=n - m) (p:=pw) (q:=0) (la:=a'.toList.take m) (lb:=a'.toList.drop m) O hk.symm rfl rfl (take_append_drop _ _).symm (by rw [length_take];omega) (by rw [length_drop];omega) m1 (by omega) tr as q1 q2 (fun x hx=> ?_) fun st' r1 r2 r3 r4 r5=> ?_)
     ·rw [take_append_drop]at hx;exact hS x (pa.toList.mem_iff.mp hx)
     ·rw [take_append_drop]at r1;exact wpS_pure ⟨rfl,.inr ⟨r1.trans pa.toList,r2,by rw [r4];exact zjQ 1,r5⟩⟩
    ·refine wpS_bind (wpS_get ?_);rw [if_pos p3];exact wpS_pure ⟨rfl,p1,p2,p4⟩
   ·rintro c st'' ⟨rfl,⟨hx,rfl⟩| ⟨p1,p2,p3,p4⟩⟩
    ·omega
    ·exact⟨rfl,p1,p2,p4⟩
   ·rintro c st'' ⟨rfl,p1,p2,p4⟩;exact wpS_pure (h _ p1 p4 p2)
end
end Tms
namespace Srt
open PySem PySem.W PyProof.Rows
section
variable {prog:Program}{w:World}{A:Around}{E:Value->Shared->Prop}{s:Shared}{κ:SortKind}{r:Nat->Int}
theorem A0v {vs:List Value}{Q:SortSt->Shared->Prop}(h1:64<=vs.length)(h2:vs.length<128)(hd:∀i j,i<j->j<vs.length->r i≠r j/\vs.getD i Value.none≠vs.getD j Value.none)(ask:fI (kas_ask prog w A κ vs) vs.length r s)
  (h:∀st' p,Pm vs.length p->Up r p vs.length->arrOf st'=p.map (kas_item (vs.toArray.zip vs.toArray))->failedOf st'=none->Q st' s):
  wpAny (model prog w) A ((sortRuns').run (SortSt.mk' κ (vs.toArray.zip vs.toArray) #[] 7 none)) (fun r s'=>Q r.2 s') E s:=by
 have it:∀i,i<vs.length->kas_item (vs.toArray.zip vs.toArray) i=(vs.getD i Value.none,vs.getD i Value.none):=fun i hi=>by
  unfold kas_item;simp [Array.getD,hi]
 generalize hg:vs.toArray.zip vs.toArray=a at h it⊢;have az:a.size=vs.length:=by rw [←hg];simp
 have al:a.toList=(List.range vs.length).map (kas_item a):=by
  refine ext_getElem (by simp [az]) fun i u v=> ?_;have:i<a.size:=by simpa using u
  simp [kas_item,Array.getD,this]
 let ix:Keyed->Nat:=fun x=>Classical.epsilon fun i=>i<vs.length/\kas_item a i=x;have sp:∀i,i<vs.length->ix (kas_item a i)<vs.length/\kas_item a (ix (kas_item a i))=kas_item a i:=fun i hi=>Classical.epsilon_spec (p:=fun j=>j<vs.length/\kas_item a j=kas_item a i) ⟨i,hi,rfl⟩;have ixe:∀i,i<vs.length->ix (kas_item a i)=i:=fun i hi=>by
  obtain⟨u,v⟩:=sp i hi;generalize ix (kas_item a i)=j at u v;rw [it i hi,it j u,Prod.mk.injEq]at v;rcases Nat.lt_trichotomy i j with e|e|e
  ·exact((hd i j e u).2 v.1.symm).elim
  ·exact e.symm
  ·exact((hd j i e hi).2 v.1).elim
 have O:Tms.Oc (model prog w) A E s κ (fun x=> ∃i,i<vs.length/\x=kas_item a i) fun x y=>decide (r (ix x)<r (ix y)):=by
  rintro x y st R ⟨i,hi,rfl⟩ ⟨j,hj,rfl⟩ hk hR;rw [lt'_eq];refine wpS_bind (wpS_get ?_);have q:=ask i j (fun b s'=>s'=s/\b=decide (r i<r j)) hi hj ⟨rfl,rfl⟩;unfold kas_ask at q;rw [hk,it i hi,it j hj];refine wpS_bind (wpS_lift (wpAny_attempt (wpAny_mono q ?_ fun _ _ hF=>hF.elim)));rintro b s' ⟨rfl,rfl⟩;refine⟨rfl,wpS_pure ?_⟩;have hR:R (some (decide (r (ix (kas_item a i))<r (ix (kas_item a j))))) st:=hR;rw [ixe i hi,ixe j hj]at hR;exact hR
 refine wpAny_mono (Tms.wp_runs (n:=vs.length) (a:=a) (Q:=fun _ st'=>Q st' s) O rfl rfl rfl rfl (fun x hx=> ?_) ?_ (fun x y z h1 h2=> ?_) (fun x y h=> ?_) az h1 h2 fun st' p1 p2 p3=> ?_) (fun x s' q=>by obtain⟨rfl,q⟩:=q;exact q) fun _ _ e=>e
 ·rw [al]at hx;obtain⟨i,hi,rfl⟩:=mem_map.mp hx;exact⟨i,mem_range.mp hi,rfl⟩
 ·rw [al,pairwise_map,pairwise_iff_getElem];intro i j hi hj hij;rw [List.length_range]at hi hj;simp only [List.getElem_range];have:=(hd i j hij hj).1;show decide (r (ix (kas_item a i))<r (ix (kas_item a j)))=true\/decide (r (ix (kas_item a j))<r (ix (kas_item a i)))=true;rw [ixe i hi,ixe j hj];simp only [decide_eq_true_eq];omega
 ·have h1:=of_decide_eq_false h1;have h2:=of_decide_eq_false h2;exact zjU (by omega)
 ·have h:=of_decide_eq_true h;exact zjU (by omega)
 ·have me:∀x∈(arrOf st').toList,kas_item a (ix x)=x:=fun x hx=>by
   have:=p1.mem_iff.mp hx;rw [al]at this;obtain⟨i,hi,rfl⟩:=mem_map.mp this;rw [ixe i (mem_range.mp hi)]
  refine h st' ((arrOf st').map ix) (Array.perm_iff_toList_perm.mpr ?_) (fun i j hij hj=> ?_) ?_ p2
  ·rw [Array.toList_map];refine(p1.map ix).trans ?_;rw [al,map_map];show List.Perm _ (List.range vs.length);rw [map_congr_left (f:=ix∘kas_item a) (g:=id) fun i hi=>ixe i (mem_range.mp hi),map_id]
  ·have zz:(arrOf st').toList.length=vs.length:=by rw [p1.length_eq,Array.length_toList,az]
   have zs:(arrOf st').size=vs.length:=by simpa using zz
   by_cases e:i=j
   ·subst e;exact Int.le_refl _
   ·have:=of_decide_eq_false (pairwise_iff_getElem.mp p3 i j (by omega) (by omega) (by omega));unfold R at';have gi:∀k (hk:k<vs.length),((arrOf st').map ix).getD k 0=ix ((arrOf st').toList[k]'(by omega)):=fun k hk=>by
     simp [Array.getD,zs,hk]
    rw [gi i (by omega),gi j hj];omega
  ·rw [Array.map_map];apply Array.toList_inj.mp;rw [Array.toList_map]
   conv=>lhs;rw [←map_id (arrOf st').toList]
   exact map_congr_left fun x hx=>(me x hx).symm
end
section
def But (a:Addr)(h h':Heap):Prop:=∀b o,b≠a->h.get? b=some o->h'.get? b=some o
theorem A7t (n:Nat):Pm n (toArray (List.range n)):=Array.Perm.refl _
theorem A7v (h:n<2):Up r p n:=fun i j hij hj=>by
 have:i=j:=by omega
 subst this;exact Int.le_refl _
theorem tL (vs:List Value):(toArray (List.range vs.length)).toList.map (fun i=>vs.getD i Value.none)=vs:=by refine ext_getElem (by simp) fun i h1 h2=> ?_;simp [h2]
theorem A00 (ho:s.heap.get? a=some (seqObj "list" vs.toArray n))(h64:vs.length<128)(hd:64<=vs.length->∀i j,i<j->j<vs.length->r i≠r j/\vs.getD i Value.none≠vs.getD j Value.none)
  (hk:2<=vs.length->∀h',But a s.heap h'->(∀Q:SortKind->Shared->Prop,Q κ {s with heap:=h'}->wpAny (model prog w) A (keyKind' vs.toArray) Q E {s with heap:=h'})/\fI (kas_ask prog w A κ vs) vs.length r {s with heap:=h'})
  (h:∀h' c p,Pm vs.length p->Up r p vs.length->h'.get? a=some (seqObj "list" (p.toList.map fun i=>vs.getD i Value.none).toArray c)->But a s.heap h'->P (.done (.ret .none)) {s with heap:=h'}):
  wpAny (model prog w) A (Builtin.«list.sort» ⟨[.ref a],[]⟩) P E s:=by
 have la:=zjT ho;obtain⟨c1,o1⟩:∃c1,(s.heap.update a (Obj.mapSeq fun _=>(#[]:Array Value))).get? a=some (seqObj "list" #[] c1):=⟨_,get?_update_seq ho fun _=> #[]⟩;have b1:But a s.heap (s.heap.update a (Obj.mapSeq fun _=>(#[]:Array Value))):=fun b o hb e=>by rw [Heap.get?_update_ne _ _ _ _ hb];exact e
 generalize hg1:s.heap.update a (Obj.mapSeq fun _=>(#[]:Array Value))=g1 at o1 b1;have o3:((g1.push (seqObj "tuple" vs.toArray 0)).push (seqObj "list" #[] 0)).get? a=some (seqObj "list" #[] c1):=zjX _ (zjX _ o1);have b3:But a s.heap ((g1.push (seqObj "tuple" vs.toArray 0)).push (seqObj "list" #[] 0)):=fun b o hb e=>zjX _ (zjX _ (b1 b o hb e));rw [list_sort_plain];refine zjZ (listItems_at ho rfl ?_);refine zjZ (listUpdate_at ho rfl ?_ (by rw [size_toArray,sizeLine_eq];omega) (zero_le _));rw [hg1];refine zjZ (seqEpoch_at o1 rfl ?_);refine zjZ (wpAny_newTuple ?_ (by show vs.length<=_;rw [sizeLine_eq];omega));refine zjZ (wpAny_newList ?_ (zero_le _));refine wpAny_holding ?_;show wpAny (model prog w) A _ P E {s with heap:=(g1.push (seqObj "tuple" vs.toArray 0)).push (seqObj "list" #[] 0)};generalize (g1.push (seqObj "tuple" vs.toArray 0)).push (seqObj "list" #[] 0)=g3 at o3 b3;dsimp only
 have fin:∀(st:SortSt)(p:Array Nat),Pm vs.length p->Up r p vs.length->(arrOf st).map (·.2)=(p.toList.map fun i=>vs.getD i Value.none).toArray->failedOf st=none->
   wpAny (model prog w) A (do
    let touched:=(←seqEpoch a) !=c1
    Builtin.List.listUpdate (.ref a) fun _=>(arrOf st).map (·.2)
    if let some e:=failedOf st then rule "list.sort.comparison-raised";throw e
    if touched then rule "list.sort.modified";raiseError "ValueError" "list modified during sort"
    ret .none) P E {s with heap:=g3}:=fun st p hp hu hout hf=>by
  rw [hout,hf];have hz:(p.toList.map fun i=>vs.getD i Value.none).toArray.size=vs.length:=by rw [size_toArray,length_map,Array.length_toList,hp.size]
  obtain⟨c4,o4⟩:∃c4,(g3.update a (Obj.mapSeq fun _=>(p.toList.map fun i=>vs.getD i Value.none).toArray)).get? a=some (seqObj "list" (p.toList.map fun i=>vs.getD i Value.none).toArray c4):=⟨_,get?_update_seq o3 fun _=>(p.toList.map fun i=>vs.getD i Value.none).toArray⟩;refine zjZ (seqEpoch_at o3 rfl ?_);refine zjZ (listUpdate_at o3 rfl ?_ (zero_le _) (le_trans (le_of_eq hz) (by rw [sizeLine_eq];omega)));simp only [bne_self_eq_false,Bool.false_eq_true,if_false];exact zjY (h _ c4 p hp hu o4 fun b o hb e=>by rw [Heap.get?_update_ne _ _ _ _ hb];exact b3 b o hb e)
 by_cases h2:vs.toArray.size<2
 ·rw [if_pos h2,if_pos h2];refine zjZ (zjY ?_);rw [StateT.run_pure];refine zjZ (zjY ?_);refine fin _ _ (A7t _) (A7v (by rw [size_toArray]at h2;exact h2)) ?_ rfl;rw [tL];show(vs.toArray.zip vs.toArray).map (·.2)=_;apply Array.toList_inj.mp;simp [List.map_snd_zip]
 ·rw [if_neg h2,if_neg h2];rw [size_toArray]at h2;obtain⟨kk,ask⟩:=hk (by omega) g3 b3;refine zjZ (kk _ ?_);refine zjZ (wpAny_mono (Q:=fun r' s'=>s'={s with heap:=g3}/\∃p,Pm vs.length p/\Up r p vs.length/\arrOf r'.2=p.map (kas_item (vs.toArray.zip vs.toArray))/\failedOf r'.2=none) ?_ ?_ fun _ _ e=>e)
  ·by_cases c:vs.length<64
   ·exact kat_run (Q:=fun st' s'=>s'={s with heap:=g3}/\∃p,Pm vs.length p/\Up r p vs.length/\arrOf st'=p.map (kas_item (vs.toArray.zip vs.toArray))/\failedOf st'=none) (G:=fun p s'=>s'={s with heap:=g3}/\Pm vs.length p/\Up r p vs.length)
     rfl (by omega) c (fun p st' s' a1 a2 a3 a4=> ⟨a4.1,p,a4.2.1,a4.2.2,a2,a3⟩) (A6k ask (by omega) fun p hp hu=> ⟨rfl,hp,hu⟩)
   ·exact A0v (Q:=fun st' s'=>s'={s with heap:=g3}/\∃p,Pm vs.length p/\Up r p vs.length/\arrOf st'=p.map (kas_item (vs.toArray.zip vs.toArray))/\failedOf st'=none) (by omega) h64 (hd (by omega)) ask fun st' p a1 a2 a3 a4=> ⟨rfl,p,a1,a2,a3,a4⟩
  rintro⟨⟨⟩,st'⟩ s' ⟨rfl,p,hp,hu,har,hf⟩;exact fin st' p hp hu (kat_snds rfl har) hf
theorem tK (h64:vs.length<128)(hd:64<=vs.length->∀i j,i<j->j<vs.length->r i≠r j/\vs.getD i Value.none≠vs.getD j Value.none)
  (hc:∀Q':List Value->Shared->Prop,(∀h1 tk,(∀b o,s.heap.get? b=some o->h1.get? b=some o)->s.heap.objs.size<=h1.objs.size->Q' vs {s with heap:=h1,toks:=tk})->wpAny (model prog w) A.in1 (collect x) Q' E s)
  (hr:∀h1 tk,(∀b o,s.heap.get? b=some o->h1.get? b=some o)->2<=vs.length->(∀Q:SortKind->Shared->Prop,Q κ {s with heap:=h1,toks:=tk}->wpAny (model prog w) A.in1.in1 (keyKind' vs.toArray) Q E {s with heap:=h1,toks:=tk})/\fI (kas_ask prog w A.in1.in1 κ vs) vs.length r {s with heap:=h1,toks:=tk})
  (h:∀D h' tk c p,s.heap.objs.size<=D->Pm vs.length p->Up r p vs.length->h'.get? D=some (seqObj "list" (p.toList.map fun i=>vs.getD i Value.none).toArray c)->(∀b o,s.heap.get? b=some o->h'.get? b=some o)->Q (.ref D) {s with heap:=h',toks:=tk}):
  wpAny (model prog w) A (call (.builtin "sorted") [x]) Q E s:=by
 refine Calls.call_function_entry kind_sorted plain_sorted entry_sorted (args_sorted1 _) ?_;unfold Builtin.«sorted»;refine zjZ (m:=checkCount "sorted" 1 1 _) (zjY ?_);refine zjZ (hc _ fun h1 tk k1 z1=> ?_);refine zjZ (wpAny_newList ?_ (by rw [sizeLine_eq];omega));have oL:(h1.push (seqObj "list" vs.toArray 0)).get? h1.objs.size=some (seqObj "list" vs.toArray 0):=get?_push_size _ rfl;have kL:∀b o,s.heap.get? b=some o->(h1.push (seqObj "list" vs.toArray 0)).get? b=some o/\b≠h1.objs.size:=fun b o e=> ⟨zjX _ (k1 b o e),ne_of_lt (lt_of_lt_of_le (zjT e) z1)⟩;refine zjZ (wpAny_holding (wpAny_call_entry slot_list_sort ⟨_,oL,rfl⟩ entry_list_sort ?_ (args_list_sort _)));refine A00 (κ:=κ) (r:=r) oL h64 hd (fun h2 h' b'=>hr h' tk (fun b o e=>b' b o (kL b o e).2 (kL b o e).1) h2) fun h' c p hp hu o' b'=> ⟨_,rfl,?_⟩;exact zjY ⟨_,rfl,h h1.objs.size h' tk c p z1 hp hu o' fun b o e=>b' b o (kL b o e).2 (kL b o e).1⟩
end
end Srt
namespace Srt
theorem iK:∀xs:List Int,HT.lexLt xs xs=false
 | []=>rfl
 |x::xs=>by rw [HT.lexLt_cons,if_pos rfl];exact iK xs
theorem jY:∀{xs ys zs:List Int},HT.lexLt xs ys=true->HT.lexLt ys zs=true->HT.lexLt xs zs=true
 | [],[],_,h,_=>by cases h
 | [],_::_,[],_,h=>by cases h
 | [],_::_,_::_,_,_=>rfl
 |_::_,[],_,h,_=>by cases h
 |_::_,_::_,[],_,h=>by cases h
 |x::xs,y::ys,z::zs,h1,h2=>by
  rw [HT.lexLt_cons]at h1 h2⊢;by_cases e1:x=y
  ·subst e1;rw [if_pos rfl]at h1;by_cases e2:x=z
   ·subst e2;rw [if_pos rfl]at h2⊢;exact jY h1 h2
   ·rw [if_neg e2]at h2⊢;exact h2
  ·rw [if_neg e1,decide_eq_true_eq]at h1;by_cases e2:y=z
   ·subst e2;rw [if_neg e1,decide_eq_true_eq];exact h1
   ·rw [if_neg e2,decide_eq_true_eq]at h2;rw [if_neg (by omega),decide_eq_true_eq];omega
theorem kA:∀{xs ys:List Int},HT.lexLt xs ys=false->HT.lexLt ys xs=false->xs=ys
 | [],[],_,_=>rfl
 | [],_::_,h,_=>by cases h
 |_::_,[],_,h=>by cases h
 |x::xs,y::ys,h1,h2=>by
  rw [HT.lexLt_cons]at h1 h2;by_cases e:x=y
  ·subst e;rw [if_pos rfl]at h1 h2;rw [kA h1 h2]
  ·rw [if_neg e,decide_eq_false_iff_not]at h1;rw [if_neg (fun z=>e z.symm),decide_eq_false_iff_not]at h2;omega
def rank (rows:List (List Int))(x:List Int):Int:=(rows.countP fun z=>HT.lexLt z x:Nat)
theorem pJ:∀{l:List α},(∀a∈l,p a=true->q a=true)->l.countP p<=l.countP q
 | [],_=>by simp
 |a::l,h=>by
  have ih:=pJ (p:=p) (q:=q) (l:=l) fun b hb=>h b (zjS _ hb);rw [countP_cons,countP_cons];have:=h a zjR;cases hp:p a<;>cases hq:q a<;>simp_all<;>omega
theorem wA:∀{l:List α},(∀a∈l,p a=true->q a=true)->x∈l->p x=false->q x=true->l.countP p<l.countP q
 | [],_,hx,_,_=>by cases hx
 |a::l,h,hx,hp,hq=>by
  have hl:∀b∈l,p b=true->q b=true:=fun b hb=>h b (zjS _ hb);rw [countP_cons,countP_cons];rcases mem_cons.mp hx with e|e
  ·subst e;have:=pJ hl;rw [hp,hq];simp;omega
  ·have ih:=wA hl e hp hq;have:=h a zjR;cases hp':p a<;>cases hq':q a<;>simp_all<;>omega
theorem lL (hx:x∈rows)(hy:y∈rows):decide (rank rows x<rank rows y)=HT.lexLt x y:=by
 unfold rank;cases h:HT.lexLt x y with
 |true=>
  rw [decide_eq_true_eq];have:=wA (l:=rows) (p:=fun z=>HT.lexLt z x) (q:=fun z=>HT.lexLt z y) (fun a _ ha=>jY ha h) hx (iK x) h;omega
 |false=>
  rw [decide_eq_false_iff_not];have:rows.countP (fun z=>HT.lexLt z y)<=rows.countP (fun z=>HT.lexLt z x):=by
   refine pJ fun a _ ha=> ?_;cases h2:HT.lexLt y x with
   |true=>exact jY ha h2
   |false=>rw [kA h h2];exact ha
  omega
end Srt
namespace L2
open PySem PySem.Spec PyProof.Rows Srt
section
variable {prog:Program}{w:World}{A:Around}
theorem tU {C:Bool->Shared->Prop}{s:Shared}{b:Bool}:∀{xs ys:List Int}{us ws:List Value}(i:Nat),Vals (xs.map V.int) us->Vals (ys.map V.int) ws->C (HT.lexLt xs ys) s->
  W.KatLex prog w A b (decide (xs.length<ys.length)) C (us.zip ws) i s
 | [],[],_,_,i,.nil,.nil,h=>by
  show C (decide (0<0)) s;exact h
 | [],y::ys,_,_,i,.nil,.cons _ _,h=>by
  show C (decide (0<ys.length+1)) s;rw [zjV (by omega)];exact h
 |x::xs,[],_,_,i,.cons _ _,.nil,h=>by
  show C (decide (xs.length+1<0)) s;rw [zjU (by omega)];exact h
 |x::xs,y::ys,_,_,i,.cons r1 t1,.cons r2 t2,h=>by
  obtain⟨t,rfl⟩:=r1;obtain⟨u,rfl⟩:=r2;rw [HT.lexLt_cons]at h;refine W.kat_cons (wpAny_eqBool_int ?_);by_cases e:x=y
  ·subst e;rw [if_pos rfl]at h;rw [show(x==x)=true by simp];refine W.kat_yes ?_;have:=tU (b:=b) (i+1) t1 t2 h;rw [show decide ((x::xs).length<(x::ys).length)=decide (xs.length<ys.length) by simp];exact this
  ·rw [if_neg e]at h;rw [show(x==y)=false by simpa using e];refine W.kat_no ?_;cases b&&i==0 with
   |true=>exact oneLt_int h
   |false=>exact W.kat_one _ _ (PyProof.Rows.lt_int (show W.BoolBack C (Value.bool (decide (x<y))) s from h))
end
theorem fP:∀{as:List Addr}{us:List Value},Vals (as.map V.ref) us->us=as.map Value.ref
 | [],_,.nil=>rfl
 |a::as,_,.cons r t=>by rw [fP t];cases (show _=Value.ref a from r);rfl
section
def A0h {β:Type}(key:β->List Int)(zs zs':List (Addr×β)):Prop:=zs'.Perm zs/\zs'.Pairwise fun a b=>HT.lexLt (key b.2) (key a.2)=false
def pG (zs zs':List (Addr×List Int)):Prop:=zs'.Perm zs/\zs'.Pairwise fun a b=>HT.lexLt b.2 a.2=false
theorem A4y (z0:β)(key:β->List Int)(hp:Pm zs.length p)(hu:Up (fun i=>rank (zs.map key) (key (zs.getD i z0))) p zs.length):
  (p.toList.map fun i=>zs.getD i z0).Perm zs/\(p.toList.map fun i=>zs.getD i z0).Pairwise fun a b=>HT.lexLt (key b) (key a)=false:=by
 have hperm:=Array.perm_iff_toList_perm.mp hp;have inz:∀k (hk:k<p.toList.length),p.toList[k]<zs.length:=fun k hk=>by
  have:=hperm.mem_iff.mp (getElem_mem hk);simpa using this
 refine⟨(hperm.map fun i=>zs.getD i z0).trans (List.Perm.of_eq (ext_getElem (by simp) fun i a b=>by simp [b])),?_⟩;rw [pairwise_map,pairwise_iff_getElem];intro i j hi hj hij;have hsz:p.toList.length=zs.length:=by rw [Array.length_toList,hp.size]
 have h1:=hu i j (by omega) (by omega);have mem:∀k (hk:k<p.toList.length),key (zs.getD (p.toList[k]'hk) z0)∈zs.map key:=fun k hk=>by
  have e:zs.getD p.toList[k] z0=zs[p.toList[k]]'(inz k hk):=by rw [getD_eq_getElem?_getD,getElem?_eq_getElem (inz k hk)];rfl
  rw [e];exact mem_map_of_mem (getElem_mem _)
 have e:∀k (hk:k<p.toList.length),at' p k=p.toList[k]:=fun k hk=>by
  have:k<p.size:=by simpa using hk
  unfold at';simp [Array.getD,this]
 unfold R at h1;rw [e i hi,e j hj]at h1;rw [←lL (mem j hj) (mem i hi),decide_eq_false_iff_not];exact Int.not_lt.mpr h1
theorem zT (b0:β)(key:β->List Int)(I:Inv X pins σ H s)(hq:SqL X.K H p (zs.map fun z=>V.ref z.1))(h64:zs.length<128)(hd:64<=zs.length->zs.Pairwise fun z z'=>z.1≠z'.1/\key z.2≠key z'.2)
  (hr:∀h1 tk,(∀b o,s.heap.get? b=some o->h1.get? b=some o)->2<=zs.length->(∀Q2:SortKind->Shared->Prop,Q2 κ {s with heap:=h1,toks:=tk}->wpAny (model X.prog X.w) X.A.in1.in1 (keyKind' (zs.map fun z=>Value.ref z.1).toArray) Q2 X.xe {s with heap:=h1,toks:=tk})/\
   ∀z∈zs,∀z'∈zs,∀C:Bool->Shared->Prop,C (HT.lexLt (key z.2) (key z'.2)) {s with heap:=h1,toks:=tk}->wpAny (model X.prog X.w) X.A.in1.in1 (keyLt' κ (.ref z.1) (.ref z'.1)) C (fun _ _=>False) {s with heap:=h1,toks:=tk})
  (q:∀l zs',H l=none->A0h key zs zs'->Q (.ref l) (upd H l (.lst (zs'.map fun z=>V.ref z.1)))):wpAny (model X.prog X.w) X.A (call (.builtin "sorted") [.ref p]) (EP X pins σ Q) X.xe s:=by
 obtain⟨its,rv,pl,_⟩:=I.list hq;have hits:its=zs.map fun z=>Value.ref z.1:=by
  have:=fP (as:=zs.map (·.1)) (us:=its) (by rw [map_map];exact rv);rw [this,map_map];rfl
 subst hits;have gd:∀i,i<zs.length->(zs.map fun z=>Value.ref z.1).getD i Value.none= .ref (zs.getD i (0,b0)).1/\zs.getD i (0,b0)∈zs:=fun i hi=>by
  constructor
  ·simp [hi]
  ·rw [show zs.getD i (0,b0)=zs[i] by simp [hi]];exact getElem_mem _
 refine tK (κ:=κ) (r:=fun i=>rank (zs.map fun z=>key z.2) (key (zs.getD i (0,b0)).2)) (vs:=zs.map fun z=>Value.ref z.1) (by rw [length_map];exact h64) (fun h6 i j hij hj=> ?_) (fun Q' k=> ?_) (fun h1 tk k1 h2=> ?_) fun D h' tk c pp hD hp hu o' k'=> ?_
 ·rw [length_map]at h6 hj;obtain⟨ei,mi⟩:=gd i (by omega);obtain⟨ej,mj⟩:=gd j hj;have:=pairwise_iff_getElem.mp (hd h6) i j (by omega) hj hij;have g:∀k (hk:k<zs.length),zs.getD k (0,b0)=zs[k]:=fun k hk=>by simp [hk]
  rw [←g i (by omega),←g j hj]at this;rw [ei,ej];refine⟨fun e=>this.2 (kA ?_ ?_),fun e=>this.1 (Value.ref.inj e)⟩
  ·rw [←lL (rows:=zs.map fun z=>key z.2) (mem_map.mpr ⟨_,mi,rfl⟩) (mem_map.mpr ⟨_,mj,rfl⟩),decide_eq_false_iff_not];omega
  ·rw [←lL (rows:=zs.map fun z=>key z.2) (mem_map.mpr ⟨_,mj,rfl⟩) (mem_map.mpr ⟨_,mi,rfl⟩),decide_eq_false_iff_not];omega
 ·refine collect_list pl.isList ?_ (by rw [length_map,sizeLine_eq];omega);refine k _ s.toks (fun b o e=> ?_) (by rw [size_update,size_push'];exact le_succ _);rw [Heap.get?_update_ne _ _ _ _ (ne_of_lt (zjT e))];exact zjX _ e
 ·rw [length_map]at h2;obtain⟨hk,hlt⟩:=hr h1 tk k1 h2;refine⟨hk,fun i j C hi hj hC=> ?_⟩;rw [length_map]at hi hj;obtain⟨ei,mi⟩:=gd i hi;obtain⟨ej,mj⟩:=gd j hj;show wpAny _ _ (keyLt' κ ((zs.map fun z=>Value.ref z.1).getD i Value.none) ((zs.map fun z=>Value.ref z.1).getD j Value.none)) C (fun _ _=>False) _;rw [ei,ej];rw [lL (mem_map.mpr ⟨_,mi,rfl⟩) (mem_map.mpr ⟨_,mj,rfl⟩)]at hC;exact hlt _ mi _ mj C hC
 ·rw [length_map]at hp hu;have so:=A4y (0,b0) (fun z:Addr×β=>key z.2) hp hu;have eo:(pp.toList.map fun i=>(zs.map fun z=>Value.ref z.1).getD i Value.none)=(pp.toList.map fun i=>zs.getD i (0,b0)).map fun z=>Value.ref z.1:=by
   rw [map_map];refine map_congr_left fun i hi=> ?_;have:i<zs.length:=by
    have:=(Array.perm_iff_toList_perm.mp hp).mem_iff.mp hi;simpa using this
   exact(gd i this).1
  rw [eo]at o';have hlen:=so.1.length_eq;have vf:∀zs:List (Addr×β),Vals (zs.map fun z=>V.ref z.1) (zs.map fun z=>Value.ref z.1):=fun zs=>by
   induction zs with
   |nil=>exact .nil
   |cons z zs ih=>exact .cons rfl ih
  exact⟨.ref D,_,I.laid (t':=tk) (o:=.lst ((pp.toList.map fun i=>zs.getD i (0,b0)).map fun z=>V.ref z.1)) k' hD ⟨by rw [length_map,hlen,sizeLine_eq];omega,_,c,vf _,o'⟩,rfl,q _ _ (I.hok.fresh hD) so⟩
theorem pT {s:Shared}{pins:List (Addr×Obj)}{σ:St}{H:Hp}(I:Inv X pins σ H s){h':Heap}(k:∀b o,s.heap.get? b=some o->h'.get? b=some o){z:Addr}{ns:List Int}(hz:H z=some (.tup (ns.map V.int))):∃it:List Value,Vals (ns.map V.int) it/\∃o n,h'.get? z=some o/\o.cls= .type "tuple"/\o.data= .seq it.toArray n:=by obtain⟨_,it,rt,o,ho,hc,n,hd⟩:=(show ObjOk X.prog X.w H s.heap z (.tup _)from I.hok _ _ hz);exact⟨it,rt,o,n,k _ _ ho,hc,hd⟩
theorem uY:dF X (.builtin "sorted") (fun xs H Q=> ∃(p:Addr)(zs:List (Addr×List Int)),xs=[.ref p]/\SqL X.K H p (zs.map fun z=>V.ref z.1)/\(∀z∈zs,H z.1=some (.tup (z.2.map V.int))/\z.2≠[])/\zs.length<64/\
  ∀l zs',H l=none->pG zs zs'->Q (.ref l) (upd H l (.lst (zs'.map fun z=>V.ref z.1)))):=by
 intro pins s σ H xs us Q I r h;obtain⟨p,zs,rfl,hq,hz,h64,q⟩:=h;obtain⟨u,rfl,rx⟩:=dJ r;cases rx;refine zT [] id (κ:=tuples' true) I hq (by omega) (fun h=>absurd h64 (by omega)) (fun h1 tk k1 h2=> ⟨fun Q2 q2=> ?_,fun z hm z' hm' C hC=> ?_⟩) q
 ·have key:∀ys:List (Addr×List Int),(∀z∈ys,z∈zs)->∃fs:List Value,W.KatTups h1 (ys.map fun z=>Value.ref z.1) fs/\fs.length=ys.length/\∀v∈fs,∃n t,v= .int n t:=fun ys=>by
   induction ys with
   |nil=>intro _;exact⟨[],trivial,rfl,fun v hv=>by cases hv⟩
   |cons z ys ih=>
    intro hm;obtain⟨fs,g1,g2,g3⟩:=ih fun y hy=>hm y (zjS _ hy);obtain⟨it,rt,o,n,ho,hc,hd⟩:=pT I k1 (hz z (hm z zjR)).1;obtain⟨x,xs',ex⟩:=exists_cons_of_ne_nil (hz z (hm z zjR)).2;rw [ex]at rt;cases rt with
    |cons r0 t0=>
     obtain⟨t,rfl⟩:=r0;exact⟨.int x t::fs,W.KatTups.cons ho hc hd (by simp) g1,by simp [g2],fun v hv=>by
      rcases mem_cons.mp hv with e|e
      ·exact⟨x,t,e⟩
      ·exact g3 v e⟩
  obtain⟨fs,g1,g2,g3⟩:=key zs fun z hz=>hz;refine W.kat_kind (T:=.type "int") (s:={s with heap:=h1,toks:=tk}) g1 (by omega) (fun v hv=> ?_) rfl q2;obtain⟨n,t,rfl⟩:=g3 v hv;exact W.Looks.of_pure rfl
 ·obtain⟨it,rt,o,n,ho,hc,hd⟩:=pT I k1 (hz z hm).1;obtain⟨it2,rt2,o2,n2,ho2,hc2,hd2⟩:=pT I k1 (hz z' hm').1;refine W.kat_lt (s:={s with heap:=h1,toks:=tk}) ho hd ho2 hd2 ?_;have l1:=rt.length;have l2:=rt2.length;rw [length_map]at l1 l2;rw [size_toArray,size_toArray,←l1,←l2];exact tU 0 rt rt2 hC
end
end L2
namespace Wlk
abbrev Pl:=Int×Int
abbrev nZ:=Pl×Pl
def cout (nw ne sw se:Bool):Fin 4->Bool
 |0=>se&& !ne
 |1=>sw&& !se
 |2=>nw&& !sw
 |3=>ne&& !nw
def nx (nw ne sw se:Bool)(d:Fin 4):Fin 4:=if cout nw ne sw se (d+1)=true then d+1 else if cout nw ne sw se d=true then d else d+3
section
variable (land:List Pl)(b:Pl)
end
section
end
end Wlk
namespace Cyc
section
variable {α:Type} [DecidableEq α]
def it (f:α->α):Nat->α->α
 |0,s=>s
 |n+1,s=>f (it f n s)
theorem tX:∀{xs ys:List α},xs.Nodup->(∀x∈xs,x∈ys)->xs.length<=ys.length
 | [],_,_,_=>zero_le _
 |x::xs,ys,hn,h=>by
  have hx:=h x zjR;have hn':=nodup_cons.mp hn;have ih:=tX (ys:=ys.erase x) hn'.2 fun y hy=>by
   refine(List.mem_erase_of_ne fun z=> ?_).mpr (h y (zjS _ hy));subst z;exact hn'.1 hy
  rw [List.length_erase_of_mem hx]at ih;have:=List.length_pos_of_mem hx;rw [length_cons];omega
variable {l:List α}{f:α->α}
end
end Cyc
namespace Srt
open PySem PySem.W PyProof.Rows L2
def fl:List (Int×Int)->List Int
 | []=> []
 |c::cs=>c.1::c.2::fl cs
theorem pP:∀{a b:List (Int×Int)},fl a=fl b->a=b
 | [],[],_=>rfl
 | [],_::_,h=>by cases h
 |_::_,[],h=>by cases h
 |c::a,d::b,h=>by
  injection h with h1 h2;injection h2 with h2 h3;rw [pP h3,Prod.ext h1 h2]
end Srt
namespace L2
open PySem PySem.Spec PyProof.Rows Srt
def SqA (H:Hp)(a:Addr)(cs:List (Int×Int)):Prop:=∃ps:List Addr,H a=some (.tup (ps.map V.ref))/\PlAt H ps cs
theorem SqA.same (h:SqA H a cs)(s:Same H H'):SqA H' a cs:=let ⟨ps,h1,h2⟩:=h;⟨ps,s _ _ h1,h2.same s⟩
theorem zC:∀{ps qs:List Addr},ps.map V.ref=qs.map V.ref->ps=qs
 | [],[],_=>rfl
 | [],_::_,h=>by cases h
 |_::_,[],h=>by cases h
 |p::ps,q::qs,h=>by
  injection h with h1 h2;injection h1 with h1;rw [h1,zC h2]
theorem PlAt.val:∀{ps:List Addr}{cs ds:List (Int×Int)},PlAt H ps cs->PlAt H ps ds->cs=ds
 | [],[],[],.nil,.nil=>rfl
 |p::ps,(_,_)::cs,(_,_)::ds,.cons r1 t1,.cons r2 t2=>by
  have e:some (HO.tup _)=some (HO.tup _):=(show H p=_ from r1).symm.trans r2;cases e;rw [PlAt.val t1 t2]
theorem SqA.val (h:SqA H a cs)(h':SqA H a ds):cs=ds:=by
 obtain⟨ps,h1,h2⟩:=h;obtain⟨qs,h3,h4⟩:=h';have e:=h1.symm.trans h3;injection e with e
 injection e with e;rw [←zC e]at h4;exact h2.val h4
def A8c (zs zs':List (Addr×List (Int×Int))):Prop:=zs'.Perm zs/\zs'.Pairwise fun a b=>HT.lexLt (fl b.2) (fl a.2)=false
section
theorem vF (I:Inv X pins σ H s)(hu:A.units<cLine):∀{ps qs:List Addr}{cs ds:List (Int×Int)}(i:Nat),PlAt H ps cs->PlAt H qs ds->C (HT.lexLt (fl cs) (fl ds)) s->
  W.KatLex X.prog X.w A false (decide (ps.length<qs.length)) C ((ps.map Value.ref).zip (qs.map Value.ref)) i s
 | [],[],[],[],i,.nil,.nil,h=>by
  show C (decide (0<0)) s;exact h
 | [],q::qs,[],d::ds,i,.nil,.cons _ _,h=>by
  show C (decide (0<qs.length+1)) s;rw [zjV (by omega)];exact h
 |p::ps,[],c::cs,[],i,.cons _ _,.nil,h=>by
  show C (decide (ps.length+1<0)) s;rw [zjU (by omega)];exact h
 |p::ps,q::qs,c::cs,d::ds,i,.cons r1 t1,.cons r2 t2,h=>by
  show W.KatLex X.prog X.w A false (decide (ps.length+1<qs.length+1)) C ((Value.ref p,Value.ref q)::(ps.map Value.ref).zip (qs.map Value.ref)) i s;refine W.kat_cons (pK I hu r1 r2 X.prog X.w _ _ ?_);have e0:HT.lexLt (fl (c::cs)) (fl (d::ds))=if c=d then HT.lexLt (fl cs) (fl ds)else HT.lexLt [c.1,c.2] [d.1,d.2]:=by
   obtain⟨c1,c2⟩:=c;obtain⟨d1,d2⟩:=d;show HT.lexLt (c1::c2::fl cs) (d1::d2::fl ds)=_;rw [HT.lexLt_cons,HT.lexLt_cons,HT.lexLt_cons,HT.lexLt_cons];by_cases e1:c1=d1
   ·subst e1;by_cases e2:c2=d2
    ·subst e2;simp
    ·simp [e2]
   ·simp [e1]
  rw [e0]at h;by_cases e:c=d
  ·rw [zjV e];rw [if_pos e]at h;refine W.kat_yes ?_;rw [show decide (ps.length+1<qs.length+1)=decide (ps.length<qs.length) by simp];exact vF I hu (i+1) t1 t2 h
  ·rw [zjU e];rw [if_neg e]at h;refine W.kat_no (W.kat_one _ _ ?_);obtain⟨its,s1,p1,_⟩:=I.tuple (SqT.of (K:=X.K) r1);obtain⟨its2,s2,p2,_⟩:=I.tuple (SqT.of (K:=X.K) r2);have i1:IntsAre its.toArray.toList [c.1,c.2]:=lK s1;have i2:IntsAre its2.toArray.toList [d.1,d.2]:=lK s2;exact HT.lt_tupInts p1 p2 i1 i2 hu h
theorem A72 (hu:X.A.units+2<cLine):dF X (.builtin "sorted") (fun xs H Q=> ∃(p:Addr)(zs:List (Addr×List (Int×Int))),xs=[.ref p]/\H p=some (.lst (zs.map fun z=>V.ref z.1))/\(∀z∈zs,SqA H z.1 z.2/\z.2≠[])/\zs.length<128/\(64<=zs.length->(zs.map (·.2)).Pairwise (· ≠ ·))/\
  ∀l zs',H l=none->A8c zs zs'->Q (.ref l) (upd H l (.lst (zs'.map fun z=>V.ref z.1)))):=by
 intro pins s σ H xs us Q I r h;obtain⟨p,zs,rfl,hq,hz,h64,h6,q⟩:=h;obtain⟨u,rfl,rx⟩:=dJ r;cases rx;refine zT [] fl (κ:=tuples' false) I (SqL.of (K:=X.K) hq) h64 (fun h=>(List.Pairwise.and_mem.mp (pairwise_map.mp (h6 h))).imp fun{x y} q=> ⟨fun e=>q.2.2 ((hz x q.1).1.val (e▸(hz y q.2.1).1)),fun e=>q.2.2 (pP e)⟩) (fun h1 tk k1 h2=> ?_) q;have I1:Inv X pins σ H {s with heap:=h1,toks:=tk}:=I.kept k1;refine⟨fun Q2 q2=> ?_,fun z hm z' hm' C hC=> ?_⟩
 ·have key:∀ys:List (Addr×List (Int×Int)),(∀z∈ys,z∈zs)->∃fs:List Value,W.KatTups h1 (ys.map fun z=>Value.ref z.1) fs/\fs.length=ys.length/\∀v∈fs,∃a o,v= .ref a/\h1.get? a=some o/\o.cls= .type "tuple":=fun ys=>by
   induction ys with
   |nil=>intro _;exact⟨[],trivial,rfl,fun v hv=>by cases hv⟩
   |cons z ys ih=>
    intro hm;obtain⟨fs,g1,g2,g3⟩:=ih fun y hy=>hm y (zjS _ hy);obtain⟨⟨ps,hz1,hP⟩,hne⟩:=hz z (hm z zjR);obtain⟨cs0,cs1,ec⟩:=exists_cons_of_ne_nil hne;rw [ec]at hP;cases hP with
    |cons r0 t0=>
     rename_i p0 ps0;obtain⟨_,it,rt,o,ho,hc,n,hd⟩:=(show ObjOk X.prog X.w H h1 z.1 (.tup _)from I1.hok _ _ hz1);obtain⟨_,it2,rt2,o2,ho2,hc2,_⟩:=(show ObjOk X.prog X.w H h1 p0 (.tup _)from I1.hok _ _ r0);have ei:=fP rt;subst ei;exact⟨.ref p0::fs,W.KatTups.cons ho hc hd (by simp) g1,by simp [g2],fun v hv=>by
      rcases mem_cons.mp hv with e|e
      ·exact⟨p0,o2,e,ho2,hc2⟩
      ·exact g3 v e⟩
  obtain⟨fs,g1,g2,g3⟩:=key zs fun z hz=>hz;refine W.kat_kind (T:=.type "tuple") (s:={s with heap:=h1,toks:=tk}) g1 (by omega) (fun v hv=> ?_) rfl q2;obtain⟨a,o,rfl,ho,hc⟩:=g3 v hv;have lk:W.Looks (model X.prog X.w) h1 (typeOf (.ref a)) o.cls:=(W.Looks.ld ho).andThen .now;rw [hc]at lk;exact lk
 ·obtain⟨⟨ps,hz1,hP⟩,_⟩:=hz z hm;obtain⟨⟨qs,hz2,hP2⟩,_⟩:=hz z' hm';obtain⟨_,it,rt,o,ho,hc,n,hd⟩:=(show ObjOk X.prog X.w H h1 _ (.tup _)from I1.hok _ _ hz1);obtain⟨_,it2,rt2,o2,ho2,hc2,n2,hd2⟩:=(show ObjOk X.prog X.w H h1 _ (.tup _)from I1.hok _ _ hz2);have e1:=fP rt;have e2:=fP rt2;subst e1 e2;refine W.kat_lt (s:={s with heap:=h1,toks:=tk}) ho hd ho2 hd2 ?_;rw [size_toArray,size_toArray,length_map,length_map];exact vF I1 (show X.A.units+1+1<cLine by omega) 0 hP hP2 hC
end
end L2
namespace PySem
section
theorem A4c (ho:s.heap.get? d=some o)(hx:o.ExactDict)(hd:(d==sysModules)=false)(h:Q (.ref s.heap.objs.size) {s with heap:=s.heap.push {cls:=.type "dict_items",data:=.fields #[.ref d]}}):
  wpAny (model prog w) A (call (.builtin "dict.items") [.ref d]) Q E s:=by
 have hT:s.TypeIs (.ref d) "dict":=⟨o,ho,hx.1⟩;refine wpAny_call_entry F.slot_dict_items hT F.entry_dict_items ?_ (F.args_dict_items_1 _);unfold Builtin.«dict.items»;refine zjZ ?_;unfold Builtin.Dict.noArgs;refine zjZ (wpAny_notOrdered_dict hT ?_);show wpAny _ _ (pure d) _ _ s;refine zjY ?_;show wpAny _ _ (Builtin.Dict.showsAll d>>=_) _ _ s;unfold Builtin.Dict.showsAll;rw [if_neg (by rw [hd];exact Bool.false_ne_true)];refine zjZ (zjY ?_);exact zjZ (wpAny_newObj_type (zjY ⟨_,rfl,h⟩))
theorem A9j (hv:s.heap.IsItemsView v d)(ho:s.heap.get? d=some o)(hd:o.data= .dict es ep)
  (hQ:Q (.ref s.heap.objs.size) {s with heap:=s.heap.push {cls:=.type "dict_itemiterator",data:=.fields #[.none,.bool false,.ref d,.int 0 0,.int es.size 0,.int ep 0,.none,.none]}}):
  wpAny (model prog w) A (pyIter (.ref v)) Q E s:=by
 obtain⟨ov,hov,hcv,hdv⟩:=id hv;refine wpAny_pyIter_slot hv.typeIs F.slot_dict_items_iter (wpAny_call_entry F.slot_dict_items_iter hv.typeIs F.entry_dict_items_iter ?_ (F.args_dict_items_iter_1 _));unfold Builtin.«dict_items.__iter__»;refine zjZ (zjY ?_);refine zjZ ?_;unfold Builtin.Dict_items.dictOf;refine zjZ (wpAny_field hov hdv (x:=.ref d) rfl (zjY ?_));refine zjZ ?_;unfold Builtin.Dict_items.newIterator;refine zjZ (wpAny_dictEntries ho hd (zjZ (wpAny_dictEpoch ho hd ?_)));simp only [show Builtin.Dict_items.ownsTuple "dict_itemiterator" =true by decide,if_true];refine wpAny_newObj_type (zjY ⟨_,rfl,"dict_itemiterator",_,⟨_,get?_push_size _ rfl,rfl⟩,F.slot_dict_itemiterator_next.lookup,?_⟩) (by simp only [sizeOk,Builtin.Dict_items.ownedTupleFields,size_toArray,length_append,length_cons,length_nil,sizeLine_eq];omega);simpa [rawInt,Builtin.Dict_items.ownedTupleFields]using hQ
theorem A9s (hit:IsItemIter s.heap it d i es.size ep ok ov)(ho:s.heap.get? d=some o)(hd:o.data= .dict es ep)(hi:i<es.size)
  (hQ:∀h',IsItemIterOut h' it d (i+1) es.size ep es[i].key es[i].val s.heap.objs.size->h'.get? s.heap.objs.size=some {cls:=.type "tuple",data:=.seq #[es[i].key,es[i].val]}->h'.objs.size=s.heap.objs.size+1->
   (∀b o,b≠it->s.heap.get? b=some o->h'.get? b=some o)->Q (some (.ref s.heap.objs.size)) {s with heap:=h'}):wpAny (model prog w) A (pyNext (.ref it)) Q E s:=by
 obtain⟨hp,g,dr,tk,os⟩:=s;have hT:Shared.TypeIs ⟨hp,g,dr,tk,os⟩ (.ref it) "dict_itemiterator":=⟨_,hit,rfl⟩;unfold pyNext;refine zjZ (wpAny_attempt (wpAny_callSpecial?_slot (name:=Str.ofString "__next__") hT F.slot_dict_itemiterator_next (wpAny_call_entry F.slot_dict_itemiterator_next hT F.entry_dict_itemiterator_next ?_ (F.args_dict_itemiterator_next_1 _))));refine zjZ (zjY ?_);refine zjZ ?_;refine zjZ ?_
 first| (refine zjZ (wpAny_typeNameOfWhole_itemiter hT (zjY ?_));skip)| (refine zjZ (wpAny_typeNameOf_itemiter hT (zjY ?_));skip)
 refine zjZ (wpAny_fieldsOf hit rfl ?_);simp only [show Builtin.Dict_items.ownsTuple "dict_itemiterator" =true by decide,if_true];show wpAny _ _ (if (Value.ref d==Value.none)=true then _ else _) _ _ _;rw [if_neg (show¬((Value.ref d==Value.none)=true)from Bool.false_ne_true)];refine zjZ (zjY ?_);refine zjZ (wpAny_dictEntries ho hd ?_);rw [if_neg (by simp)];refine zjZ (zjY ?_);refine zjZ (wpAny_dictEpoch ho hd ?_);rw [if_neg (by simp)];refine zjY ?_;simp only [show¬((i:Int)<0) by omega,if_false,Int.toNat_natCast,Array.getElem?_eq_getElem hi];refine zjZ ?_
 first| (refine zjZ (wpAny_typeNameOfWhole_itemiter hT (zjY ?_));skip)| (refine zjZ (wpAny_typeNameOf_itemiter hT (zjY ?_));skip)
 refine zjZ (wpAny_isOneOf_itemiter hT ?_);show wpAny _ _ (setField (.ref it) 3 (rawInt ((i:Int)+1))>>=_) _ _ ⟨hp,g,dr,tk,os⟩;refine zjZ (wpAny_setField_rec hit (by simp) fun h₁ he₁ hs₁=> ?_);replace hs₁:Heap.SameBut it hp h₁:=hs₁;replace he₁:IsItemIter h₁ it d (i+1) es.size ep ok ov:=by
  have e:((i+1:Nat):Int)=(i:Int)+1:=by omega
  unfold IsItemIter;rw [e];simpa [rawInt]using he₁
 have hT₁:Shared.TypeIs ⟨h₁,g,dr,tk,os⟩ (.ref it) "dict_itemiterator":=⟨_,he₁,rfl⟩;refine zjZ (wpAny_holding ?_);refine zjZ (wpAny_isOneOf_itemiter hT₁ (zjZ (wpAny_isOneOf_itemiter hT₁ ?_)));show wpAny _ _ (Builtin.Dict_items.pairFromOwner (.ref it) 6 es[i].key es[i].val) _ _ ⟨h₁,g,dr,tk,os⟩;unfold Builtin.Dict_items.pairFromOwner;refine zjZ (wpAny_newTuple ?_);have he₂:IsItemIter (h₁.push {cls:=.type "tuple",data:=.seq #[es[i].key,es[i].val]}) it d (i+1) es.size ep ok ov:=zjX _ he₁;generalize hh₂:h₁.push {cls:=.type "tuple",data:=.seq #[es[i].key,es[i].val]}=h₂ at he₂;have hz₁:h₁.objs.size=hp.objs.size:=hs₁.1;have hil:=zjT hit;have ht₂:h₂.get? hp.objs.size=some {cls:=.type "tuple",data:=.seq #[es[i].key,es[i].val]}:=by rw [←hh₂,←hz₁];exact get?_push_size _ rfl
 have hz₂:h₂.objs.size=hp.objs.size+1:=by rw [←hh₂,size_push,hz₁]
 have hk₂:∀b o,b≠it->hp.get? b=some o->h₂.get? b=some o:=fun b o hb e=>by rw [←hh₂];exact zjX _ (hs₁.extBut b o hb e)
 show wpAny _ _ (Builtin.Dict_items.ownedTupleIsFree (.ref it)>>=_) _ _ ⟨h₂,g,dr,tk,os⟩;rw [hz₁];clear hh₂ he₁ hs₁ hT₁ hz₁ h₁;refine zjZ ?_;unfold Builtin.Dict_items.ownedTupleIsFree;refine zjZ (wpAny_field he₂ rfl (x:=.none) rfl (zjY ?_));simp only [if_true];refine zjZ (wpAny_field he₂ rfl (x:=ok) rfl (zjZ (wpAny_field he₂ rfl (x:=ov) rfl ?_)));refine zjZ (wpAny_setField_rec he₂ (by simp) fun h₃ he₃ hs₃=> ?_);replace hs₃:Heap.SameBut it h₂ h₃:=hs₃;replace he₃:IsItemIter h₃ it d (i+1) es.size ep es[i].key ov:=he₃;refine zjZ (wpAny_setField_rec he₃ (by simp) fun h₄ he₄ hs₄=> ?_);replace hs₄:Heap.SameBut it h₃ h₄:=hs₄;replace he₄:IsItemIter h₄ it d (i+1) es.size ep es[i].key es[i].val:=he₄;refine zjZ (wpAny_setField_rec he₄ (by simp) fun h₅ he₅ hs₅=> ?_);replace hs₅:Heap.SameBut it h₄ h₅:=hs₅;replace he₅:IsItemIterOut h₅ it d (i+1) es.size ep es[i].key es[i].val hp.objs.size:=he₅;refine zjZ (wpAny_setField_rec he₅ (by simp) fun h₆ he₆ hs₆=> ?_);replace hs₆:Heap.SameBut it h₅ h₆:=hs₆;replace he₆:IsItemIterOut h₆ it d (i+1) es.size ep es[i].key es[i].val hp.objs.size:=he₆;refine zjZ (wpAny_letGo (zjY (zjY ⟨_,rfl,zjY (hQ h₆ he₆ ?_ ?_ ?_)⟩)))
 ·have ne:=ne_of_gt hil;exact hs₆.extBut _ _ ne (hs₅.extBut _ _ ne (hs₄.extBut _ _ ne (hs₃.extBut _ _ ne ht₂)))
 ·show h₆.objs.size=_;rw [hs₆.1,hs₅.1,hs₄.1,hs₃.1,hz₂]
 ·exact fun b o hb e=>hs₆.extBut b o hb (hs₅.extBut b o hb (hs₄.extBut b o hb (hs₃.extBut b o hb (hk₂ b o hb e))))
theorem A2x (hh:A.handled=none)(hit:IsItemIter s.heap it d i es.size ep ok ov)(ho:s.heap.get? d=some o)(hd:o.data= .dict es ep)(hi:es.size<=i)
  (hQ:∀h',Heap.ExtBut it s.heap h'->Q none {s with heap:=h'}):wpAny (model prog w) A (pyNext (.ref it)) Q E s:=by
 have hT:s.TypeIs (.ref it) "dict_itemiterator":=⟨_,hit,rfl⟩;unfold pyNext;refine zjZ (wpAny_attempt (wpAny_callSpecial?_slot (name:=Str.ofString "__next__") hT F.slot_dict_itemiterator_next (wpAny_call_entry F.slot_dict_itemiterator_next hT F.entry_dict_itemiterator_next ?_ (F.args_dict_itemiterator_next_1 _))));refine zjZ (zjY ?_);refine zjZ ?_;refine zjZ ?_
 first| (refine zjZ (wpAny_typeNameOfWhole_itemiter hT (zjY ?_));skip)| (refine zjZ (wpAny_typeNameOf_itemiter hT (zjY ?_));skip)
 refine zjZ (wpAny_fieldsOf hit rfl ?_);simp only [show Builtin.Dict_items.ownsTuple "dict_itemiterator" =true by decide,if_true];show wpAny _ _ (if (Value.ref d==Value.none)=true then _ else _) _ _ s;rw [if_neg (show¬((Value.ref d==Value.none)=true)from Bool.false_ne_true)];refine zjZ (zjY ?_);refine zjZ (wpAny_dictEntries ho hd ?_);rw [if_neg (by simp)];refine zjZ (zjY ?_);refine zjZ (wpAny_dictEpoch ho hd ?_);rw [if_neg (by simp)];refine zjY ?_;simp only [show¬((i:Int)<0) by omega,if_false,Int.toNat_natCast,Array.getElem?_eq_none hi];refine zjZ ?_
 first| (refine zjZ (wpAny_typeNameOfWhole_itemiter hT (zjY ?_));skip)| (refine zjZ (wpAny_typeNameOf_itemiter hT (zjY ?_));skip)
 show wpAny _ _ (setField (.ref it) 2 .none>>=_) _ _ s;refine zjZ (wpAny_setField hit rfl (by simp) ?_);show wpAny _ _ (newExc (.type "StopIteration") []>>=_) _ _ _;refine zjZ ?_;simp only [newExc,newTuple];refine zjZ (wpAny_newObj_type ?_ (by size_fits));refine zjZ (m:=firstArgMember _ _) (wpAny_of_eq (a:=Value.none) (by first|rfl| (simp only [firstArgMember];rfl)) ?_);refine wpAny_newObj_type ?_ (by size_fits);simp only [raiseNew];refine zjZ (wpAny_handled ?_);rw [show A.in1.handled=none from hh];refine zjZ (zjY (wpAny_throw ?_));refine zjZ (wpAny_isInstance (T:="StopIteration") (b:=true) ⟨_,get?_push_size _ rfl,rfl⟩ isSubtype_stop ?_);exact zjY (hQ _ (((Heap.SameBut.update ..).extBut.push _).push _))
theorem A2e (hit:IsItemIter s.heap it d i n ep ok ov)(h:Q (.ref it) s):wpAny (model prog w) A (pyIter (.ref it)) Q E s:=by have hT:s.TypeIs (.ref it) "dict_itemiterator":=⟨_,hit,rfl⟩;have ent:entryFor table "dict_itemiterator.__iter__" =some Builtin.«dict_keyiterator.__iter__»:=entryFor_alias (id':="dict_keyiterator.__iter__") (by kernel_rfl) rfl (by decide +kernel) (by kernel_rfl);refine wpAny_pyIter_slot hT F.slot_dict_itemiterator_iter (wpAny_call_entry F.slot_dict_itemiterator_iter hT ent ?_ (F.args_dict_itemiterator_iter_1 _));show wpAny _ _ (ret (.ref it)) _ _ s;exact zjY ⟨_,rfl,"dict_itemiterator",_,hT,F.slot_dict_itemiterator_next.lookup,h⟩
end
end PySem
namespace L2
open PySem PySem.Spec PyProof.Rows
theorem Inv.freeze (I:Inv X pins σ H s)(hm:Mut (H d))(hd:H d=some u)(ho:s.heap.get? d=some o):Inv X pins σ (upd H d (.frz o u)) s:=by
 have hu:Un X.fs [] H (upd H d (.frz o u)) s.heap s.heap:=by
  refine⟨fun _ _ q _ _ _=>q,fun b ob q _ _ _=> ⟨ob.slots,q⟩,fun b _ _ n _=> ?_,fun b ob q _=> ⟨ob,q⟩,fun b xs q=> ?_,fun b ob v q=> ?_,fun b ps q=> ⟨#[],?_⟩⟩
  ·rw [aY (fun z=>by rw [z,hd]at n;cases n)];exact n
  ·rw [aY (fun z=>by rw [z]at q;rw [q]at hm;exact hm)];exact q
  ·rw [aY (fun z=>by rw [z]at q;rw [q]at hm;exact hm)];exact q
  ·rw [aY (fun z=>by rw [z]at q;rw [q]at hm;exact hm),q];simp
 have hok:HOk X.prog X.w (upd H d (.frz o u)) s.heap:=fun b v q=>by
  have st:∀c w',ObjOk X.prog X.w H s.heap c w'->ObjOk X.prog X.w (upd H d (.frz o u)) s.heap c w':=fun c w' x=>
   x.stay (fun _ _ _ q=>q) (fun b q=>by rw [aY (fun z=>by rw [z]at q;rw [q]at hm;exact hm)];exact q) fun b xs q=>by rw [aY (fun z=>by rw [z]at q;rw [q]at hm;exact hm)];exact q
  by_cases hb:b=d
  ·subst hb;rw [aG]at q;cases q;exact⟨ho,st _ _ (I.hok _ _ hd)⟩
  ·rw [aY hb]at q;exact st _ _ (I.hok _ _ q)
 have:=I.un (h':=s.heap) (t':=s.toks) hu hok;exact this
def Itm (d:Addr)(o:Obj)(kvs:List (List Key×V)):It:=
  ⟨fun i H=>H d=some (.frz o (.dT kvs))/\i<kvs.length,
   fun i H v H'=> ∃p b k x,v= .ref p/\H p=none/\H'=upd H p (.tup [.ref b,x])/\kvs[i]?=some (k,x)/\H b=some (.tup (k.map kV)),
   fun i H=>H d=some (.frz o (.dT kvs))/\i=kvs.length⟩
theorem A64 {P:Program}{w:World}{K:W.Frag}{es:List Expr}{x1}{pos:Pos}(it d:Addr)(o:Obj)(kvs:List (List Key×V))(ens:Array DictEntry)(ep:Nat)(hd:o.data= .dict ens ep)(hz:ens.size=kvs.length):
  fQ P w K (.Tuple es x1 pos) (Itm d o kvs) [it] it (fun i h=> ∃ok ov,IsItemIter h it d i ens.size ep ok ov)where
 mem:=by simp
 obj:=fun i h ⟨ok,ov,st⟩ c hc=>by
  rw [mem_singleton.mp hc];exact⟨_,st,fun v z=>by cases z⟩
 keep:=fun i h h' ⟨ok,ov,st⟩ kp=> ⟨ok,ov,kp it (by simp) _ st⟩
 item:=by
  intro X hP hw hK hc i pins s σ H E I hf st hg;subst hP hw hK;obtain⟨ok,ov,st⟩:=st;obtain⟨g1,g2⟩:=hg;obtain⟨ho,ob⟩:=(show ObjOk X.prog X.w H s.heap d (.frz o (.dT kvs))from I.hok _ _ g1);obtain⟨_,_,xs,rp,o',es',ep',ho',hx',hd',he',_⟩:=ob;rw [ho]at ho';cases ho';rw [hd]at hd';cases hd';have hi:i<ens.size:=by omega
  have hxs:xs.length=kvs.length:=(Paired.length rp).symm;have hki:kvs[i]?=some kvs[i]:=getElem?_eq_getElem g2;have hxi:i<xs.length:=by omega
  have hent:ens[i]=entryOfKey (tupleKind (dR X.prog X.w)) xs[i]:=by
   have:=entry_at (knd:=tupleKind (dR X.prog X.w)) he' i;rw [Array.getElem?_eq_getElem hi,getElem?_eq_getElem hxi]at this;exact Option.some.inj this
  have hpr:kvs[i].1=xs[i].1/\H xs[i].2.1=some (.tup (kvs[i].1.map kV))/\RelV kvs[i].2 xs[i].2.2:=by
   have go:∀(l:List (List Key×V))(m:List (List Key×Addr×Value))(j:Nat)(a:j<l.length)(b:j<m.length),Paired (fun(p:List Key×V) (q:List Key×Addr×Value)=>p.1=q.1/\H q.2.1=some (.tup (p.1.map kV))/\RelV p.2 q.2.2) l m->l[j].1=m[j].1/\H m[j].2.1=some (.tup (l[j].1.map kV))/\RelV l[j].2 m[j].2.2:=by
    intro l m j a b r
    induction r generalizing j with
    |nil=>cases a
    |cons r t ih=>
     cases j with
     |zero=>exact r
     |succ j=>exact ih j (by simpa using a) (by simpa using b)
   exact go kvs xs i g2 hxi rp
  refine A9s st ho hd hi fun h' g1' g2' g3' g4'=> ?_;refine⟨_,rfl,wpAny_letOwnedTupleGo_items (s:={s with heap:=h'}) g1' fun h2 hz2 hs2=> ?_⟩;have lz:s.heap.objs.size≠it:=ne_of_gt (zjT st);have hn:H s.heap.objs.size=none:=I.hok.fresh (zjQ _);have kp:∀c o,c∉[it]->s.heap.get? c=some o->h2.get? c=some o:=fun c o hc' q=>by
   have c1:c≠it:=fun e=>hc' (by simp [e]);exact(hs2.2 c c1).trans (g4' c o c1 q)
  have hT2:=(hs2.2 _ lz).trans g2';rw [hent]at hT2;have I2:Inv X pins σ (upd H s.heap.objs.size (.tup [.ref xs[i].2.1,kvs[i].2])) {s with heap:=h2,toks:=s.toks}:=I.turnLaid (fp:=[it]) kp hf (zjQ _) ⟨by show 2<=sizeLine;rw [sizeLine_eq];decide,[.ref xs[i].2.1,xs[i].2.2],.cons rfl (.cons hpr.2.2 .nil),⟨_,hT2,rfl,_,rfl⟩⟩;refine⟨.ref s.heap.objs.size,_,I2,rfl,⟨s.heap.objs.size,xs[i].2.1,kvs[i].1,kvs[i].2,rfl,hn,rfl,hki,hpr.2.1⟩,⟨_,_,hz2⟩,fun c hc'=> ?_⟩;rw [mem_singleton.mp hc',aY lz.symm];exact(hf it (by simp)).1
 done:=by
  intro X hP hw hK hc i pins s σ H E I hf st hg;subst hP hw hK;obtain⟨ok,ov,st⟩:=st;obtain⟨g1,g2⟩:=hg;obtain⟨ho,ob⟩:=(show ObjOk X.prog X.w H s.heap d (.frz o (.dT kvs))from I.hok _ _ g1);refine A2x (I.ok.hd hc) st ho hd (by omega) fun h' hk=> ⟨rfl,?_⟩;exact I.turnedL (fp:=[it]) (t':=s.toks) (fun c o hc' q=>hk c o (fun e=>hc' (by simp [e])) q) hf
 self:=fun _ _ _ _ _ ⟨ok,ov,st⟩ h=>A2e st h
def A7r (td:TE):TI:=fun σ H R=>td σ H fun x H1=> ∃d kvs,x= .ref d/\H1 d=some (.dT kvs)/\∀o,R (Itm d o kvs) (upd H1 d (.frz o (.dT kvs)))
section
theorem A9d {a:Expr}{td:TE}{apos cpos:Pos}{es:List Expr}{x1}{tpos:Pos}(ha:PE X a td)(hbase:attributeBase a "items" X.env (eval a X.env)=eval a X.env:=by rfl)(hline:(apos.endLine==cpos.line)=true:=by rfl):
  PI X (.Tuple es x1 tpos) (.Call (.Attribute a "items" apos) [] [] cpos) (A7r td):=by
 intro pins s σ H R I h;refine wpAny_Call_method0_late hbase hline (thn (ha pins s σ H _ I h) fun v s1 ⟨x,H1,I1,r1,d,kvs,e,q1,q⟩=> ?_);subst e;cases r1;obtain⟨_,hs,xs,rp,o,ens,ep,ho,hx,hd,he,_⟩:=(show ObjOk X.prog X.w H1 s1.heap d (.dT kvs)from I1.hok _ _ q1);have hsz:ens.size=kvs.length:=by rw [size_of_entries he];exact(Paired.length rp).symm
 refine⟨"dict","dict.items",PySem.F.plainAttrs_dict,PySem.F.slot_dict_items,PySem.F.type_dict_items,⟨o,ho,hx.1⟩,fun a e=>by cases e;exact⟨o,ho,hx.2.1⟩,Calls.callWith_builtin rfl (PySem.evalArgs_none ?_)⟩;refine A4c ho hx hs ?_;refine A9j (s:={s1 with heap:=s1.heap.push {cls:=.type "dict_items",data:=.fields #[.ref d]}}) ⟨_,get?_push_size _ rfl,rfl,rfl⟩ (zjX _ ho) hd ?_;have kp:∀b ob,s1.heap.get? b=some ob->((s1.heap.push {cls:=.type "dict_items",data:=.fields #[.ref d]}).push {cls:=.type "dict_itemiterator",data:=.fields #[.none,.bool false,.ref d,.int 0 0,.int ens.size 0,.int ep 0,.none,.none]}).get? b=some ob:=fun b ob e=>zjX _ (zjX _ e);have I2:=(I1.freeze (by rw [q1];trivial) q1 ho).kept (t':=s1.toks) kp;refine⟨_,[_],_,_,_,rfl,I2,A64 _ d o kvs ens ep hd hsz,⟨_,_,get?_push_size _ rfl⟩,fun c hc=> ?_,q o⟩;rw [mem_singleton.mp hc];have hge:s1.heap.objs.size<=(s1.heap.push {cls:=.type "dict_items",data:=.fields #[.ref d]}).objs.size:=by rw [size_push];exact le_succ _
 exact I1.fpOk hge (by rw [aY (ne_of_gt (lt_of_lt_of_le (zjT ho) hge))];exact I1.hok.fresh hge)
end
end L2
namespace L2
open PySem PySem.W PySem.Calls PyProof.Rows Builtin Builtin.ObjectAttr Builtin.Getset_descriptor
section
variable {prog:Program}{w:World}{A:Around}{E:Value->Shared->Prop}{K:W.Frag}{x D:Addr}
end
end L2
namespace L2
open PySem PySem.Spec PyProof.Rows
theorem wG:dF X (.builtin "isinstance") (fun xs H Q=> ∃x t ty b,∃Ts:List String,xs=[x,.ref t]/\H t=some (.tup (Ts.map V.ty))/\TyOf X.K H x ty/\(∃T,ty= .type T)/\W.kitAny X.K ty (Ts.map Value.type)=some b/\Q (.bl b) H):=by
 intro pins s σ H xs us Q I r h;obtain⟨x,t,ty,b,Ts,rfl,ht,hty,⟨T,rfl⟩,k,q⟩:=h;obtain⟨u,w',rfl,rx,ry⟩:=oF r;cases ry;obtain⟨its,rv,⟨⟨c1,d1,t1,l1⟩,ho,hc,n,hd⟩,_⟩:=I.tuple (SqT.of ht);simp only at hc hd;subst hc hd;have e:its=Ts.map Value.type:=by
  have go:∀(Ts:List String)(us:List Value),Vals (Ts.map V.ty) us->us=Ts.map Value.type:=by
   intro Ts
   induction Ts with
   |nil=>intro us h;cases h;rfl
   |cons T Ts ih=>intro us h;cases h with|cons a b=>rw [show _=Value.type T from a,ih _ b];rfl
  exact go Ts its rv
 subst e;have fin:∀tk,EP X pins σ Q (.bool b) {s with toks:=tk}:=fun tk=> ⟨.bl b,H,I.tok _,rfl,q⟩;cases hty with
 |non=>cases (show u=Value.none from rx);exact W.kia_tup W.kitx_none I.kIn True.intro ho k (fun z=>nomatch z) fin
 |bl y=>cases (show u=Value.bool y from rx);exact W.kia_tup W.kitx_bool I.kIn True.intro ho k (fun z=>nomatch z) fin
 |int i=>obtain⟨t,z⟩:=(show∃t,u=Value.int i t from rx);cases z;exact W.kia_tup W.kitx_int I.kIn True.intro ho k (fun z=>nomatch z) fin
 |str y=>obtain⟨t,z⟩:=(show∃t,u=Value.str y t from rx);cases z;exact W.kia_tup W.kitx_str I.kIn True.intro ho k (fun z=>nomatch z) fin
 |flt y=>obtain⟨t,z⟩:=(show∃t,u=Value.float y t from rx);cases z;exact W.kia_tup W.kitx_float I.kIn True.intro ho k (fun z=>nomatch z) fin
 | @lst a xs ea=>
  cases (show u=Value.ref a from rx);obtain⟨_,_,n,_,h1⟩:=(show ObjOk X.prog X.w H s.heap a (.lst xs)from I.hok a _ ea);exact W.kia_tup W.kitx_list I.kIn ⟨_,h1,rfl⟩ ho k (fun z=>nomatch z) fin
 | @frz a ob xs ea=>
  cases (show u=Value.ref a from rx);obtain⟨_,_,_,n,_,h1⟩:=(show ObjOk X.prog X.w H s.heap a (.frz ob (.lst xs))from I.hok a _ ea);exact W.kia_tup W.kitx_list I.kIn ⟨_,h1,rfl⟩ ho k (fun z=>nomatch z) fin
 | @tup a xs ea=>
  cases (show u=Value.ref a from rx);obtain⟨_,_,_,p⟩:=(show ObjOk X.prog X.w H s.heap a (.tup xs)from I.hok a _ ea);obtain⟨o,h1,h2,_⟩:=p;exact W.kia_tup W.kitx_tuple I.kIn ⟨o,h1,h2⟩ ho k (fun z=>nomatch z) fin
 | @dK a kvs ea=>
  cases (show u=Value.ref a from rx);obtain⟨_,_,vs,_,p⟩:=(show ObjOk X.prog X.w H s.heap a (.dK kvs)from I.hok a _ ea);obtain⟨o,es,ep,h1,h2,_⟩:=p;exact W.kia_tup W.kitx_dict I.kIn ⟨o,h1,h2.1⟩ ho k (fun z=>nomatch z) fin
 | @dT a kvs ea=>
  cases (show u=Value.ref a from rx);obtain⟨_,_,xs,_,o,es,ep,h1,h2,_⟩:=(show ObjOk X.prog X.w H s.heap a (.dT kvs)from I.hok a _ ea);exact W.kia_tup W.kitx_dict I.kIn ⟨o,h1,h2.1⟩ ho k (fun z=>nomatch z) fin
theorem PI.or (h1:PI X tg iter w1)(h2:PI X tg iter w2):PI X tg iter (fun σ H R=>w1 σ H R\/w2 σ H R):=by
 intro pins s σ H R I h;rcases h with h|h
 ·exact h1 pins s σ H R I h
 ·exact h2 pins s σ H R I h
abbrev C3:=Int×Int×Int
def ClP (H:Hp)(bs:List Addr)(cl:List C3):Prop:=Paired (fun b (c:C3)=>H b=some (.tup [.int c.1,.int c.2.1,.int c.2.2])) bs cl
theorem ClP.ext (h:ClP H bs cl)(e:Ext H H'):ClP H' bs cl:=Paired.mapP h fun _ _ z=>e.tup _ _ z
theorem ClP.get:∀{bs:List Addr}{cl:List C3}{i:Nat}{b:Addr},ClP H bs cl->bs[i]?=some b->∃c,cl[i]?=some c/\H b=some (.tup [.int c.1,.int c.2.1,.int c.2.2])
 |_,_,0,_,.cons r _,h=>by cases h;exact⟨_,rfl,r⟩
 |_,_,i+1,_,.cons _ t,h=>ClP.get (i:=i) t (by simpa using h)
def ClT (H:Hp)(a:Addr)(cl:List C3):Prop:=∃bs,H a=some (.tup (bs.map V.ref))/\ClP H bs cl
theorem ClT.ext (h:ClT H a cl)(e:Ext H H'):ClT H' a cl:=let ⟨bs,h1,h2⟩:=h;⟨bs,e.tup _ _ h1,h2.ext e⟩
structure eI (cs:List Int):Prop where
 l1:1<=cs.length
 l6:cs.length<=6
 num:∀x∈cs,1<=x/\x<=100
def lt2 (a b:Int×Int):Bool:=HT.lexLt [a.1,a.2] [b.1,b.2]
def bO (c:C3):Int×Int:=(c.1,c.2.1)
structure eY (cl:List C3):Prop where
 l1:1<=cl.length
 l12:cl.length<=12
 num:∀c∈cl,(0<=c.1/\c.1<=3)/\(0<=c.2.1/\c.2.1<=5)/\1<=c.2.2/\c.2.2<=20
 up:(cl.map bO).Pairwise fun a b=>lt2 a b=true
def gF (cs:List Int)(cl:List C3):Prop:=∀c∈cl,c.2.1<cs.length
def dZ (H:Hp)(a:Addr)(cs:List Int):Prop:=H a=some (.tup (cs.map V.int))
def Wk (J:It)(xs:List V)(S:Hp->Prop):Prop:=∀{g:TG}{tb:TS}{D:dH}{σ:St}{H:Hp}(Pv:Nat->St->Hp->Prop),Pv 0 σ H->(∀i σ H,i<=xs.length->Pv i σ H->S H)->
 (∀i x σ H,xs[i]?=some x->Pv i σ H->g x σ H fun σ2 H2=>tb {D with nx:=Pv (i+1),ct:=Pv (i+1),bk:=D.nx} σ2 H2)->(∀σ H,Pv xs.length σ H->D.nx σ H)->cP J g tb D σ H
theorem iR {K:W.Frag}{a:Addr}{xs:List V}:Wk (Itt K a) xs fun H=>SqT K H a xs:=fun Pv h0 hl hs hd=>gE Pv h0 hl hs hd
theorem fN {K:W.Frag}{a:Addr}{xs:List V}:Wk (Itl K a) xs fun H=>SqL K H a xs:=fun Pv h0 hl hs hd=>gU Pv h0 hl hs hd
theorem kG {K:PySem.W.Frag}{J:It}{S:Hp->Prop}{l:Addr}{bs:List Addr}{cl:List C3}{te:TE}{H0:Hp}{rest:St}{Q:St->Hp->Prop}(W:Wk J (bs.map V.ref) S)(hS:∀H',Same H0 H'->S H')(hC:ClP H0 bs cl)(hl:H0 l=none)(hz:bs.length<=1000)(f:C3->V)
  (turn:∀c H' Q',c∈cl->Same H0 H'->(∀H2,Same H' H2->Q' (f c) H2)->te (some (.int c.1)::some (.int c.2.1)::some (.int c.2.2)::rest) H' Q')(hQ:∀σ H',Same H0 H'->H' l=some (.lst (cl.map f))->Q σ H'):
  cP J (iX K 3 (dX (cJ 0) (dX (cJ 1) (dX (cJ 2) iA)))) (cK fL (dO l te)) (eC Q) (none::none::none::rest) (upd H0 l (.lst [])):=by
 have hlen:bs.length=cl.length:=Paired.length hC;refine W (fun i σ H'=>(∃x y z,σ=x::y::z::rest)/\Same H0 H'/\H' l=some (.lst ((cl.take i).map f))) ⟨⟨_,_,_,rfl⟩,aQ hl,by rw [aG];rfl⟩ (fun i σ H' _ h=>hS _ h.2.1) ?_ ?_
 ·rintro i x σ H' hx ⟨⟨x0,y0,z0,rfl⟩,hs,hl'⟩;rw [getElem?_map]at hx;cases hb:bs[i]? with
  |none=>rw [hb]at hx;cases hx
  |some b=>
   rw [hb]at hx;cases hx;obtain⟨c,hc,he⟩:=hC.get hb;refine⟨b,_,rfl,SqT.of (hs _ _ he),rfl,_,_,rfl,_,_,rfl,_,_,rfl,rfl,?_⟩;refine fU ?_;refine turn c H' _ (mem_of_getElem? hc) hs fun H2 h2=> ?_;refine⟨_,h2 _ _ hl',cH (by rw [length_map,length_take];omega),⟨_,_,_,rfl⟩,fun b u e=> ?_,?_⟩
   ·rw [aY (bL e hl)];exact h2 _ _ (hs _ _ e)
   ·rw [aG,take_succ,hc,map_append];rfl
 ·rintro σ H' ⟨_,hs,hl'⟩;rw [length_map,hlen,take_of_length_le (zjQ _)]at hl';exact hQ σ H' hs hl'
theorem A7i {K:PySem.W.Frag}{J:It}{S:Hp->Prop}{l:Addr}{bs:List Addr}{cl:List C3}{H0:Hp}{Q:St->Hp->Prop}(W:Wk J (bs.map V.ref) S)(hS:∀H',Same H0 H'->S H')(hC:ClP H0 bs cl)(hl:H0 l=none)(hz:bs.length<=1000)
  (hQ:∀σ H' ps,Same H0 H'->H' l=some (.lst (ps.map V.ref))->PlAt H' ps (cl.map bO)->Q σ H'):
  cP J (iX K 3 (dX (cJ 0) (dX (cJ 1) (dX (cJ 2) iA)))) (cK fL (dO l (mY (cE (cS 0) (cE (cS 1) jO))))) (eC Q) [none,none,none] (upd H0 l (.lst [])):=by
 have hlen:bs.length=cl.length:=Paired.length hC;refine W (fun i σ H'=>σ.length=3/\Same H0 H'/\∃ps:List Addr,H' l=some (.lst (ps.map V.ref))/\PlAt H' ps ((cl.take i).map bO)) ⟨rfl,aQ hl,[],by rw [aG];rfl,.nil⟩ (fun i σ H' _ h=>hS _ h.2.1) ?_ ?_
 ·rintro i x σ H' hx ⟨hσ,hs,ps,hl',hP⟩
  match σ,hσ with
  | [x0,y0,z0],_=>
  rw [getElem?_map]at hx;cases hb:bs[i]? with
  |none=>rw [hb]at hx;cases hx
  |some b=>
   rw [hb]at hx;cases hx;obtain⟨c,hc,he⟩:=hC.get hb;have hpl:ps.length<=i:=by have:=Paired.length hP;rw [length_map,length_take]at this;omega
   have hil:i<bs.length:=(zjW.mp hb).1;refine⟨b,_,rfl,SqT.of (hs _ _ he),rfl,_,_,rfl,_,_,rfl,_,_,rfl,rfl,?_⟩;refine fU ?_;refine⟨_,rfl,_,rfl,by show 2<=sizeLine;decide,fun q hq=> ?_⟩;have s2:=aQ (o:=.tup [.int c.1,.int c.2.1]) hq;have hlq:q≠l:=fun z=>by rw [z,hl']at hq;cases hq
   refine⟨_,s2 _ _ hl',cH (by rw [length_map];omega),rfl,fun b u e=> ?_,ps++[q],?_,?_⟩
   ·rw [aY (bL e hl)];exact s2 _ _ (hs _ _ e)
   ·rw [aG,map_append];rfl
   ·rw [take_succ,hc,map_append];refine PlAt.snoc (Paired.mapP hP fun p c' e=> ?_) (by rw [aY hlq,aG];rfl);have e':=s2 _ _ e;rw [aY (fun z=>by rw [z,s2 _ _ hl']at e';cases e')];exact e'
 ·rintro σ H' ⟨_,hs,ps,hl',hP⟩;rw [length_map,hlen,take_of_length_le (zjQ _)]at hP;exact hQ σ H' ps hs hl' hP
def E3 (R:V->V->Bool->Prop):List V->List V->List Bool->Prop
 | [],[],[]=>True
 |x::xs,y::ys,k::ks=>R x y k/\E3 R xs ys ks
 |_,_,_=>False
def EqF (a b:V)(k:Bool):Prop:=(∃i j,a= .int i/\b= .int j/\k=decide (i=j))\/ ∃x y,a= .str x/\b= .str y/\k=decide (x=y)
def EqD (H:Hp):Nat->V->V->Bool->Prop
 |0,a,b,k=>EqF a b k
 |n+1,a,b,k=>EqF a b k\/ ∃p q xs ys ks,a= .ref p/\b= .ref q/\((H p=some (.tup xs)/\H q=some (.tup ys))\/(H p=some (.lst xs)/\H q=some (.lst ys)))/\E3 (EqD H n) xs ys ks/\k=ks.all id
theorem E3.len:∀{xs ys:List V}{ks:List Bool},E3 R xs ys ks->xs.length=ys.length/\xs.length=ks.length
 | [],[],[],_=> ⟨rfl,rfl⟩
 |x::xs,y::ys,k::ks,h=>by
  have:=E3.len h.2;simp only [length_cons];omega
 | [],[],_::_,h=>h.elim
 | [],_::_,_,h=>h.elim
 |_::_,[],_,h=>h.elim
 |_::_,_::_,[],h=>h.elim
theorem E3.get:∀{xs ys:List V}{ks:List Bool}{i:Nat}{x y:V},E3 R xs ys ks->xs[i]?=some x->ys[i]?=some y->∃k,ks[i]?=some k/\R x y k
 |x::xs,y::ys,k::ks,0,_,_,h,h1,h2=>by cases h1;cases h2;exact⟨k,rfl,h.1⟩
 |x::xs,y::ys,k::ks,i+1,_,_,h,h1,h2=>E3.get (i:=i) h.2 (by simpa using h1) (by simpa using h2)
 | [],_,_,_,_,_,_,h1,_=>by simp at h1
 |_::_,[],_,_,_,_,h,_,_=>h.elim
 |_::_,_::_,[],_,_,_,h,_,_=>h.elim
theorem EqF.refl_true (h:EqF a a k):k=true:=by
 rcases h with⟨i,j,h1,h2,h3⟩| ⟨x,y,h1,h2,h3⟩
 ·rw [h1]at h2;rw [h3,V.int.inj h2];simp
 ·rw [h1]at h2;rw [h3,V.str.inj h2];simp
theorem EqD.refl_true:∀{n:Nat}{a:V}{k:Bool},EqD H n a a k->k=true
 |0,a,k,h=>EqF.refl_true h
 |n+1,a,k,h=>by
  rcases h with h| ⟨p,q,xs,ys,ks,h1,h2,h3,h4,h5⟩
  ·exact EqF.refl_true h
  ·rw [h1]at h2;cases h2;have e:xs=ys:=by
    rcases h3 with⟨u,v⟩| ⟨u,v⟩
    ·rw [u]at v;cases v;rfl
    ·rw [u]at v;cases v;rfl
   subst e;rw [h5,all_eq_true];have go:∀{xs:List V}{ks:List Bool},E3 (EqD H n) xs xs ks->∀k∈ks,id k=true:=fun{xs ks}=>by
    induction xs generalizing ks with
    |nil=>intro h k hk;cases ks with|nil=>cases hk|cons _ _=>exact h.elim
    |cons x xs ih=>
     intro h k hk;cases ks with
     |nil=>cases hk
     |cons k0 ks=>
      rcases mem_cons.mp hk with z|z
      ·rw [z];exact EqD.refl_true h.1
      ·exact ih h.2 k z
   exact go h4
theorem EqD.int (n:Nat)(i j:Int):EqD H n (.int i) (.int j) (decide (i=j)):=by
 cases n with
 |zero=>exact .inl ⟨i,j,rfl,rfl,rfl⟩
 |succ n=>exact .inl (.inl ⟨i,j,rfl,rfl,rfl⟩)
section
theorem sW (ks:List Bool):(List.range ks.length).all (fun j=>ks.getD j true)=ks.all id:=by
 rw [Bool.eq_iff_iff,all_eq_true,all_eq_true];constructor
 ·intro h k hk;obtain⟨j,hj,e⟩:=List.getElem_of_mem hk;have:=h j (by simpa using hj);rw [show ks.getD j true=ks[j] by simp [hj],e]at this;exact this
 ·intro h j hj;have hj':j<ks.length:=by simpa using hj
  rw [show ks.getD j true=ks[j] by simp [hj']];exact h _ (getElem_mem _)
theorem mG (ih:∀{a b:V}{k:Bool}{u v:Value},EqD H n a b k->RelV a u->RelV b v->SeqAt.EqAt A s u v k)(h4:E3 (EqD H n) xs ys ks)(r1:Vals xs us)(r2:Vals ys ws):
  ∀j (h1:j<us.toArray.size)(h2:j<ws.toArray.size),SeqAt.EqAt A s us.toArray[j] ws.toArray[j] (ks.getD j true):=fun j h1 h2=>by
 have hl:=h4.len;have l1:=r1.length;have l2:=r2.length;rw [size_toArray]at h1 h2;have j1:j<xs.length:=by omega
 have j2:j<ys.length:=by omega
 obtain⟨u,hu,ru⟩:=r1.get (getElem?_eq_getElem j1);obtain⟨v,hv,rv⟩:=r2.get (getElem?_eq_getElem j2);obtain⟨k,hk,e⟩:=h4.get (getElem?_eq_getElem j1) (getElem?_eq_getElem j2);have eu:us.toArray[j]=u:=by
  have:=(zjW.mp hu).2;simpa using this
 have ev:ws.toArray[j]=v:=by
  have:=(zjW.mp hv).2;simpa using this
 rw [eu,ev,show ks.getD j true=k by rw [getD_eq_getElem?_getD,hk];rfl];exact ih e ru rv
theorem rO (I:Inv X pins σ H s)(hu:A.units<cLine)(ih:∀{a b:V}{k:Bool}{u v:Value},EqD H n a b k->RelV a u->RelV b v->SeqAt.EqAt A.in1 s u v k)
  (h3:(H p=some (.tup xs)/\H q=some (.tup ys))\/(H p=some (.lst xs)/\H q=some (.lst ys)))(h4:E3 (EqD H n) xs ys ks):SeqAt.RcAt A s (.ref p) (.ref q) (ks.all id)/\SeqAt.RcNeAt A s (.ref p) (.ref q) (!ks.all id):=by
 have hl:=h4.len;rcases h3 with⟨hp,hq⟩| ⟨hp,hq⟩
 ·obtain⟨us,r1,p1,_⟩:=I.tuple (SqT.of hp);obtain⟨ws,r2,p2,_⟩:=I.tuple (SqT.of hq);have l1:=r1.length;have l2:=r2.length;have e:((List.range (min us.toArray.size ws.toArray.size)).all (fun j=>ks.getD j true)&&us.toArray.size==ws.toArray.size)=ks.all id:=by
   rw [size_toArray,size_toArray,show min us.length ws.length=ks.length by omega,sW,show us.length=ws.length by omega];simp
  have k1:=SeqAt.RcAt.tuples p1 p2 hu (mG ih h4 r1 r2);have k2:=SeqAt.RcNeAt.tuples p1 p2 hu (mG ih h4 r1 r2);rw [e]at k1 k2;exact⟨k1,k2⟩
 ·obtain⟨us,r1,p1,_⟩:=I.list (SqL.of hp);obtain⟨ws,r2,p2,_⟩:=I.list (SqL.of hq);have l1:=r1.length;have l2:=r2.length;have e:(List.range us.toArray.size).all (fun j=>ks.getD j true)=ks.all id:=by rw [size_toArray,show us.length=ks.length by omega,sW]
  have hz:us.toArray.size=ws.toArray.size:=by rw [size_toArray,size_toArray];omega
  have k1:=SeqAt.RcAt.lists p1.isList p2.isList hz hu (mG ih h4 r1 r2);have k2:=SeqAt.RcNeAt.lists p1.isList p2.isList hz hu (mG ih h4 r1 r2);rw [e]at k1 k2;exact⟨k1,k2⟩
theorem rL (I:Inv X pins σ H s):∀{n:Nat}{A:Around}{a b:V}{k:Bool}{u v:Value},A.units+n<cLine->EqD H n a b k->RelV a u->RelV b v->SeqAt.EqAt A s u v k:=by
 have flat:∀{A:Around}{a b:V}{k:Bool}{u v:Value},EqF a b k->RelV a u->RelV b v->SeqAt.EqAt A s u v k:=fun{A a b k u v} h ra rb=>by
  rcases h with⟨i,j,rfl,rfl,rfl⟩| ⟨x,y,rfl,rfl,rfl⟩
  ·obtain⟨t,rfl⟩:=ra;obtain⟨t',rfl⟩:=rb;have:=SeqAt.EqAt.int_int (A:=A) (s:=s) i t j t'
   rwa [show(i==j)=decide (i=j) by rw [Bool.eq_iff_iff];simp]at this
  ·obtain⟨t,rfl⟩:=ra;obtain⟨t',rfl⟩:=rb;have:=SeqAt.EqAt.str_str (A:=A) (s:=s) x t y t'
   rwa [show(x==y)=decide (x=y) by rw [Bool.eq_iff_iff];simp]at this
 intro n
 induction n with
 |zero=>intro A a b k u v _ h ra rb;exact flat h ra rb
 |succ n ih=>
  intro A a b k u v hu h ra rb;rcases h with h| ⟨p,q,xs,ys,ks,rfl,rfl,h3,h4,rfl⟩
  ·exact flat h ra rb
  ·cases ra;cases rb;by_cases hpq:p=q
   ·subst hpq;have:(ks.all id)=true:=EqD.refl_true (n:=n+1) (H:=H) (a:=.ref p) (.inr ⟨p,p,xs,ys,ks,rfl,rfl,h3,h4,rfl⟩);rw [this];exact SeqAt.EqAt.same _
   ·exact SeqAt.EqAt.of_refs hpq (rO I (by omega) (fun e r1 r2=>ih (show A.in1.units+n<cLine by show A.units+1+n<cLine;omega) e r1 r2) h3 h4).1
end
section
def xC (n:Nat)(g:Bool->Bool):R2:=fun x y H Q=> ∃p q xs ys ks,x= .ref p/\y= .ref q/\((H p=some (.tup xs)/\H q=some (.tup ys))\/(H p=some (.lst xs)/\H q=some (.lst ys)))/\E3 (EqD H n) xs ys ks/\Q (.bl (g (ks.all id))) H
theorem A4a (n:Nat)(hu:X.A.units+n+1<cLine):OpR X (compareOp .Eq) (xC n id):=by intro pins s σ H x y v u Q I rx ry h;obtain⟨p,q,xs,ys,ks,rfl,rfl,h3,h4,hq⟩:=h;cases rx;cases ry;exact(rO I (by omega) (fun e r1 r2=>rL I (show X.A.in1.units+n<cLine by show X.A.units+1+n<cLine;omega) e r1 r2) h3 h4).1 X.prog X.w X.xe _ ⟨.bl _,H,I,rfl,hq⟩
theorem A9p (n:Nat)(hu:X.A.units+n+1<cLine):OpR X (compareOp .NotEq) (xC n not):=by intro pins s σ H x y v u Q I rx ry h;obtain⟨p,q,xs,ys,ks,rfl,rfl,h3,h4,hq⟩:=h;cases rx;cases ry;exact(rO I (by omega) (fun e r1 r2=>rL I (show X.A.in1.units+n<cLine by show X.A.units+1+n<cLine;omega) e r1 r2) h3 h4).2 X.prog X.w X.xe _ ⟨.bl _,H,I,rfl,hq⟩
def wI (n:Nat)(g:Bool->Bool):R2:=fun x y H Q=> ∃q xs ks,y= .ref q/\(H q=some (.tup xs)\/H q=some (.lst xs))/\E3 (EqD H n) xs (xs.map fun _=>x) ks/\Q (.bl (g (ks.any id))) H
theorem wF:∀{a b:V}{u:Value},RelV a u->RelV b u->a=b:=fun{a b u} ha hb=>by
 cases a<;>cases b<;>simp only [RelV]at ha hb<;>first
  |rfl
  | (subst ha;cases hb;rfl)
  | (subst ha;cases hb;done)
  | (obtain⟨t,rfl⟩:=ha;obtain⟨t',e⟩:=hb;cases e;rfl)
  | (obtain⟨t,rfl⟩:=ha;obtain⟨t',e⟩:=hb;cases e;done)
  | (obtain⟨t,rfl⟩:=ha;cases hb;done)
  | (obtain⟨t,rfl⟩:=hb;cases ha;done)
theorem EqF.func (h:EqF a b k)(h':EqF a b k'):k=k':=by
 rcases h with⟨i,j,rfl,rfl,rfl⟩| ⟨x,y,rfl,rfl,rfl⟩
 ·rcases h' with⟨i',j',h1,h2,rfl⟩| ⟨x,y,h1,h2,rfl⟩
  ·cases h1;cases h2;rfl
  ·cases h1
 ·rcases h' with⟨i',j',h1,h2,rfl⟩| ⟨x',y',h1,h2,rfl⟩
  ·cases h1
  ·cases h1;cases h2;rfl
theorem EqF.noref (h:EqF (.ref p) b k):False:=by rcases h with⟨i,j,h1,_⟩| ⟨x,y,h1,_⟩<;>cases h1
theorem EqD.func:∀{n:Nat}{a b:V}{k k':Bool},EqD H n a b k->EqD H n a b k'->k=k'
 |0,a,b,k,k',h,h'=>EqF.func h h'
 |n+1,a,b,k,k',h,h'=>by
  rcases h with h| ⟨p,q,xs,ys,ks,rfl,rfl,h3,h4,rfl⟩
  ·rcases h' with h'| ⟨p,q,xs,ys,ks,rfl,rfl,h3,h4,rfl⟩
   ·exact EqF.func h h'
   ·exact h.noref.elim
  ·rcases h' with h'| ⟨p',q',xs',ys',ks',e1,e2,h3',h4',rfl⟩
   ·exact h'.noref.elim
   ·cases e1;cases e2;have ex:xs=xs'/\ys=ys':=by
     rcases h3 with⟨u,v⟩| ⟨u,v⟩<;>rcases h3' with⟨u',v'⟩| ⟨u',v'⟩<;>rw [u]at u'<;>rw [v]at v'<;>cases u'<;>cases v'<;>exact⟨rfl,rfl⟩
    obtain⟨rfl,rfl⟩:=ex;have go:∀{xs ys:List V}{ks ks':List Bool},E3 (EqD H n) xs ys ks->E3 (EqD H n) xs ys ks'->ks=ks':=fun{xs}=>by
     induction xs with
     |nil=>
      intro ys ks ks' g g';cases ys with
      |nil=>
       cases ks with
       |nil=>cases ks' with|nil=>rfl|cons _ _=>exact g'.elim
       |cons _ _=>exact g.elim
      |cons _ _=>exact g.elim
     |cons x xs ih=>
      intro ys ks ks' g g';cases ys with
      |nil=>exact g.elim
      |cons y ys=>
       cases ks with
       |nil=>exact g.elim
       |cons k ks=>
        cases ks' with
        |nil=>exact g'.elim
        |cons k' ks'=>rw [EqD.func g.1 g'.1,ih g.2 g'.2]
    rw [go h4 h4']
open Classical in
theorem uG (he:∀a u k,RelV a u->EqD H n a x k->e u=k):∀{xs:List V}{us:List Value}{ks:List Bool},Vals xs us->E3 (EqD H n) xs (xs.map fun _=>x) ks->us.any e=ks.any id
 | [],_,[],.nil,_=>rfl
 | [],_,_::_,.nil,h=>h.elim
 |y::xs,_,k::ks,.cons r t,h=>by
  rw [any_cons,any_cons,he _ _ _ r h.1,uG he t h.2];rfl
 |_::_,_,[],.cons _ _,h=>h.elim
open Classical in
theorem mP (I:Inv X pins σ H s)(hu:A.units+n<cLine)(rx:RelV x v)(r:Vals xs us)(h:E3 (EqD H n) xs (xs.map fun _=>x) ks):
  ∃e:Value->Bool,(∀y∈us,SeqAt.EqAt A s y v (e y))/\us.any e=ks.any id:=by
 refine⟨fun y=>decide (∃a,RelV a y/\EqD H n a x true),fun y hy=> ?_,uG (fun a u k ra hk=> ?_) r h⟩
 ·obtain⟨j,hj,e⟩:=List.getElem_of_mem hy;have hl:=r.length;have hjx:j<xs.length:=by omega
  obtain⟨u,hu',ru⟩:=r.get (getElem?_eq_getElem hjx);have eu:u=y:=by
   rw [getElem?_eq_getElem hj,e]at hu';exact(Option.some.inj hu').symm
  subst eu;obtain⟨k,hk,ek⟩:=h.get (getElem?_eq_getElem hjx) (y:=x) (by rw [getElem?_map,getElem?_eq_getElem hjx];rfl);have:decide (∃a,RelV a u/\EqD H n a x true)=k:=by
   cases k with
   |true=>exact zjV ⟨_,ru,ek⟩
   |false=>
    refine zjU ?_;rintro⟨a,ra,ea⟩;have:=wF ra ru;subst this;cases EqD.func ek ea
  show SeqAt.EqAt A s u v (decide (∃a,RelV a u/\EqD H n a x true));rw [this];exact rL I hu ek ru rx
 ·cases k with
  |true=>exact zjV ⟨a,ra,hk⟩
  |false=>
   refine zjU ?_;rintro⟨b,rb,eb⟩;have:=wF rb ra;subst this;cases EqD.func hk eb
theorem pX (n:Nat)(hu:X.A.units+n+1<cLine):OpR X (compareOp .In) (wI n id):=by
 intro pins s σ H x y v u Q I rx ry h;obtain⟨q,xs,ks,rfl,hq,h4,hQ⟩:=h;cases ry;have hu':X.A.in1.units+n<cLine:=by show X.A.units+1+n<cLine;omega
 rcases hq with hq|hq
 ·obtain⟨us,r,p,_⟩:=I.tuple (SqT.of hq);obtain⟨e,e1,e2⟩:=mP I hu' rx r h4;refine SeqAt.in_tupleAt e p (fun y hy=>e1 y (by simpa using hy)) ⟨.bl _,H,I,rfl,?_⟩;rw [show us.toArray.any e=us.any e by simp,e2];exact hQ
 ·obtain⟨us,r,p,_⟩:=I.list (SqL.of hq);obtain⟨e,e1,e2⟩:=mP I hu' rx r h4;refine SeqAt.in_listAt e p.isList (fun y hy=>e1 y (by simpa using hy)) ⟨.bl _,H,I,rfl,?_⟩;rw [show us.toArray.any e=us.any e by simp,e2];exact hQ
theorem vJ (n:Nat)(hu:X.A.units+n+1<cLine):OpR X (compareOp .NotIn) (wI n not):=by
 intro pins s σ H x y v u Q I rx ry h;obtain⟨q,xs,ks,rfl,hq,h4,hQ⟩:=h;cases ry;have hu':X.A.in1.units+n<cLine:=by show X.A.units+1+n<cLine;omega
 rcases hq with hq|hq
 ·obtain⟨us,r,p,_⟩:=I.tuple (SqT.of hq);obtain⟨e,e1,e2⟩:=mP I hu' rx r h4;refine SeqAt.notIn_tupleAt e p (fun y hy=>e1 y (by simpa using hy)) ⟨.bl _,H,I,rfl,?_⟩;rw [show us.toArray.any e=us.any e by simp,e2];exact hQ
 ·obtain⟨us,r,p,_⟩:=I.list (SqL.of hq);obtain⟨e,e1,e2⟩:=mP I hu' rx r h4;refine SeqAt.notIn_listAt e p.isList (fun y hy=>e1 y (by simpa using hy)) ⟨.bl _,H,I,rfl,?_⟩;rw [show us.toArray.any e=us.any e by simp,e2];exact hQ
end
end L2
namespace PySem.SeqAt
open AutoSeq1 (wpAny_loadPart')
open MeetsSeq MeetsSeq2 MeetsSeq3 SeqRoads2
end PySem.SeqAt
namespace L2
open PySem PySem.Spec PyProof.Rows
section
end
end L2
namespace Grd
open PySem PyProof.Rows
def ltP (c d:Int×Int):Prop:=HT.lexLt [c.1,c.2] [d.1,d.2]=true
theorem A8u (h:j<k):ltP (r,j) (r,k):=by unfold ltP;rw [HT.lexLt_cons,if_pos rfl,HT.lexLt_cons,if_neg (by show¬j=k;omega)];exact zjV h
theorem A2v (h:r<s):ltP (r,j) (s,k):=by unfold ltP;rw [HT.lexLt_cons,if_neg (by show¬r=s;omega)];exact zjV h
theorem vQ (xs:List α):xs.zipIdx.Pairwise fun a b=>a.2<b.2:=by rw [pairwise_iff_getElem];intro i j hi hj hij;simp only [List.getElem_zipIdx];omega
theorem A4r (f:Int->Bool)(r:Int)(xs:List Int):(dG f r xs).Pairwise ltP:=by
 unfold dG;rw [List.pairwise_filterMap];refine(vQ xs).imp fun{a b} h c hc d hd=> ?_;cases ha:f a.1 with
 |false=>simp [ha]at hc
 |true=>
  cases hb:f b.1 with
  |false=>simp [hb]at hd
  |true=>
   simp only [ha,if_true,Option.some.injEq]at hc;simp only [hb,if_true,Option.some.injEq]at hd;subst hc hd;exact A8u (by omega)
theorem qD (f:Int->Bool)(g:bF):(bB f g).Pairwise ltP:=by
 unfold bB;rw [List.pairwise_flatten];refine⟨fun l hl=> ?_,?_⟩
 ·obtain⟨p,_,rfl⟩:=mem_map.mp hl;exact A4r _ _ _
 ·rw [pairwise_map];refine(vQ g).imp fun{a b} h c hc d hd=> ?_;obtain⟨e1,_⟩:=mem_rowF.mp hc;obtain⟨e2,_⟩:=mem_rowF.mp hd;obtain⟨c1,c2⟩:=c;obtain⟨d1,d2⟩:=d;dsimp only at e1 e2;subst e1 e2;exact A2v (by omega)
def LandOf (g:bF)(cs:List (Int×Int)):Prop:=cs.Sublist (bB pos g)
end Grd
namespace L2
open PySem Grd
theorem PlAt.at:∀{ps:List Addr}{cs:List (Int×Int)}{i:Nat}{p:Addr},PlAt H ps cs->ps[i]?=some p->∃c,cs[i]?=some c/\H p=some (.tup [.int c.1,.int c.2])
 |_,_,0,_,.cons r _,h=>by cases h;exact⟨_,rfl,r⟩
 |_,_,i+1,_,.cons _ t,h=>PlAt.at (i:=i) t (by simpa using h)
theorem gA {ps:List Addr}{i:Nat}{x:V}(h:(ps.map V.ref)[i]?=some x):∃p,ps[i]?=some p/\x= .ref p:=by
 rw [getElem?_map]at h;cases e:ps[i]? with
 |none=>rw [e]at h;cases h
 |some p=>rw [e]at h;exact⟨p,rfl,(Option.some.inj h).symm⟩
theorem A4f (ps:List Addr):cutV (ps.map V.ref) (some 1) none=(ps.drop 1).map V.ref:=by
 have e1:HT.sIx (ps.map V.ref).length 0 (some 1)=min 1 (ps.map V.ref).length:=HT.sIx_nat _ _ 1;have e2:HT.sIx (ps.map V.ref).length (ps.map V.ref).length none=(ps.map V.ref).length:=rfl;unfold cutV;rw [e1,e2,length_map];cases ps with
 |nil=>rfl
 |cons p ps=>
  rw [show min 1 (p::ps).length=1 by rw [length_cons];omega,←map_drop,take_of_length_le (by rw [length_map,length_drop];omega)]
end L2
namespace L2
open PySem PySem.Spec PyProof.Rows Grd Wlk
section
theorem mU {x pos}(he:PE X (.Name x pos) te)(hr:PAq X es t):PAq X (.Name x pos::es) (cE te t):=by unfold PAq at*;exact aB he hr
end
abbrev PlA (H:Hp)(p:Addr)(c:Int×Int):Prop:=H p=some (.tup [.int c.1,.int c.2])
theorem PlA.put (hl:H l=some (.lst xs))(h:PlA H p c):PlA (upd H l (.lst ys)) p c:=by have h':H p=some (.tup [.int c.1,.int c.2]):=h;show upd H l (.lst ys) p=_;rw [aY (fun z=>by rw [z,hl]at h';cases h')];exact h
theorem A26 (h:t σ H fun xs H1=>xs.length<=sizeLine/\∀p,H1 p=none->D.rt (.ref p) (upd H1 p (.lst xs))):lF (rD t) D σ H:=h
theorem fB (hr:Room k A):A.units+1+1<cLine:=lt_of_le_of_lt (Nat.add_le_add_left (by decide:2<=64) _) hr.units
theorem A4i (h1:PlA H p c)(h2:PlA H q d)(n:Nat):EqD H (n+1) (.ref p) (.ref q) (decide (c=d)):=by refine .inr ⟨p,q,_,_,[decide (c.1=d.1),decide (c.2=d.2)],rfl,rfl,.inl ⟨h1,h2⟩,⟨EqD.int _ _ _,EqD.int _ _ _,trivial⟩,?_⟩;rw [Bool.eq_iff_iff];simp [Prod.ext_iff]
theorem jP (h:PlA H q d):∀{ps:List Addr}{cs:List (Int×Int)},PlAt H ps cs->E3 (EqD H 1) (ps.map V.ref) ((ps.map V.ref).map fun _=>V.ref q) (cs.map fun c=>decide (c=d))
 | [],[],.nil=>trivial
 |_::_,_::_,.cons r t=> ⟨A4i r h 0,jP h t⟩
theorem zW [DecidableEq α](l:List α)(x:α):(l.map fun c=>decide (c=x)).any id=decide (x∈l):=by rw [Bool.eq_iff_iff,any_map];simp
end L2
namespace Wlk
open PySem PyProof.Rows Srt
abbrev f2 (s:nZ):List Int:=fl [s.1,s.2]
end Wlk
namespace Wlk
open PySem PyProof.Rows Srt Cyc Grd
def rc (s:nZ):Pl:=if s.2.2=s.1.2+1 then s.1 else if s.2.1=s.1.1+1 then(s.1.1,s.1.2 - 1)else if s.2.2=s.1.2 - 1 then(s.1.1 - 1,s.1.2 - 1)else(s.1.1 - 1,s.1.2)
section
end
section
end
def eC (land:List Pl)(x y:Int)(c:Pl):Nat:=(if c.1=x/\c.2+1<=y/\(c.1,c.2+1)∉land then 1 else 0)+(if c.1=x/\c.2<=y/\(c.1,c.2 - 1)∉land then 1 else 0)
def turn (s:nZ):Int:=s.1.1*s.2.2 - s.2.1*s.1.2
def beside (c:Pl):List Pl:=[(c.1 - 1,c.2),(c.1,c.2 - 1),(c.1,c.2+1),(c.1+1,c.2)]
theorem jZ (h:d∈beside c):c∈beside d:=by
 obtain⟨a,b⟩:=c;unfold beside at h⊢;simp only [mem_cons,not_mem_nil,or_false]at h⊢;rcases h with rfl|rfl|rfl|rfl
 ·right;right;right;simp
 ·right;right;left;simp
 ·right;left;simp
 ·left;simp
def gD (land P:List Pl):Prop:=∀x∈P,∀y∈beside x,y∈land->y∈P
structure qX (land:List Pl)(s:Pl)(P:List Pl):Prop where
 sub:∀x∈P,x∈land
 st:s∈P
 cl:gD land P
 min:∀C,gD land C->(∃x∈P,x∈C)->s∈C
 up:P.Pairwise ltP
def nb (land R:List Pl)(x:Pl):List Pl:=(beside x).filter fun y=>decide (y∈land)&& !decide (y∈R)
structure Rch (land:List Pl)(s:Pl)(R:List Pl)(k:Nat):Prop where
 sub:∀x∈R,x∈land
 nd:R.Nodup
 st:s∈R
 done:∀i x,i<k->R[i]?=some x->∀y∈beside x,y∈land->y∈R
 min:∀C,gD land C->∀x∈R,x∈C->s∈C
 le:k<=R.length
theorem A3y (x:Pl):(beside x).Nodup:=by obtain⟨a,b⟩:=x;unfold beside;simp only [nodup_cons,mem_cons,not_mem_nil,or_false,Prod.mk.injEq,not_or,not_false_eq_true,nodup_nil,and_true];omega
theorem mem_nb {land R:List Pl}{x y:Pl}:y∈nb land R x↔y∈beside x/\y∈land/\y∉R:=by unfold nb;rw [mem_filter];simp
theorem Rch.start (h:s∈land):Rch land s [s] 0:=
 ⟨fun x hx=>by rw [mem_singleton.mp hx];exact h,by simp,zjR,fun i _ hi=>absurd hi (Nat.not_lt_zero i),fun C _ x hx hC=>by rw [mem_singleton.mp hx]at hC;exact hC,zero_le _⟩
theorem Rch.step {land R:List Pl}{s x:Pl}{k:Nat}(h:Rch land s R k)(hx:R[k]?=some x):Rch land s (R++nb land R x) (k+1):=by
 have hk:k<R.length:=(zjW.mp hx).1;refine⟨fun y hy=> ?_,?_,mem_append_left _ h.st,fun i y hi hy z hz hzl=> ?_,fun C hC y hy hyC=> ?_,by rw [length_append];omega⟩
 ·rcases mem_append.mp hy with e|e
  ·exact h.sub y e
  ·exact(mem_nb.mp e).2.1
 ·rw [nodup_append];refine⟨h.nd,(A3y x).sublist filter_sublist,fun a ha b hb e=> ?_⟩;subst e;exact(mem_nb.mp hb).2.2 ha
 ·rw [List.getElem?_append_left (by omega)]at hy;by_cases e:z∈R
  ·exact mem_append_left _ e
  ·rcases lt_or_ge i k with u|u
   ·exact absurd (h.done i y u hy z hz hzl) e
   ·have:i=k:=by omega
    rw [this,hx]at hy;cases hy;exact mem_append_right _ (mem_nb.mpr ⟨hz,hzl,e⟩)
 ·rcases mem_append.mp hy with e|e
  ·exact h.min C hC y e hyC
  ·have hxR:=mem_of_getElem? hx;exact h.min C hC x hxR (hC y hyC x (jZ (mem_nb.mp e).1) (h.sub x hxR))
theorem Rch.len {land R:List Pl}{s:Pl}{k:Nat}(h:Rch land s R k):R.length<=land.length:=tX h.nd h.sub
theorem Rch.fin {land R P:List Pl}{s:Pl}{k:Nat}(h:Rch land s R k)(hk:R.length<=k)(hp:P.Perm R)(hs:P.Pairwise fun a b=>HT.lexLt [b.1,b.2] [a.1,a.2]=false):qX land s P:=by
 refine⟨fun x hx=>h.sub x (hp.mem_iff.mp hx),hp.mem_iff.mpr h.st,fun x hx y hy hl=> ?_,fun C hC ⟨x,hx,hxC⟩=>h.min C hC x (hp.mem_iff.mp hx) hxC,?_⟩
 ·obtain⟨i,hi,e⟩:=mem_iff_getElem.mp (hp.mem_iff.mp hx);exact hp.mem_iff.mpr (h.done i x (by omega) (zjW.mpr ⟨hi,e⟩) y hy hl)
 ·have hnd:P.Nodup:=hp.nodup_iff.mpr h.nd;refine(hs.and (nodup_iff_pairwise_ne.mp hnd)).imp fun{a b} z=> ?_;unfold ltP;cases e:HT.lexLt [a.1,a.2] [b.1,b.2]with
  |true=>rfl
  |false=>
   have:=kA e z.1;refine absurd ?_ z.2;obtain⟨a1,a2⟩:=a;obtain⟨b1,b2⟩:=b;simp only [List.cons.injEq,and_true]at this;rw [this.1,this.2]
end Wlk
namespace M07
open PySem L2 PyProof.Rows Grd Wlk Cyc Srt
def qJ:Sp:=fun vs H Q _=> ∃p c,vs=[.ref p]/\PlA H p c/\∀l qs H',H l=none->Same H H'->H' l=some (.lst ((qs:List Addr).map V.ref))->PlAt H' qs (beside c)->Q (.ref l) H'
section
variable {P:Program}{w:World}{K:W.Frag}{mg:Str->Option Value}{base:Heap}
abbrev nBs:List Str:=["place","row","column"]
theorem A9i (F:D1 K mg "places_beside" yM ["place"]):A1 P w K mg base 1 "places_beside" qJ:=by
 refine F.k nBs ?_;ac_nf
 ·obtain⟨p,c,rfl,hp,q⟩:=h;refine⟨_,A9f (dQ (pv 0) (bV rfl (aX (nm1 1 nd) (aX (nm1 2 nd) bW))))<|
   A3z (lstq (lI (tupq (jD (bD gZ (pv 1) aO) (mU (pv 2) cQ))) (lI (tupq (mU (pv 1) (jD (bD gZ (pv 2) aO) cQ))) (lI (tupq (mU (pv 1) (jD (bD eJ (pv 2) aO) cQ))) (lI (tupq (jD (bD eJ (pv 1) aO) (mU (pv 2) cQ))) cQ))))),?_⟩
  refine⟨_,rfl,p,_,rfl,SqT.of hp,rfl,_,_,rfl,_,_,rfl,rfl,?_⟩;dsimp only
  refine A26 ?_;refine⟨_,rfl,_,_,rfl,rfl,_,rfl,by show 2<=sizeLine;decide,fun p1 h1=> ?_⟩;have s1:=aQ (o:=.tup [.int (c.1 - 1),.int c.2]) h1;refine⟨_,rfl,_,rfl,_,_,rfl,rfl,by show 2<=sizeLine;decide,fun p2 h2=> ?_⟩;have s2:=aQ (o:=.tup [.int c.1,.int (c.2 - 1)]) h2;refine⟨_,rfl,_,rfl,_,_,rfl,rfl,by show 2<=sizeLine;decide,fun p3 h3=> ?_⟩;have s3:=aQ (o:=.tup [.int c.1,.int (c.2+1)]) h3;refine⟨_,rfl,_,_,rfl,rfl,_,rfl,by show 2<=sizeLine;decide,fun p4 h4=> ?_⟩;have s4:=aQ (o:=.tup [.int (c.1+1),.int c.2]) h4;refine⟨by show 4<=sizeLine;decide,fun l hl=> ?_⟩;have s5:=aQ (o:=.lst [.ref p1,.ref p2,.ref p3,.ref p4]) hl;have s14:=((s1.trans s2).trans s3).trans s4;exact q l [p1,p2,p3,p4] _ (s14.free hl) (s14.trans s5) aG (.cons (s5 _ _ (s4 _ _ (s3 _ _ (s2 _ _ aG)))) (.cons (s5 _ _ (s4 _ _ (s3 _ _ aG))) (.cons (s5 _ _ (s4 _ _ aG)) (.cons (s5 _ _ aG) .nil))))
end
theorem A38 (h:PlAt H ps cs)(h':PlAt H qs ds):PlAt H (ps++qs) (cs++ds):=by
 induction h with
 |nil=>exact h'
 |cons r t ih=>exact .cons r ih
theorem LandOf.len (G:cR g w)(h:LandOf g cs):cs.length<=10:=by have:=List.Sublist.length_le h;rw [fS]at this;have:=G.c10;omega
def unP (l:List Int):Pl:=(l.getD 0 0,l.getD 1 0)
theorem A6d {X:Cx}{H:Hp}{l:Addr}{qs:List Addr}{R:List Pl}{Q:VK}(hl:H l=some (.lst (qs.map V.ref)))(hP:PlAt H qs R)(h40:R.length<=40)(q:∀l9 qs' R' H',H l9=none->Same H H'->H' l9=some (.lst ((qs':List Addr).map V.ref))->PlAt H' qs' R'->R'.Perm R->R'.Pairwise (fun a b=>HT.lexLt [b.1,b.2] [a.1,a.2]=false)->Q (.ref l9) H'):
  ∃(p:Addr)(zs:List (Addr×List Int)),[V.ref l]=[.ref p]/\SqL X.K H p (zs.map fun z=>V.ref z.1)/\(∀z∈zs,H z.1=some (.tup (z.2.map V.int))/\z.2≠[])/\zs.length<64/\∀l zs',H l=none->pG zs zs'->Q (.ref l) (upd H l (.lst (zs'.map fun z=>V.ref z.1))):=by
 have hzz:∀{qs:List Addr}{R:List Pl},PlAt H qs R->∃zs:List (Addr×List Int),(zs.map fun z=>z.1)=qs/\(zs.map fun z=>z.2)=R.map (fun s=> [s.1,s.2])/\∀z∈zs,H z.1=some (.tup (z.2.map V.int))/\z.2≠[]:=fun{qs R} h=>by
  induction h with
  |nil=>exact⟨[],rfl,rfl,fun z hz=>by cases hz⟩
  |cons r t ih=>
   rename_i q s _ _;obtain⟨zs,i1,i2,i3⟩:=ih;refine⟨(q,[s.1,s.2])::zs,by rw [map_cons,i1],by rw [map_cons,i2];rfl,fun z hz=> ?_⟩;rcases mem_cons.mp hz with e|e
   ·rw [e];exact⟨r,by simp⟩
   ·exact i3 z e
 obtain⟨zs,i1,i2,i3⟩:=hzz hP;have un:∀z∈zs,∃s:Pl,z.2=[s.1,s.2]/\unP z.2=s:=fun z hz=>by
  have e2:z.2∈zs.map fun z=>z.2:=mem_map.mpr ⟨z,hz,rfl⟩;rw [i2]at e2;obtain⟨s,_,es⟩:=mem_map.mp e2;exact⟨s,es.symm,by rw [←es];rfl⟩
 have hzl:zs.length<=40:=by
  have h1:=congrArg List.length i2;rw [length_map,length_map]at h1;omega
 refine⟨l,zs,rfl,SqL.of (by rw [hl,←i1,map_map];rfl),i3,by omega,fun l9 zs' hl9 so=> ?_⟩;have s9:=aQ (o:=.lst (zs'.map fun z=>V.ref z.1)) hl9;refine q l9 (zs'.map fun z=>z.1) (zs'.map fun z=>unP z.2) _ hl9 s9 (by rw [aG,map_map];rfl) ?_ ?_ ?_
 ·have key:∀ys:List (Addr×List Int),(∀z∈ys,z∈zs)->PlAt (upd H l9 (.lst (zs'.map fun z=>V.ref z.1))) (ys.map fun z=>z.1) (ys.map fun z=>unP z.2):=fun ys=>by
   induction ys with
   |nil=>intro _;exact .nil
   |cons z ys ih=>
    intro hm;refine .cons ?_ (ih fun y hy=>hm y (zjS _ hy));have hz:=hm z zjR;obtain⟨s,e1,e2⟩:=un z hz;show PlA _ z.1 (unP z.2);rw [e2];have:=(i3 z hz).1;rw [e1]at this;exact s9 _ _ this
  exact key zs' fun z hz=>so.1.mem_iff.mp hz
 ·have h1:=(so.1.map fun z=>z.2).map unP;rw [i2,map_map,map_map]at h1;refine h1.trans (List.Perm.of_eq ?_);have:(unP∘fun s:Pl=> [s.1,s.2])=id:=rfl;rw [this,map_id]
 ·rw [pairwise_map];refine so.2.imp_of_mem fun{a b} ha hb hab=> ?_;obtain⟨s,e1,e2⟩:=un a (so.1.mem_iff.mp ha);obtain⟨s',e1',e2'⟩:=un b (so.1.mem_iff.mp hb);rw [e1,e1']at hab;rw [e2,e2'];exact hab
def A0c:Sp:=fun vs H Q _=> ∃t p cs c,vs=[.ref t,.ref p]/\SqA H t cs/\cs.length<=10/\PlA H p c/\c∈cs/\∀t' P H',Same H H'->SqA H' t' P->qX cs c P->Q (.ref t') H'
section
variable {P:Program}{w:World}{K:W.Frag}{mg:Str->Option Value}{base:Heap}
abbrev nPr:List Str:=["land","start","reached","at","beside"]
theorem A7p:(["place","land","reached"]:List Str).Nodup:=by decide +kernel
theorem A1x (F:D1 K mg "piece_round" lM ["land","start"])(T:Txt mg)(T2:dY mg)(a1:A1 P w K mg base 1 "places_beside" qJ):A1 P w K mg base 2 "piece_round" A0c:=by
  refine F.k nPr ?_;ac_nf
  · obtain⟨t,pa,cs,c,rfl,hT,h10,hp,hc,q⟩:=h
    refine⟨_,aU (bQ (i:=2) nd rfl (Or.inr rfl) (dS (aB (pv 1) aA)))<|
      aU (bQ (i:=3) nd rfl (Or.inl rfl) aO)<|
      aU (qV PassesOwn.never (cI oY (pv 3) (bH eU rfl T.len PySem.boot_len (aB (pv 2) aA)) (nomark _))
        (aU (bQ (i:=4) nd rfl (Or.inl rfl) (a1.c hr (fF (bK fG (pv 2) (pv 3) (fun _ _=>rfl)) aA)))<|
         aU (dE (kU PySem.F.plainAttrs_list PySem.F.slot_list_extend PySem.F.type_list_extend yF (pv 2) (cM (bN (bE lM).names nPr ["place"] [("land",0),("reached",2)] rfl (dN (pv 4)) rfl rfl rfl (by decide +kernel)
            (fun Z=>nm1 0 A7p) (fun Z=>eT (PW.pt (oW (cI (pX 1 (fB hr)) (pv 0) (pv 1) rfl) (rB (cI (vJ 1 (fB hr)) (pv 0) (pv 2) rfl))))) (fun Z=>pv 0)) aA)))<|
         aM (A9h (i:=3) nd rfl (Or.inl rfl) aO A5l)))<|
      aM (bA (fO kP rfl T.tuple boot_tuple (bY (bH uY rfl T2.sorted boot_sorted (aB (pv 2) aA)) aA))),?_⟩
    obtain⟨ts,ht,hP⟩:=hT;refine⟨_,rfl,by show 1<=sizeLine;decide,fun lr hlr=> ?_⟩;have s0:=aQ (o:=.lst [.ref pa]) hlr;refine⟨fun m σ H'=> ∃k o qs R,m+k=10/\σ=[some (.ref t),some (.ref pa),some (.ref lr),some (.int (k:Nat)),o]/\Same H H'/\H' lr=some (.lst ((qs:List Addr).map V.ref))/\PlAt H' qs R/\Rch cs c R k,
      ⟨10,0,_,[pa],[c],rfl,rfl,s0,aG,.cons (s0 _ _ hp) .nil,Rch.start hc⟩,?_⟩
    rintro m σ H' ⟨k,o,qs,R,hm,rfl,hs,hlr',hR,rc⟩;have hqR:qs.length=R.length:=Paired.length hR;have hRl:=rc.len;refine⟨_,rfl,_,rfl,lr,_,rfl,.inl (SqL.of hlr'),_,_,rfl,rfl,_,rfl,eW (fun z=> ?_) fun z=> ?_⟩
    · rw [length_map,hqR]at z
      have hk:k<R.length:=by omega
      have hkq:k<qs.length:=by omega
      have hqk:qs[k]?=some (qs[k]):=getElem?_eq_getElem hkq;obtain⟨x,hx,he⟩:=hR.at hqk;refine⟨fun σ' H2=> ∃o qs',σ'=[some (.ref t),some (.ref pa),some (.ref lr),some (.int ((k+1:Nat):Int)),o]/\Same H H2/\H2 lr=some (.lst ((qs':List Addr).map V.ref))/\PlAt H2 qs' (R++nb cs R x),
        fun σ' H2 ⟨o,qs',h1,h2,h3,h4⟩=> ⟨m - 1,by omega,k+1,o,qs',_,by omega,h1,h2,h3,h4,rc.step hx⟩,?_⟩
      refine⟨_,rfl,_,rfl,lr,_,_,_,rfl,rfl,SqL.of hlr',cC (v:=V.ref qs[k]) (by rw [getElem?_map,hqk];rfl),?_⟩;refine⟨qs[k],x,rfl,he,fun lb bs H2 hlb s2 hlb2 hB=> ?_⟩;have hR2:=hR.same s2;have hlr2:=s2 _ _ hlr';have hP2:=(hP.same hs).same s2;have ht2:=s2 _ _ (hs _ _ ht);have hb4:bs.length=4:=Paired.length hB;refine⟨_,rfl,.inl ⟨rfl,_,SqL.of hlr2⟩,?_⟩;refine⟨_,rfl,lb,rfl,⟨_,SqL.of hlb2⟩,fun Z ln hln=> ?_⟩;refine gU (K:=K) (a:=lb) (xs:=bs.map V.ref) (fun j σ H3=>(∃o,σ=[o,some (.ref t),some (.ref lr)])/\Same H2 H3/\∃ns,H3 ln=some (.lst ((ns:List Addr).map V.ref))/\PlAt H3 ns (((beside x).take j).filter fun y=>decide (y∈cs)&& !decide (y∈R)))
        ⟨⟨_,rfl⟩,aQ hln,[],by rw [aG];rfl,.nil⟩ (fun j σ H3 _ h=>SqL.of (h.2.1 _ _ hlb2)) ?_ ?_
      · rintro j y σ H3 hy ⟨⟨o',rfl⟩,hs3,ns,hn,hN⟩
        obtain⟨b,hbj,rfl⟩:=gA hy;obtain⟨d,hd,hbd⟩:=hB.at hbj;have hj:j<4:=(zjW.mp hd).1;have hbd3:=hs3 _ _ hbd;have hnl:ns.length<=4:=by
          have h1:ns.length=_:=Paired.length hN;have h2:=length_filter_le (fun y=>decide (y∈cs)&& !decide (y∈R)) ((beside x).take j);rw [length_take]at h2;omega
        have et:((beside x).take (j+1)).filter (fun y=>decide (y∈cs)&& !decide (y∈R))=((beside x).take j).filter (fun y=>decide (y∈cs)&& !decide (y∈R))++(if (decide (d∈cs)&& !decide (d∈R))=true then [d]else []):=by
          rw [take_succ,hd,filter_append]
          congr 1
          cases e:(decide (d∈cs)&& !decide (d∈R))
          · simp [e]
          · simp [e]
        rw [et];show cK _ _ _ [some (.ref b),some (.ref t),some (.ref lr)] H3;refine⟨_,rfl,_,rfl,t,_,_,rfl,.inl (hs3 _ _ ht2),jP hbd3 (hP2.same hs3),_,rfl,?_⟩;rw [zW];refine dC (fun z1'=> ?_) fun z1'=> ?_
        · have z1:d∈cs:=by simpa using z1'
          refine⟨_,rfl,_,rfl,lr,_,_,rfl,.inr (hs3 _ _ hlr2),jP hbd3 (hR2.same hs3),_,rfl,?_⟩;rw [zW];refine dC (fun z2'=> ?_) fun z2'=> ?_
          · have z2:d∉R:=by simpa using z2'
            rw [if_pos (by rw [zjV z1,zjU z2];rfl)];refine⟨_,rfl,_,hn,cH (by rw [length_map];omega),⟨_,rfl⟩,fun b' u e'=> ?_,ns++[b],?_,?_⟩
            · rw [aY (bL e' hln)];exact hs3 _ _ e'
            · rw [aG,map_append];rfl
            · exact PlAt.snoc (Paired.mapP hN fun _ _ z=>PlA.put hn z) (PlA.put hn hbd3)
          · have z2:d∈R:=by simpa using z2'
            rw [if_neg (by rw [zjV z2];simp),append_nil];exact⟨⟨_,rfl⟩,hs3,ns,hn,hN⟩
        · have z1:d∉cs:=by simpa using z1'
          rw [if_neg (by rw [zjU z1];simp),append_nil];exact⟨⟨_,rfl⟩,hs3,ns,hn,hN⟩
      · rintro σ H3 ⟨⟨o',rfl⟩,hs3,ns,hn,hN⟩
        rw [length_map,hb4]at hN;have hN':PlAt H3 ns (nb cs R x):=hN;have hnl:ns.length<=4:=by
          have h1:ns.length=(nb cs R x).length:=Paired.length hN';have h2:(nb cs R x).length<=(beside x).length:=length_filter_le _ _;have h3:(beside x).length=4:=rfl;omega
        have hlr3:=hs3 _ _ hlr2;refine⟨lr,ln,_,_,rfl,rfl,hlr3,hn,by rw [length_map,length_map,sizeLine_eq];omega,?_⟩;refine⟨_,rfl,_,_,rfl,rfl,⟨_,qs++ns,rfl,fun b' u e'=> ?_,by rw [aG,map_append],?_⟩⟩
        · rw [aY (bL e' hlr)];exact hs3 _ _ (s2 _ _ (hs _ _ e'))
        · exact A38 (Paired.mapP (hR2.same hs3) fun _ _ z=>PlA.put hlr3 z) (Paired.mapP hN' fun _ _ z=>PlA.put hlr3 z)
    · rw [length_map,hqR]at z
      refine⟨_,rfl,?_⟩;refine A6d (X:=(fA CX0 P w K mg base nPr (Str.ofString "piece_round") (bE lM) f cdv A outer s H E).nox) (Q:=fun v H1=> ∃p ys,[v]=[V.ref p]/\((SqL K H1 p ys/\∀l,H1 l=none->Q (.ref l) (upd H1 l (.tup ys)))\/(SqT K H1 p ys/\Q (.ref p) H1))) hlr' hR (by omega) fun l9 qs' R' H9 h9 s9 hl9 hR9 pm up=> ?_;refine⟨l9,_,rfl,.inl ⟨SqL.of hl9,fun t' ht'=> ?_⟩⟩;have s10:=aQ (o:=.tup (qs'.map V.ref)) ht';exact q t' R' _ ((hs.trans s9).trans s10) ⟨qs',aG,hR9.same s10⟩ (rc.fin (by omega) pm up)
end
end M07
namespace M07
open PySem L2 PyProof.Rows Grd Wlk Srt
def upP (cs:List Pl):Bool:=decide (cs.Pairwise fun c d=>HT.lexLt [c.1,c.2] [d.1,d.2]=true)
def eA (H:Hp)(xs:List V):List Pl:=xs.filterMap (cX H)
def landV (H:Hp)(g:bF)(v:V):Bool:=match tupOf H v with
 |some xs=>xs.all (isCell H g)&&upP (eA H xs)
 |none=>false
theorem A8l (h:cX H v=some c):∃p,v= .ref p/\PlA H p c:=by
 unfold cX at h
 split at h
 ·rename_i r2 c2 hz;injection h with h
  subst h;obtain⟨p,rfl,hp⟩:=jB hz;exact⟨p,rfl,hp⟩
 ·cases h
theorem A9l (h:PlA H p c):cX H (.ref p)=some c:=by unfold cX;rw [iB h]
theorem sD:∀{xs:List V},xs.all (isCell H g)=true->∃ps:List Addr,xs=ps.map V.ref/\PlAt H ps (eA H xs)/\∀c∈eA H xs,c∈bB pos g
 | [],_=> ⟨[],rfl,.nil,fun c hc=>by cases hc⟩
 |x::xs,h=>by
  rw [all_cons,Bool.and_eq_true]at h;obtain⟨ps,e,hP,hc⟩:=sD h.2;have h1:=h.1;unfold isCell at h1;cases z:cX H x with
  |none=>rw [z]at h1;cases h1
  |some c=>
   rw [z]at h1;obtain⟨p,rfl,hp⟩:=A8l z;have e2:eA H (.ref p::xs)=c::eA H xs:=by unfold eA;rw [filterMap_cons,z]
   rw [e2];refine⟨p::ps,by rw [e];rfl,.cons hp hP,fun d hd=> ?_⟩;rcases mem_cons.mp hd with rfl|hd
   ·exact of_decide_eq_true h1
   ·exact hc d hd
theorem Same.isCell (s:Same H H')(k:Kn H 1 v):M07.isCell H' g v=M07.isCell H g v:=by unfold M07.isCell cX;rw [s.tupOf k]
theorem Same.landV (s:Same H H')(k:Kn H 2 v):M07.landV H' g v=M07.landV H g v:=by
 unfold M07.landV;rw [s.tupOf (k.le (by omega))];cases e:L2.tupOf H v with
 |none=>rfl
 |some xs=>
  obtain⟨a,rfl,ha⟩:=jB e;obtain⟨_,hx⟩:=k.items ha;have h1:xs.all (M07.isCell H' g)=xs.all (M07.isCell H g):=by
   rw [Bool.eq_iff_iff,all_eq_true,all_eq_true];exact⟨fun h x hm=>by rw [←Same.isCell s (hx x hm)];exact h x hm,fun h x hm=>by rw [Same.isCell s (hx x hm)];exact h x hm⟩
  have h2:eA H' xs=eA H xs:=by
   unfold eA;have:∀l:List V,(∀x∈l,x∈xs)->l.filterMap (cX H')=l.filterMap (cX H):=fun l=>by
    induction l with
    |nil=>intro _;rfl
    |cons x l ih=>
     intro hl;have e2:cX H' x=cX H x:=by unfold cX;rw [s.tupOf (hx x (hl x zjR))]
     rw [filterMap_cons,filterMap_cons,e2,ih fun y hy=>hl y (zjS _ hy)]
   exact this xs fun _ h=>h
  dsimp only
  rw [h1,h2]
theorem A1b (cs:List Pl):((cs.zip (cs.drop 1)).map fun p=>HT.lexLt [p.1.1,p.1.2] [p.2.1,p.2.2]).all id=upP cs:=by
 induction cs with
 |nil=>rfl
 |cons a cs ih=>
  cases cs with
  |nil=>simp [upP]
  |cons b cs=>
   have e:((a::b::cs).zip ((a::b::cs).drop 1)).map (fun p:Pl×Pl=>HT.lexLt [p.1.1,p.1.2] [p.2.1,p.2.2])=HT.lexLt [a.1,a.2] [b.1,b.2]::((b::cs).zip ((b::cs).drop 1)).map fun p:Pl×Pl=>HT.lexLt [p.1.1,p.1.2] [p.2.1,p.2.2]:=rfl;rw [e,all_cons,ih];unfold upP;rw [Bool.eq_iff_iff,Bool.and_eq_true,decide_eq_true_eq,decide_eq_true_eq];show ltP a b/\_↔_;rw [pairwise_cons (a:=a)];constructor
   ·rintro⟨h1,h2⟩;refine⟨fun x hx=> ?_,h2⟩;rcases mem_cons.mp hx with rfl|hx
    ·exact h1
    ·exact jY h1 ((pairwise_cons.mp h2).1 x hx)
   ·rintro⟨h1,h2⟩;exact⟨h1 b zjR,h2⟩
def yH:Sp:=fun vs H Q _=> ∃a cs,vs=[.ref a]/\SqA H a cs/\cs.length<=1000/\∀H',Same H H'->Q (.bl (upP cs)) H'
def vE:Sp:=fun vs H Q _=> ∃a g w v,vs=[.ref a,v]/\GridAt H a g/\cR g w/\Kn H 3 v/\∀H',Same H H'->Q (.bl (landV H g v)) H'
section
variable {P:Program}{w:World}{K:W.Frag}{mg:Str->Option Value}{base:Heap}
theorem lT:(["one","other"]:List Str).Nodup:=by decide +kernel
theorem A44 (F:D1 K mg "is_rising" kO ["things"])(T:Txt mg)(T2:dY mg):A1 P w K mg base 1 "is_rising" yH:=by
 refine F.k ["things"] ?_;ac_nf
 ·obtain⟨a,cs,rfl,⟨ps,ha,hP⟩,hz,q⟩:=h;have hlen:ps.length=cs.length:=Paired.length hP;refine⟨_,aM (bA (bH (fE rfl) rfl T.all boot_all (cM (bN (bE kO).names ["things"] ["one","other"] [] rfl (lH wJ rfl T2.zip (aB (pv 0) (fF (gJ nG (pv 0) (gC aO) iT) aA))) rfl rfl rfl (by decide +kernel)
   (fun Z=>bV rfl (aX (nm1 0 lT) (aX (nm1 1 lT) bW))) (fun Z=>cB) (fun Z=>dD (zA (lt_of_succ_lt (nD hr))) (pv 0) (pv 1) (nomark _))) aA))),?_⟩
  refine⟨_,rfl,_,rfl,_,rfl,a,_,rfl,ha,fun t H1 s1 ht=> ?_⟩;rw [A4f]at ht;refine⟨a,t,ps.map V.ref,(ps.drop 1).map V.ref,rfl,SqT.of (s1 _ _ ha),SqT.of ht,fun Z r hr'=> ?_⟩;refine oD (xs:=ps.map V.ref) (ys:=(ps.drop 1).map V.ref) (by rw [length_map,length_map,length_drop];omega) (fun i σ H'=>σ.length=2/\Same H1 H'/\H' r=some (.lst ((((cs.zip (cs.drop 1)).map fun p=>HT.lexLt [p.1.1,p.1.2] [p.2.1,p.2.2]).take i).map V.bl))) ⟨rfl,aQ hr',by rw [aG];rfl⟩
   (fun i σ H' h=> ⟨SqT.of (h.2.1 _ _ (s1 _ _ ha)),SqT.of (h.2.1 _ _ ht)⟩) ?_ ?_
  ·rintro i x y p3 σ H' hx hy ⟨hσ,hs,hl'⟩ hp3
   match σ,hσ with
   | [x0,x1],_=>
   obtain⟨b,hb,rfl⟩:=gA hx;obtain⟨b2,hb2,rfl⟩:=gA hy;have hb2':ps[i+1]?=some b2:=by rw [getElem?_drop]at hb2;rw [show i+1=1+i by omega];exact hb2
   obtain⟨c,hc,he⟩:=hP.at hb;obtain⟨c2,hc2,he2⟩:=hP.at hb2';have s3:=aQ (o:=.tup [.ref b,.ref b2]) hp3;refine⟨p3,_,rfl,SqT.of aG,rfl,_,_,rfl,_,_,rfl,rfl,?_⟩;refine fU ?_;refine⟨_,rfl,_,rfl,b,b2,[c.1,c.2],[c2.1,c2.2],rfl,rfl,SqT.of (s3 _ _ (hs _ _ (s1 _ _ he))),SqT.of (s3 _ _ (hs _ _ (s1 _ _ he2))),?_⟩;have hz1:(cs.zip (cs.drop 1))[i]?=some (c,c2):=by
    rw [List.getElem?_zip_eq_some];refine⟨hc,?_⟩;rw [getElem?_drop,show 1+i=i+1 by omega];exact hc2
   have hi:i<cs.length:=(zjW.mp hc).1;refine⟨_,s3 _ _ hl',cH (by rw [length_map,length_take];omega),rfl,fun b' u e'=> ?_,?_⟩
   ·rw [aY (bL e' hr')];exact s3 _ _ (hs _ _ e')
   ·rw [aG,take_succ,getElem?_map,hz1,map_append];rfl
  ·rintro σ H' ⟨_,hs,hl'⟩;have hle:((cs.zip (cs.drop 1)).map fun p=>HT.lexLt [p.1.1,p.1.2] [p.2.1,p.2.2]).length<=((ps.drop 1).map V.ref).length:=by
    rw [length_map,List.length_zip,length_drop,length_map,length_drop];omega
   rw [take_of_length_le hle]at hl';refine⟨r,_,rfl,SqL.of hl',?_⟩;rw [A1b];exact q H' (s1.trans hs)
theorem A3w:(["place","mead"]:List Str).Nodup:=by decide +kernel
theorem A6l (F:D1 K mg "is_land" qB ["mead","thing"])(T:Txt mg)(a1:A1 P w K mg base 5 "check_mead" nC)(a2:A1 P w K mg base 3 "is_cell" zO)(a3:A1 P w K mg base 1 "is_rising" yH):A1 P w K mg base 6 "is_land" vE:=by
 refine F.k ["mead","thing"] ?_;ac_nf
 ·obtain⟨a,g,w',v,rfl,hA,G,k,q⟩:=h;refine⟨_,aU (dE (a1.c hr (aB (pv 0) aA)))<|
   aU (bR (PW.pt (iO (bZ (bP (bH gT rfl T.isinstance boot_isinstance (aB (pv 1) (aB (fD (v:=.ty "tuple") rfl T.tuple boot_tuple rfl) aA))))) (jS (bZ (bP (bH (fE rfl) rfl T.all boot_all (cM (bN (bE qB).names ["mead","thing"] ["place"] [("mead",0)] rfl (cY (pv 1)) rfl rfl rfl (by decide +kernel)
    (fun Z=>nm1 0 A3w) (fun Z=>cB) (fun Z=>a2.c hr (aB (pv 1) (aB (pv 0) aA)))) aA))))))) (aM (bA dA)) bU)<|
   aM (bA (a3.c hr (aB (pv 1) aA))),?_⟩
  refine⟨_,rfl,a,g,w',rfl,hA,G,fun H1 s1=> ?_⟩;have k1:=k.ext s1.ext;have q1:∀H',Same H1 H'->Q (.bl (landV H1 g v)) H':=fun H' s'=>by rw [Same.landV s1 (k.le (by decide))];exact q H' (s1.trans s')
  obtain⟨ty,hty,_,_,k3⟩:=qS (K:=K) (k1.le (show 1<=3 by decide));refine⟨_,rfl,_,"tuple",ty,_,rfl,hty,k3,_,rfl,dC (fun e=> ?_) fun e=> ?_⟩
  ·refine gB ?_;have:landV H1 g v=false:=by
    unfold landV;cases z:tupOf H1 v with
    |none=>rfl
    |some xs=>rw [z]at e;cases e
   have q':=q1 H1 (Same.refl _);rw [this]at q';exact q'
  ·cases z:tupOf H1 v with
   |none=>rw [z]at e;cases e
   |some xs=>
   obtain⟨t,rfl,ht⟩:=jB z;obtain⟨hz,hk⟩:=k1.items ht;have hV:landV H1 g (.ref t)=(xs.all (isCell H1 g)&&upP (eA H1 xs)):=by unfold landV;rw [z]
   refine⟨_,rfl,t,rfl,⟨xs,SqT.of ht⟩,fun Z l hl=> ?_⟩;refine iF (fun x=> .bl (isCell H1 g x)) ht hl hz (fun x H' Q' hm hs hq=> ?_) fun σ H2 s2 hl2=> ?_
   ·refine⟨_,rfl,_,rfl,a,g,w',x,rfl,hA.same (s1.trans hs),G,(hk x hm).ext hs.ext,fun H3 s3=> ?_⟩;rw [Same.isCell hs ((hk x hm).le (by decide))];exact hq H3 s3
   ·refine⟨l,xs.map (isCell H1 g),rfl,SqL.of (by rw [hl2,map_map];rfl),_,rfl,?_⟩;have ea:(xs.map (isCell H1 g)).all id=xs.all (isCell H1 g):=by rw [all_map];rfl
    rw [ea];refine dC (fun e2=> ?_) fun e2=> ?_
    ·have q':=q1 H2 s2;have e2':xs.all (isCell H1 g)=false:=by simpa using e2
     rw [hV,e2']at q';exact q'
    ·have e2':xs.all (isCell H1 g)=true:=by simpa using e2
     obtain⟨ps,ex,hP,hc⟩:=sD e2';have hl1000:(eA H1 xs).length<=1000:=by
      have h1:=Paired.length hP;have h2:=congrArg List.length ex;rw [length_map]at h2;omega
     refine⟨_,rfl,t,eA H1 xs,rfl,⟨ps,s2 _ _ (by rw [←ex];exact ht),hP.same s2⟩,hl1000,fun H3 s3=> ?_⟩;have q':=q1 H3 (s2.trans s3);rw [hV,e2']at q';exact q'
end
end M07
namespace Wlk
open PySem PyProof.Rows Srt Cyc Grd L2
theorem nJ (a:Pl):¬ltP a a:=fun z=>by unfold ltP at z;rw [iK]at z;cases z
theorem A0j (h1:ltP a b)(h2:ltP b c):ltP a c:=jY h1 h2
theorem A5s {ks rs:List Pl}(hk:ks.Pairwise ltP)(hr:rs.Pairwise ltP)(hm:∀k,k∈ks↔k∈rs):ks=rs:=by
 induction ks generalizing rs with
 |nil=>
  cases rs with
  |nil=>rfl
  |cons r rs=>exact absurd ((hm r).mpr zjR) (by simp)
 |cons k ks ih=>
  cases rs with
  |nil=>exact absurd ((hm k).mp zjR) (by simp)
  |cons r rs=>
   rw [pairwise_cons]at hk hr;have e:k=r:=by
    rcases mem_cons.mp ((hm k).mp zjR)with e|h1
    ·exact e
    ·rcases mem_cons.mp ((hm r).mpr zjR)with e|h2
     ·exact e.symm
     ·exact absurd (A0j (hr.1 k h1) (hk.1 r h2)) (nJ r)
   subst e;rw [ih hk.2 hr.2 fun x=> ?_];have nk:∀x,x∈ks->x≠k:=fun x hx z=>by subst z;exact nJ x (hk.1 x hx)
   have nr:∀x,x∈rs->x≠k:=fun x hx z=>by subst z;exact nJ x (hr.1 x hx)
   constructor
   ·intro hx;rcases mem_cons.mp ((hm x).mp (zjS _ hx))with z|z
    ·exact absurd z (nk x hx)
    ·exact z
   ·intro hx;rcases mem_cons.mp ((hm x).mpr (zjS _ hx))with z|z
    ·exact absurd z (nr x hx)
    ·exact z
def xE (cs:List Pl)(b:Bool):Prop:=(cs=[]/\b=false)\/ ∃c0 tl P0,cs=c0::tl/\qX cs c0 P0/\b=decide (P0=cs)
def dI (a b:Pl):Bool:=decide ((Int.natAbs (a.1 - b.1):Int)+Int.natAbs (a.2 - b.2)=1)
theorem next_iff:dI a b=true↔a∈beside b:=by obtain⟨a1,a2⟩:=a;obtain⟨b1,b2⟩:=b;unfold dI beside;simp only [decide_eq_true_eq,mem_cons,not_mem_nil,or_false,Prod.mk.injEq];omega
end Wlk
namespace L2
open PySem PySem.Spec PyProof.Rows
def uP (n:Nat)(g:Bool->Bool):R2:=fun x y H Q=> ∃p q xs ys,x= .ref p/\y= .ref q/\H p=some (.lst xs)/\H q=some (.lst ys)/\((xs.length≠ys.length/\Q (.bl (g false)) H)\/ ∃ks,E3 (EqD H n) xs ys ks/\Q (.bl (g (ks.all id))) H)
section
theorem A5d (n:Nat)(hu:X.A.units+n+1<cLine):OpR X (compareOp .Eq) (uP n id):=by
 intro pins s σ H x y v u Q I rx ry h;obtain⟨p,q,xs,ys,rfl,rfl,h1,h2,h4⟩:=h;rcases h4 with⟨hne,hq⟩| ⟨ks,h4,hq⟩
 ·cases rx;cases ry
  ·obtain⟨us,r1,p1,_⟩:=I.list (SqL.of (K:=X.K) h1);obtain⟨ws,r2,p2,_⟩:=I.list (SqL.of (K:=X.K) h2);have l1:=r1.length;have l2:=r2.length;exact SeqAt.RcAt.lists_lengths (A:=X.A) (s:=s) p1.isList p2.isList (by simp;omega) (by omega) X.prog X.w X.xe _ ⟨.bl _,H,I,rfl,hq⟩
 ·exact A4a n hu pins s σ H _ _ v u Q I rx ry ⟨p,q,xs,ys,ks,rfl,rfl,.inr ⟨h1,h2⟩,h4,hq⟩
theorem wC (n:Nat)(hu:X.A.units+n+1<cLine):OpR X (compareOp .NotEq) (uP n not):=by
 intro pins s σ H x y v u Q I rx ry h;obtain⟨p,q,xs,ys,rfl,rfl,h1,h2,h4⟩:=h;rcases h4 with⟨hne,hq⟩| ⟨ks,h4,hq⟩
 ·cases rx;cases ry
  ·obtain⟨us,r1,p1,_⟩:=I.list (SqL.of (K:=X.K) h1);obtain⟨ws,r2,p2,_⟩:=I.list (SqL.of (K:=X.K) h2);have l1:=r1.length;have l2:=r2.length;exact SeqAt.RcNeAt.lists_lengths (A:=X.A) (s:=s) p1.isList p2.isList (by simp;omega) (by omega) X.prog X.w X.xe _ ⟨.bl _,H,I,rfl,hq⟩
 ·exact A9p n hu pins s σ H _ _ v u Q I rx ry ⟨p,q,xs,ys,ks,rfl,rfl,.inr ⟨h1,h2⟩,h4,hq⟩
end
end L2
namespace L2
open PySem PySem.Spec PyProof.Rows Srt
theorem yY [DecidableEq α](d:α)(cs ds:List α):((List.range (min cs.length ds.length)).all (fun j=>decide (cs.getD j d=ds.getD j d))&&cs.length==ds.length)=decide (cs=ds):=by
 rw [Bool.eq_iff_iff,Bool.and_eq_true,all_eq_true,decide_eq_true_eq,beq_iff_eq];constructor
 ·rintro⟨h1,h2⟩;refine ext_getElem h2 fun j a b=> ?_;have:=of_decide_eq_true (h1 j (mem_range.mpr (by omega)));simpa [a,b]using this
 ·rintro rfl;exact⟨fun j _=>zjV rfl,rfl⟩
theorem gN:∀{l:List α}{m:List β}{i:Nat}{a:α},Paired F l m->l[i]?=some a->∃b,m[i]?=some b/\F a b
 |_,_,0,_,.cons r _,h=>by cases h;exact⟨_,rfl,r⟩
 |_,_,i+1,_,.cons _ t,h=>gN (i:=i) t (by simpa using h)
section
theorem wX (I:Inv X pins σ H s)(hu:A.units+2<cLine)(hp:SqA H p cs)(hq:SqA H q ds):SeqAt.RcAt A s (.ref p) (.ref q) (decide (cs=ds)):=by
 obtain⟨ps,h1,hP⟩:=hp;obtain⟨qs,h2,hQ⟩:=hq;obtain⟨us,r1,p1,_⟩:=I.tuple (SqT.of (K:=X.K) h1);obtain⟨ws,r2,p2,_⟩:=I.tuple (SqT.of (K:=X.K) h2);have e1:=fP r1;have e2:=fP r2;subst e1 e2;have l1:ps.length=cs.length:=Paired.length hP;have l2:qs.length=ds.length:=Paired.length hQ;have k:=SeqAt.RcAt.tuples (A:=A) (s:=s) (e:=fun j=>decide (cs.getD j (0,0)=ds.getD j (0,0))) p1 p2 (by omega) (fun j g1 g2=>by
  rw [size_toArray,length_map]at g1 g2;obtain⟨c,hc,he⟩:=hP.at (getElem?_eq_getElem g1);obtain⟨d,hd,he2⟩:=hQ.at (getElem?_eq_getElem g2);have ec:cs.getD j (0,0)=c:=by rw [getD_eq_getElem?_getD,hc];rfl
  have ed:ds.getD j (0,0)=d:=by rw [getD_eq_getElem?_getD,hd];rfl
  rw [ec,ed];have a1:(ps.map Value.ref).toArray[j]'(by rw [size_toArray,length_map];exact g1)=Value.ref ps[j]:=by simp
  have a2:(qs.map Value.ref).toArray[j]'(by rw [size_toArray,length_map];exact g2)=Value.ref qs[j]:=by simp
  rw [a1,a2];exact pK I (show A.units+1<cLine by omega) he he2)
 have e:((List.range (min (ps.map Value.ref).toArray.size (qs.map Value.ref).toArray.size)).all (fun j=>decide (cs.getD j (0,0)=ds.getD j (0,0)))&&(ps.map Value.ref).toArray.size==(qs.map Value.ref).toArray.size)=decide (cs=ds):=by
  rw [size_toArray,size_toArray,length_map,length_map,l1,l2];exact yY (0,0) cs ds
 rw [e]at k;exact k
theorem xA (I:Inv X pins σ H s)(hu:A.units+2<cLine)(hp:SqA H p cs)(hq:SqA H q ds):SeqAt.EqAt A s (.ref p) (.ref q) (decide (cs=ds)):=by
 by_cases e:p=q
 ·subst e;rw [zjV (hp.val hq)];exact SeqAt.EqAt.same _
 ·exact SeqAt.EqAt.of_refs e (wX I hu hp hq)
theorem vY (hu:X.A.units+2<cLine):OpR X (compareOp .Eq) (fun x y H Q=> ∃p q cs ds,x= .ref p/\y= .ref q/\SqA H p cs/\SqA H q ds/\Q (.bl (decide (cs=ds))) H):=by intro pins s σ H x y v u Q I rx ry h;obtain⟨p,q,cs,ds,rfl,rfl,h1,h2,hq⟩:=h;cases rx;cases ry;exact wX I hu h1 h2 X.prog X.w X.xe _ ⟨.bl _,H,I,rfl,hq⟩
theorem A2d (hu:X.A.units+3<cLine):OpR X (compareOp .In) (fun x y H Q=> ∃t l L qs Ls,x= .ref t/\y= .ref l/\SqA H t L/\H l=some (.lst ((qs:List Addr).map V.ref))/\Paired (SqA H) qs Ls/\Q (.bl (decide (L∈Ls))) H):=by
 intro pins s σ H x y v u Q I rx ry h;obtain⟨t,l,L,qs,Ls,rfl,rfl,ht,hl,hP,q⟩:=h;cases rx;cases ry;obtain⟨its,r,pl,hz⟩:=I.list (SqL.of (K:=X.K) hl);have ei:=fP r;subst ei
 open Classical in
 let e:Value->Bool:=fun y=>decide (∃a,y= .ref a/\SqA H a L);have he:∀a D,SqA H a D->e (.ref a)=decide (D=L):=fun a D ha=>by
  show decide (∃a',Value.ref a= .ref a'/\SqA H a' L)=_;rw [Bool.eq_iff_iff,decide_eq_true_eq,decide_eq_true_eq];exact⟨fun⟨a',z,h⟩=>by cases z;exact ha.val h,fun z=> ⟨a,rfl,z▸ha⟩⟩
 have hany:∀{qs:List Addr}{Ls:List (List (Int×Int))},Paired (SqA H) qs Ls->(qs.map Value.ref).any e=decide (L∈Ls):=fun{qs Ls} h=>by
  induction h with
  |nil=>rfl
  |cons r1 t1 ih=>
   rw [map_cons,any_cons,he _ _ r1,ih,Bool.eq_iff_iff,Bool.or_eq_true,decide_eq_true_eq,decide_eq_true_eq,decide_eq_true_eq,mem_cons];exact⟨fun z=>z.imp Eq.symm id,fun z=>z.imp Eq.symm id⟩
 refine SeqAt.in_listAt e pl.isList (fun y hy=> ?_) ⟨.bl _,H,I,rfl,?_⟩
 ·rw [List.mem_toArray]at hy;obtain⟨a,ha,rfl⟩:=mem_map.mp hy;obtain⟨i,hi⟩:=mem_iff_getElem?.mp ha;obtain⟨D,hD,hA⟩:=gN hP hi;rw [he a D hA];exact xA I (show X.A.units+1+2<cLine by omega) hA ht
 ·rw [show(qs.map Value.ref).toArray.any e=(qs.map Value.ref).any e by simp,hany hP];exact q
theorem A4p (hu:X.A.units+3<cLine):OpR X (compareOp .Eq) (fun x y H Q=> ∃p q ps qs Ls Ms,x= .ref p/\y= .ref q/\H p=some (.lst ((ps:List Addr).map V.ref))/\H q=some (.lst ((qs:List Addr).map V.ref))/\Paired (SqA H) ps Ls/\Paired (SqA H) qs Ms/\Q (.bl (decide (Ls=Ms))) H):=by
 intro pins s σ H x y v u Q I rx ry h;obtain⟨p,q,ps,qs,Ls,Ms,rfl,rfl,h1,h2,hP,hQ,hq⟩:=h;cases rx;cases ry;obtain⟨us,r1,p1,_⟩:=I.list (SqL.of (K:=X.K) h1);obtain⟨ws,r2,p2,_⟩:=I.list (SqL.of (K:=X.K) h2);have e1:=fP r1;have e2:=fP r2;subst e1 e2;have l1:ps.length=Ls.length:=Paired.length hP;have l2:qs.length=Ms.length:=Paired.length hQ;by_cases el:Ls.length=Ms.length
 ·have k:=SeqAt.RcAt.lists (A:=X.A) (s:=s) (e:=fun j=>decide (Ls.getD j []=Ms.getD j [])) p1.isList p2.isList (by simp [l1,l2,el]) (by omega) (fun j g1 g2=>by
   rw [size_toArray,length_map]at g1 g2;obtain⟨c,hc,he⟩:=gN hP (getElem?_eq_getElem g1);obtain⟨d,hd,he2⟩:=gN hQ (getElem?_eq_getElem g2);have ec:Ls.getD j []=c:=by rw [getD_eq_getElem?_getD,hc];rfl
   have ed:Ms.getD j []=d:=by rw [getD_eq_getElem?_getD,hd];rfl
   rw [ec,ed];have a1:(ps.map Value.ref).toArray[j]'(by rw [size_toArray,length_map];exact g1)=Value.ref ps[j]:=by simp
   have a2:(qs.map Value.ref).toArray[j]'(by rw [size_toArray,length_map];exact g2)=Value.ref qs[j]:=by simp
   rw [a1,a2];exact xA I (show X.A.units+1+2<cLine by omega) he he2)
  have e:=yY [] Ls Ms;rw [el,Nat.min_self,beq_self_eq_true,Bool.and_true]at e;rw [show(ps.map Value.ref).toArray.size=Ms.length by simp [l1,el],e]at k;exact k X.prog X.w X.xe _ ⟨.bl _,H,I,rfl,hq⟩
 ·rw [zjU (fun z=>el (congrArg List.length z))]at hq;exact SeqAt.RcAt.lists_lengths p1.isList p2.isList (by simp [l1,l2,el]) (by omega) X.prog X.w X.xe _ ⟨.bl _,H,I,rfl,hq⟩
theorem A76 (hu:X.A.units+1<cLine):OpR X (compareOp .NotEq) (fun x y H Q=> ∃p q xs,x= .ref p/\y= .ref q/\H p=some (.tup xs)/\H q=some (.tup [])/\Q (.bl (!xs.isEmpty)) H):=by
 intro pins s σ H x y v u Q I rx ry h;obtain⟨p,q,xs,rfl,rfl,h1,h2,hq⟩:=h;cases rx;cases ry;obtain⟨us,r1,p1,_⟩:=I.tuple (SqT.of (K:=X.K) h1);obtain⟨ws,r2,p2,_⟩:=I.tuple (SqT.of (K:=X.K) h2);have e2:ws=[]:=by cases r2;rfl
 subst e2;have l1:=r1.length;have k:=SeqAt.RcNeAt.tuples (A:=X.A) (s:=s) (e:=fun _=>true) p1 p2 (by omega) (fun j _ h2=>absurd h2 (by simp));have e:(!((List.range (min us.toArray.size ([]:List Value).toArray.size)).all (fun _=>true)&&us.toArray.size==([]:List Value).toArray.size))= !xs.isEmpty:=by
  cases xs with
  |nil=>cases us with|nil=>rfl|cons _ _=>simp at l1
  |cons _ _=>cases us with|nil=>simp at l1|cons _ _=>simp
 rw [e]at k;exact k X.prog X.w X.xe _ ⟨.bl _,H,I,rfl,hq⟩
end
end L2
namespace M07
open PySem L2 PyProof.Rows Grd Wlk Cyc Srt
theorem rN:bootBuiltins "any" =some (.builtin "any"):=by decide +kernel
theorem rS (l:List (Int×Int))(x:Int×Int):(l.map fun c=>decide (c=x)).any id=decide (x∈l):=by rw [Bool.eq_iff_iff,any_map];simp
def yN:Sp:=fun vs H Q _=> ∃t cs,vs=[.ref t]/\SqA H t cs/\cs.length<=10/\∀b H',Same H H'->xE cs b->Q (.bl b) H'
section
variable {P:Program}{w:World}{K:W.Frag}{mg:Str->Option Value}{base:Heap}
theorem A6f (F:D1 K mg "is_one_piece" yT ["land"])(a1:A1 P w K mg base 2 "piece_round" A0c):A1 P w K mg base 3 "is_one_piece" yN:=by
 refine F.k ["land"] ?_;ac_nf
 ·obtain⟨t,cs,rfl,hT,h10,q⟩:=h;obtain⟨ps,ht,hP⟩:=id hT;have hlen:ps.length=cs.length:=Paired.length hP;refine⟨_,aM (bA (fC (dD (A76 (lt_of_succ_lt (fB hr))) (pv 0) (cF aA) (nomark _)) (eZ (dD (vY (fB hr)) (a1.c hr (aB (pv 0) (fF (bK cA (pv 0) aO (fun _ _=>rfl)) aA))) (pv 0) (nomark _))))),?_⟩;refine⟨_,rfl,by show 0<=sizeLine;decide,fun z hz=> ?_⟩;have s1:=aQ (o:=.tup []) hz;refine⟨t,z,_,rfl,rfl,s1 _ _ ht,aG,_,rfl,?_⟩;cases hc:cs with
  |nil=>
   have e:ps=[]:=eq_nil_of_length_eq_zero (by rw [hlen,hc];rfl);subst e;exact q false _ s1 (.inl ⟨hc,rfl⟩)
  |cons c0 tl=>
   rw [hc]at hP;cases hP with
   |cons r0 t0=>
    rename_i p0 ps0;refine gB ?_;refine⟨_,rfl,_,rfl,t,_,0,.ref p0,rfl,rfl,SqT.of (s1 _ _ ht),cC (j:=0) rfl,?_⟩;refine⟨t,p0,cs,c0,rfl,hT.same s1,h10,s1 _ _ r0,by rw [hc];exact zjR,fun t' P0 H2 s2 hP0 p0=> ?_⟩;refine⟨_,rfl,t',t,P0,cs,rfl,rfl,hP0,hT.same (s1.trans s2),?_⟩;exact q _ H2 (s1.trans s2) (.inr ⟨c0,tl,P0,hc,p0,rfl⟩)
end
def cG (g:bF)(cs:List Pl):Int:=(cs.map (atG g)).sum
def eQ (g:bF)(c:Pl):Bool:=(beside c).any fun d=>decide (d∈bB road g)
def rC:Sp:=fun vs H Q _=> ∃a g w,vs=[.ref a]/\GridAt H a g/\cR g w/\∀H' l ps,H l=none->Same H H'->H' l=some (.lst ((ps:List Addr).map V.ref))->PlAt H' ps ((bB pos g).filter (eQ g))->Q (.ref l) H'
def yW:Sp:=fun vs H Q _=> ∃t l cs ps ds,vs=[.ref t,.ref l]/\SqA H t cs/\cs.length<=1000/\H l=some (.lst ((ps:List Addr).map V.ref))/\PlAt H ps ds/\∀H',Same H H'->Q (.bl (cs.any fun c=>decide (c∈ds))) H'
def yX:Sp:=fun vs H Q _=> ∃a t g w cs,vs=[.ref a,.ref t]/\GridAt H a g/\cR g w/\SqA H t cs/\LandOf g cs/\∀H',Same H H'->Q (.int (cG g cs)) H'
section
variable {P:Program}{w:World}{K:W.Frag}{mg:Str->Option Value}{base:Heap}
theorem A9o:(["cell","cells"]:List Str).Nodup:=by decide +kernel
theorem A5t (F:D1 K mg "has_some_of" rJ ["land","cells"])(T2:dY mg):A1 P w K mg base 1 "has_some_of" yW:=by
 refine F.k ["land","cells"] ?_;ac_nf
 ·obtain⟨t,lc,cs,qs,ds,rfl,⟨ps,ht,hP⟩,hz,hlc,hD,q⟩:=h;have hlen:ps.length=cs.length:=Paired.length hP;refine⟨_,aM (bA (bH (rG rfl) rfl T2.any rN (cM (bN (bE rJ).names ["land","cells"] ["cell"] [("cells",1)] rfl (cY (pv 0)) rfl rfl rfl (by decide +kernel)
   (fun Z=>nm1 0 A9o) (fun Z=>cB) (fun Z=>dD (pX 1 (fB hr)) (pv 0) (pv 1) rfl)) aA))),?_⟩
  refine⟨_,rfl,t,rfl,⟨_,SqT.of ht⟩,fun Z l hl=> ?_⟩;refine gE (K:=K) (a:=t) (xs:=ps.map V.ref) (fun i σ H'=>(∃o,σ=[o,some (.ref lc)])/\Same H H'/\H' l=some (.lst ((cs.take i).map fun c=>V.bl (decide (c∈ds))))) ⟨⟨_,rfl⟩,aQ hl,by rw [aG];rfl⟩ (fun i σ H' _ h=>SqT.of (h.2.1 _ _ ht)) ?_ ?_
  ·rintro i x σ H' hx ⟨⟨o,rfl⟩,hs,hl'⟩;obtain⟨p,hp,rfl⟩:=gA hx;obtain⟨c,hc,he⟩:=hP.at hp;have hi:i<cs.length:=(zjW.mp hc).1;show cK _ _ _ [some (.ref p),some (.ref lc)] H';refine⟨_,rfl,_,rfl,lc,_,_,rfl,.inr (hs _ _ hlc),jP (hs _ _ he) (hD.same hs),?_⟩;rw [rS];refine⟨_,hl',cH (by rw [length_map,length_take];omega),⟨_,rfl⟩,fun b' u e'=> ?_,?_⟩
   ·rw [aY (bL e' hl)];exact hs _ _ e'
   ·rw [aG,take_succ,hc,map_append];rfl
  ·rintro σ H' ⟨_,hs,hl'⟩;rw [length_map,hlen,take_of_length_le (zjQ _)]at hl';refine⟨l,cs.map fun c=>decide (c∈ds),rfl,SqL.of (by rw [hl',map_map];rfl),?_⟩;have e:(cs.map fun c=>decide (c∈ds)).any id=cs.any fun c=>decide (c∈ds):=by rw [any_map];rfl
   rw [e];exact q H' hs
theorem A6c:(["cell","roads"]:List Str).Nodup:=by decide +kernel
theorem A8s:(["place","roads"]:List Str).Nodup:=by decide +kernel
theorem A5c (F:D1 K mg "cells_at_road" pS ["mead"])(T2:dY mg)(a1:A1 P w K mg base 6 "roads_of" (eE road))(a2:A1 P w K mg base 6 "cells_of" (eE pos))(a3:A1 P w K mg base 1 "places_beside" qJ):A1 P w K mg base 7 "cells_at_road" rC:=by
 refine F.k ["mead","roads"] ?_;ac_nf
 ·obtain⟨a,g,w',rfl,hA,G,q⟩:=h;refine⟨_,aU (bQ (i:=1) nd rfl (Or.inr rfl) (a1.c hr (aB (pv 0) aA)))<|
   aM (bA (bN (bE pS).names ["mead","roads"] ["cell"] [("roads",1)] rfl (dN (a2.c hr (aB (pv 0) aA))) rfl rfl rfl (by decide +kernel)
    (fun Z=>nm1 0 A6c) (fun Z=>eT (bP (bH (rG rfl) rfl T2.any rN (cM (bN [(".0",.local),("cell",.local),("any",.globalImplicit),("places_beside",.globalImplicit),("roads",.cell)] ["cell","roads"] ["place"] [("roads",1)] rfl (dN (a3.c hr (aB (pv 0) aA))) rfl rfl rfl (by decide +kernel)
      (fun Z=>nm1 0 A8s) (fun Z=>cB) (fun Z=>dD (pX 1 (fB hr)) (pv 0) (pv 1) rfl)) aA)))) (fun Z=>pv 0))),?_⟩
  refine⟨_,rfl,a,g,w',rfl,hA,G,fun H1 lr rs hlr s1 hlr' hR=> ?_⟩;refine⟨_,rfl,a,g,w',rfl,hA.same s1,G,fun H2 lc cs hlc s2 hlc' hC=> ?_⟩;refine⟨lc,rfl,⟨_,SqL.of hlc'⟩,fun Z l hl=> ?_⟩;have hcl:cs.length=(bB pos g).length:=Paired.length hC;have h10:(bB pos g).length<=10:=by rw [fS];exact G.c10
  have hlr2:=s2 _ _ hlr';have hR2:=hR.same s2;refine gU (K:=K) (a:=lc) (xs:=cs.map V.ref) (fun i σ H'=>(∃o,σ=[o,some (.ref lr)])/\Same H2 H'/\∃ns,H' l=some (.lst ((ns:List Addr).map V.ref))/\PlAt H' ns (((bB pos g).take i).filter (eQ g))) ⟨⟨_,rfl⟩,aQ hl,[],by rw [aG];rfl,.nil⟩ (fun i σ H' _ h=>SqL.of (h.2.1 _ _ hlc')) ?_ ?_
  ·rintro i x σ H' hx ⟨⟨o,rfl⟩,hs,ns,hn,hN⟩;obtain⟨p,hp,rfl⟩:=gA hx;obtain⟨c,hc,he⟩:=hC.at hp;have hi:i<(bB pos g).length:=(zjW.mp hc).1;have hnl:ns.length<=10:=by
    have h1:ns.length=_:=Paired.length hN;have h2:=length_filter_le (eQ g) ((bB pos g).take i);rw [length_take]at h2;omega
   have et:((bB pos g).take (i+1)).filter (eQ g)=((bB pos g).take i).filter (eQ g)++(if eQ g c=true then [c]else []):=by
    rw [take_succ,hc,filter_append]
    congr 1
    cases e:eQ g c
    ·simp [e]
    ·simp [e]
   rw [et];show cK _ _ _ [some (.ref p),some (.ref lr)] H';refine⟨_,rfl,p,c,rfl,hs _ _ he,fun lb bs H3 hlb s3 hlb3 hB=> ?_⟩;have hb4:bs.length=(beside c).length:=Paired.length hB;refine⟨lb,rfl,⟨_,SqL.of hlb3⟩,fun Z l2 hl2=> ?_⟩;refine gU (K:=K) (a:=lb) (xs:=bs.map V.ref) (fun j σ H4=>(∃o,σ=[o,some (.ref lr)])/\Same H3 H4/\H4 l2=some (.lst (((beside c).take j).map fun d=>V.bl (decide (d∈bB road g))))) ⟨⟨_,rfl⟩,aQ hl2,by rw [aG];rfl⟩ (fun j σ H4 _ h=>SqL.of (h.2.1 _ _ hlb3)) ?_ ?_
   ·rintro j y σ H4 hy ⟨⟨o',rfl⟩,hs4,hl24⟩;obtain⟨b,hbj,rfl⟩:=gA hy;obtain⟨d,hd,hbd⟩:=hB.at hbj;have hj:j<4:=(zjW.mp hd).1;show cK _ _ _ [some (.ref b),some (.ref lr)] H4;refine⟨_,rfl,_,rfl,lr,_,_,rfl,.inr (hs4 _ _ (s3 _ _ (hs _ _ hlr2))),jP (hs4 _ _ hbd) (((hR2.same hs).same s3).same hs4),?_⟩;rw [rS];refine⟨_,hl24,cH (by rw [length_map,length_take];omega),⟨_,rfl⟩,fun b' u e'=> ?_,?_⟩
    ·rw [aY (bL e' hl2)];exact hs4 _ _ e'
    ·rw [aG,take_succ,hd,map_append];rfl
   ·rintro σ H4 ⟨_,hs4,hl24⟩;rw [length_map,hb4,take_of_length_le (zjQ _)]at hl24;refine⟨l2,(beside c).map fun d=>decide (d∈bB road g),rfl,SqL.of (by rw [hl24,map_map];rfl),_,rfl,?_⟩;have e:((beside c).map fun d=>decide (d∈bB road g)).any id=eQ g c:=by unfold eQ;rw [any_map];rfl
    rw [e];have s34:=s3.trans hs4;refine dC (fun z=> ?_) fun z=> ?_
    ·rw [if_pos z];have hn4:=s34 _ _ hn;refine⟨_,rfl,_,hn4,cH (by rw [length_map];omega),⟨_,rfl⟩,fun b' u e'=> ?_,ns++[p],?_,?_⟩
     ·rw [aY (bL e' hl)];exact s34 _ _ (hs _ _ e')
     ·rw [aG,map_append];rfl
     ·exact PlAt.snoc (Paired.mapP (hN.same s34) fun _ _ z=>PlA.put hn4 z) (PlA.put hn4 (s34 _ _ (hs _ _ he)))
    ·rw [if_neg (by rw [z];decide),append_nil];exact⟨⟨_,rfl⟩,hs.trans s34,ns,s34 _ _ hn,hN.same s34⟩
  ·rintro σ H' ⟨_,hs,ns,hn,hN⟩;rw [length_map,hcl,take_of_length_le (zjQ _)]at hN;exact q H' l ns (s1.free (s2.free hl)) ((s1.trans s2).trans hs) hn hN
theorem A54 {K:W.Frag}{a t l:Addr}{g:bF}{w':Nat}{cs:List Pl}{ps:List Addr}{H:Hp}{Q:VK}(hA:GridAt H a g)(G:cR g w')(ht:H t=some (.tup (ps.map V.ref)))(hP:PlAt H ps cs)(hL:LandOf g cs)(hl:H l=none)(q:∀H',Same H H'->Q (.int (cG g cs)) H'):
  cP (Itt K t) (iX K 2 (dX (cJ 0) (dX (cJ 1) iA))) (cK fL (dO l (tOp (hJ K) (tOp (hJ K) (cS 2) (cS 0)) (cS 1)))) (eC fun _ H'=> ∃(p:Addr)(ns:List Int),[V.ref l]=[.ref p]/\SqL K H' p (ns.map V.int)/\ns.length<=1000/\(∀n∈ns,-1000<=n/\n<=1000)/\Q (.int ns.sum) H') [none,none,some (.ref a)] (upd H l (.lst [])):=by
 have hpl:ps.length=cs.length:=Paired.length hP;have h10:=LandOf.len G hL;refine gE (K:=K) (a:=t) (xs:=ps.map V.ref) (fun i σ H'=>(∃o1 o2,σ=[o1,o2,some (.ref a)])/\Same H H'/\H' l=some (.lst (((cs.take i).map (atG g)).map V.int))) ⟨⟨_,_,rfl⟩,aQ hl,by rw [aG];rfl⟩ (fun i σ H' _ h=>SqT.of (h.2.1 _ _ ht)) ?_ ?_
 ·rintro i x σ H' hi ⟨⟨o1,o2,rfl⟩,hs,hl'⟩;obtain⟨p,hpi,rfl⟩:=gA hi;obtain⟨cc,hci,hpc⟩:=hP.at hpi;have hil:i<cs.length:=(zjW.mp hci).1;obtain⟨i',j',xs,n,rfl,hg,hx,hf⟩:=mem_gridF.mp (hL.subset (mem_of_getElem? hci));obtain⟨bs,b,h1,h2,h3,h4⟩:=(hA.same hs).ix hg hx;refine⟨p,_,rfl,SqT.of (hs _ _ hpc),rfl,_,_,rfl,_,_,rfl,rfl,?_⟩;refine fU ?_;refine⟨_,rfl,_,rfl,a,_,_,_,rfl,rfl,SqT.of h1,h2,_,rfl,b,_,_,_,rfl,rfl,SqT.of h3,h4,?_⟩;refine⟨_,hl',cH (by rw [length_map,length_map,length_take];omega),⟨_,_,rfl⟩,fun b' u e'=> ?_,?_⟩
  ·rw [aY (bL e' hl)];exact hs _ _ e'
  ·rw [aG,take_succ,hci,map_append,map_append];show some (HO.lst (_++[V.int n]))=some (HO.lst (_++[V.int (atG g ((i':Int),(j':Int)))]));rw [jJ hg hx]
 ·rintro σ H' ⟨_,hs,hl'⟩;rw [length_map,hpl,take_of_length_le (zjQ _)]at hl';refine⟨l,_,rfl,SqL.of hl',by rw [length_map];omega,fun n hn=> ?_,q H' hs⟩;obtain⟨c,hc,rfl⟩:=mem_map.mp hn;obtain⟨i',j',xs,n,rfl,hg,hx,hf⟩:=mem_gridF.mp (hL.subset hc);rw [jJ hg hx];have:=G.num xs (mem_of_getElem? hg) n (mem_of_getElem? hx);omega
theorem A1u (F:D1 K mg "worth_together" kN ["mead","places"])(T2:dY mg):A1 P w K mg base 1 "worth_together" yX:=by
 refine F.k ["mead","places"] ?_;ac_nf
 ·obtain⟨a,t,g,w',cs,rfl,hA,G,⟨ps,ht,hP⟩,hL,q⟩:=h;refine⟨_,aM (bA (bH (A0a rfl) rfl T2.sum boot_sum (cM (bN (bE kN).names ["mead","places"] ["row","column"] [("mead",0)] rfl (cY (pv 1)) rfl rfl rfl (by decide +kernel)
    (fun Z=>bV rfl (aX (nm1 0 lZ) (aX (nm1 1 lZ) bW))) (fun Z=>cB) (fun Z=>bK cA (bK cA (pv 2) (pv 0) (fun _ _=>rfl)) (pv 1) (fun _ _=>rfl))) aA))),?_⟩
  refine⟨_,rfl,t,rfl,⟨_,SqT.of ht⟩,fun Z l hl=> ?_⟩;exact A54 hA G ht hP hL hl q
end
end M07
namespace Set4
open PySem PyProof.Rows
def L (b0 b1 b2 b3:Bool):List Nat:=(cond b0 [0] [])++((cond b1 [1] [])++((cond b2 [2] [])++(cond b3 [3] [])))
def aV (S:Nat->Bool):List Nat:=L (S 0) (S 1) (S 2) (S 3)
def ents (l:List Nat)(f:Nat->Value):Array (Int×Value):=(l.map fun k:Nat=>((k:Int),f k)).toArray
def tab (l:List Nat)(led:Bool):SetTable:={mask:=7,place:=l.toArray,dummies:=#[],finger:=0,led:=led,moves:=0,plain:=true}
def plus (S:Nat->Bool)(k:Nat):Nat->Bool:=fun j=>S j||decide (j=k)
def eO (f:Nat->Value)(k:Nat)(x:Value):Nat->Value:=fun j=>if j=k then x else f j
theorem A2p (b1 b2 b3 led:Bool)(f:Nat->Value)(x:Value):layNew (tab (L false b1 b2 b3) led) (ents (L false b1 b2 b3) f) ((0:Nat):Int) x=(ents (L true b1 b2 b3) (eO f 0 x),tab (L true b1 b2 b3) led,false,false):=by cases b1<;>cases b2<;>cases b3<;>kernel_rfl
theorem A9k (b0 b2 b3 led:Bool)(f:Nat->Value)(x:Value):layNew (tab (L b0 false b2 b3) led) (ents (L b0 false b2 b3) f) ((1:Nat):Int) x=(ents (L b0 true b2 b3) (eO f 1 x),tab (L b0 true b2 b3) led,false,false):=by cases b0<;>cases b2<;>cases b3<;>kernel_rfl
theorem A6r (b0 b1 b3 led:Bool)(f:Nat->Value)(x:Value):layNew (tab (L b0 b1 false b3) led) (ents (L b0 b1 false b3) f) ((2:Nat):Int) x=(ents (L b0 b1 true b3) (eO f 2 x),tab (L b0 b1 true b3) led,false,false):=by cases b0<;>cases b1<;>cases b3<;>kernel_rfl
theorem A4k (b0 b1 b2 led:Bool)(f:Nat->Value)(x:Value):layNew (tab (L b0 b1 b2 false) led) (ents (L b0 b1 b2 false) f) ((3:Nat):Int) x=(ents (L b0 b1 b2 true) (eO f 3 x),tab (L b0 b1 b2 true) led,false,false):=by cases b0<;>cases b1<;>cases b2<;>kernel_rfl
theorem A5v (S:Nat->Bool)(led:Bool)(f:Nat->Value)(x:Value)(k:Nat)(hk:k<4)(hs:S k=false):layNew (tab (aV S) led) (ents (aV S) f) (k:Int) x=(ents (aV (plus S k)) (eO f k x),tab (aV (plus S k)) led,false,false):=by
 unfold aV plus
 match k,hk with
 |0,_=>rw [hs];simpa using A2p (S 1) (S 2) (S 3) led f x
 |1,_=>rw [hs];simpa using A9k (S 0) (S 2) (S 3) led f x
 |2,_=>rw [hs];simpa using A6r (S 0) (S 1) (S 3) led f x
 |3,_=>rw [hs];simpa using A4k (S 0) (S 1) (S 2) led f x
theorem kE (b0 b1 b2 b3:Bool):(L b0 b1 b2 b3).length<=4:=by cases b0<;>cases b1<;>cases b2<;>cases b3<;>decide
theorem jC (l:List Nat)(f:Nat->Value):(ents l f).size=l.length:=by simp [ents]
theorem kW (S:Nat->Bool)(led:Bool)(f:Nat->Value):(tab (aV S) led).fits (ents (aV S) f).size=true:=by rw [jC];unfold aV;cases S 0<;>cases S 1<;>cases S 2<;>cases S 3<;>kernel_rfl
theorem A3x (S:Nat->Bool)(led:Bool):(tab (aV S) led).tooFull=false:=by unfold aV;cases S 0<;>cases S 1<;>cases S 2<;>cases S 3<;>kernel_rfl
theorem lX:k∈cond b [i] []↔b=true/\k=i:=by cases b<;>simp
theorem mem_mem4:k∈aV S↔k<4/\S k=true:=by
 unfold aV L;rw [mem_append,mem_append,mem_append,lX,lX,lX,lX];constructor
 ·rintro(⟨h,rfl⟩| ⟨h,rfl⟩| ⟨h,rfl⟩| ⟨h,rfl⟩)<;>exact⟨by decide,h⟩
 ·rintro⟨hk,hs⟩
  match k,hk with
  |0,_=>exact .inl ⟨hs,rfl⟩
  |1,_=>exact .inr (.inl ⟨hs,rfl⟩)
  |2,_=>exact .inr (.inr (.inl ⟨hs,rfl⟩))
  |3,_=>exact .inr (.inr (.inr ⟨hs,rfl⟩))
def cU (S:Nat->Bool)(f:Nat->Value)(led:Bool)(ep:Nat):Obj:={cls:=.type "set",dict:=none,data:=.set (ents (aV S) f) ep (tab (aV S) led)}
def IsS4 (h:Heap)(a:Addr)(S:Nat->Bool)(led:Bool):Prop:=∃f ep,(∀k,k<4->S k=true->∃t,f k=Value.int k t)/\h.get? a=some (cU S f led ep)
theorem uK (k:Nat)(hk:k<4):hashInt (k:Int)=(k:Int):=by
 match k,hk with
 |0,_=>rfl
 |1,_=>rfl
 |2,_=>rfl
 |3,_=>rfl
section
theorem A0i {S:Nat->Bool}{f:Nat->Value}(hf:∀k,k<4->S k=true->∃t,f k=Value.int k t):ElemsOf (intKind prog w) (ents (aV S) f).toList:=by
 intro e he;have he':e∈(aV S).map fun k:Nat=>((k:Int),f k):=by simpa [ents]using he
 obtain⟨k,hk,rfl⟩:=mem_map.mp he';obtain⟨h1,h2⟩:=mem_mem4.mp hk;obtain⟨t,ht⟩:=hf k h1 h2;refine⟨⟨(k:Int),?_,?_⟩,?_⟩
 ·show(intKind prog w).is (k:Int) (f k)=true;rw [ht];exact intKind_is _ _ _ _
 ·exact(uK k h1).symm
 ·show(f k).scannable=true;rw [ht];rfl
theorem A4s (hS:IsS4 s.heap a S led)(hk:k<4)(h:∀b h',Heap.SameBut a s.heap h'->IsS4 h' a (plus S k) led->Q b {s with heap:=h'}):
  wpAny (model prog w) A (setAddHashed a (.int (k:Int) t) (hashInt (k:Int))) Q E s:=by
 obtain⟨f,ep,hf,ho⟩:=hS;have hel:ElemsOf (intKind prog w) (ents (aV S) f).toList:=A0i hf;have hfit:=kW S led f;have hz:(ents (aV S) f).size<scanBound:=by
  rw [jC];have:=kE (S 0) (S 1) (S 2) (S 3);show(L (S 0) (S 1) (S 2) (S 3)).length<4096;omega
 have hd:(cU S f led ep).data= .set (ents (aV S) f) ep (tab (aV S) led):=rfl;have hkey:(intKind prog w).is (k:Int) (Value.int (k:Int) t)=true:=intKind_is _ _ _ _;unfold setAddHashed setAddHashedIn;refine wpAny_holding (zjZ (wpAny_setState_of ho hd hfit ?_));dsimp only
 rw [byScan_of (knd:=intKind prog w) rfl hz hel];simp only [↓reduceIte];unfold setAddByScan;refine zjZ (zjZ (wpAny_rule (zjZ (wpAny_setScan_of (knd:=intKind prog w) hkey ho hd hfit hel ?_))));cases hSk:S k with
 |true=>
  have:∃j,findIdx? (fun e=>(intKind prog w).is (k:Int) e.2) (ents (aV S) f).toList=some j:=by
   cases hr:findIdx? (fun e=>(intKind prog w).is (k:Int) e.2) (ents (aV S) f).toList with
   |some j=>exact⟨j,rfl⟩
   |none=>
    obtain⟨t',ht'⟩:=hf k hk hSk;have hm:((k:Int),f k)∈(ents (aV S) f).toList:=by
     have:((k:Int),f k)∈(aV S).map fun k:Nat=>((k:Int),f k):=mem_map.mpr ⟨k,mem_mem4.mpr ⟨hk,hSk⟩,rfl⟩;simpa [ents]using this
    have:=List.findIdx?_eq_none_iff.mp hr _ hm;rw [show(intKind prog w).is (k:Int) ((k:Int),f k).2=true by show(intKind prog w).is (k:Int) (f k)=true;rw [ht'];exact intKind_is _ _ _ _]at this;cases this
  obtain⟨j,hj⟩:=this;rw [hj];dsimp only
  refine zjY (zjY ?_);have eS:plus S k=S:=funext fun i=>by
   unfold plus;by_cases e:i=k
   ·subst e;simp [hSk]
   ·simp [e]
  exact h _ s.heap (Heap.SameBut.refl a s.heap) (by rw [eS];exact⟨f,ep,hf,ho⟩)
 |false=>
  have hr:findIdx? (fun e=>(intKind prog w).is (k:Int) e.2) (ents (aV S) f).toList=none:=by
   rw [List.findIdx?_eq_none_iff];intro e he;have he':e∈(aV S).map fun k:Nat=>((k:Int),f k):=by simpa [ents]using he
   obtain⟨i,hi,rfl⟩:=mem_map.mp he';obtain⟨h1,h2⟩:=mem_mem4.mp hi;obtain⟨t',ht'⟩:=hf i h1 h2;cases z:(intKind prog w).is (k:Int) (((i:Int),f i).2)with
   |false=>rfl
   |true=>
    have z':(intKind prog w).is (k:Int) (Value.int (i:Int) t')=true:=by rw [←ht'];exact z
    have:=(intKind prog w).inj _ _ _ z' (intKind_is _ _ _ _);have e:k=i:=by omega
    subst e;rw [hSk]at h2;cases h2
  rw [hr];dsimp only
  rw [uK k hk,A5v S led f _ k hk hSk];dsimp only
  refine zjZ (zjY ?_);have hS2:∀ep',∀h',h'.get? a=some (cU (plus S k) (eO f k (.int (k:Int) t)) led ep')->IsS4 h' a (plus S k) led:=fun ep' h' g=> ⟨_,ep',fun i hi hp=>by
   unfold eO;by_cases e:i=k
   ·rw [if_pos e,e];exact⟨t,rfl⟩
   ·rw [if_neg e];unfold plus at hp;exact hf i hi (by simpa [e]using hp),g⟩
  rw [show(tab (aV (plus S k)) led).plain=true from rfl];simp only [↓reduceIte];rw [hashByValue_scannable 8 (x:=Value.int (k:Int) t) rfl];refine zjZ (zjY ?_);rw [show plainKind (Value.int (k:Int) t)=true from rfl];simp only [↓reduceIte];have hz2:(ents (aV (plus S k)) (eO f k (.int (k:Int) t))).size<=sizeLine:=by
   rw [jC,sizeLine_eq];have:=kE (plus S k 0) (plus S k 1) (plus S k 2) (plus S k 3);show(L (plus S k 0) (plus S k 1) (plus S k 2) (plus S k 3)).length<=_;omega
  refine zjZ (wpAny_storeSet_of ho hd ?_ hz2);rw [A3x];simp only [Bool.and_false,Bool.false_eq_true,↓reduceIte];refine zjY (zjY ?_);have hg:(s.heap.update a (Obj.putSet (ents (aV (plus S k)) (eO f k (.int (k:Int) t))) (tab (aV (plus S k)) led))).get? a=some (cU (plus S k) (eO f k (.int (k:Int) t)) led (ep+1)):=by
   have:=get?_update_self (Obj.putSet (ents (aV (plus S k)) (eO f k (.int (k:Int) t))) (tab (aV (plus S k)) led)) ho (by rw [putSet_of _ _ hd];rfl);rw [putSet_of _ _ hd]at this;exact this
  exact h _ _ (Heap.SameBut.update s.heap a _) (hS2 _ _ hg)
end
def acc (val:Nat->Nat):Nat->Nat->Bool
 |0=>fun _=>false
 |i+1=>plus (acc val i) (val i)
theorem sF (val:Nat->Nat)(k:Nat):∀i,acc val i k=true↔ ∃j,j<i/\val j=k
 |0=>by simp [acc]
 |i+1=>by
  show plus (acc val i) (val i) k=true↔_;unfold plus;rw [Bool.or_eq_true,sF val k i,decide_eq_true_eq];constructor
  ·rintro(⟨j,h1,h2⟩|h)
   ·exact⟨j,by omega,h2⟩
   ·exact⟨i,by omega,h.symm⟩
  ·rintro⟨j,h1,h2⟩;by_cases e:j=i
   ·right;rw [←h2,e]
   ·exact .inl ⟨j,by omega,h2⟩
theorem IsS4.at (x:IsS4 h a S led)(e:∀o,h.get? a=some o->h'.get? a=some o):IsS4 h' a S led:=let ⟨f,ep,hf,ho⟩:=x;⟨f,ep,hf,e _ ho⟩
section
variable {St:Nat->Shared->Prop}
theorem A73 (W:WalksS prog w A.in1 I fp wr G n P St)(D:Addr)(hD:D∉fp)(val:Nat->Nat)(hv:∀i v,P i v->∃t,v= .int (val i:Int) t)(h4:∀i,i<n->val i<4):∀(k i:Nat)(s:Shared),n - i=k->i<=n->St i s->IsS4 s.heap D (acc val i) led->
  (∀s',Moved (D::wr) G s s'->IsS4 s'.heap D (acc val n) led->R (.ok (.ret .none)) s')->codeAny (model prog w) A (.builtin "set.update.loop" ⟨[.ref D,.ref I],[]⟩) R s:=by
 have nw:D∉wr:=fun h=>hD (W.sub _ h);have sub:∀b∈wr,b∈D::wr:=fun b hb=>zjS _ hb;intro k
 induction k with
 |zero=>
  intro i s hk hi st hS hR;obtain rfl:i=n:=by omega
  refine codeAny_builtin F.entry_set_update_loop ?_;rw [Around.under_plainId F.plain_set_update_loop _];show wpAny _ A.in1 (pyNext (.ref I)>>=_) _ _ s;refine zjZ (W.done s _ _ st fun s' hm=> ?_);show wpAny _ A.in1 (ret Value.none) _ _ s';exact zjY (hR s' (hm.mono sub) (hS.at fun o e=>hm.heap D _ nw e))
 |succ k ih=>
  intro i s hk hi st hS hR;have hlt:i<n:=by omega
  refine codeAny_builtin F.entry_set_update_loop ?_;rw [Around.under_plainId F.plain_set_update_loop _];show wpAny _ A.in1 (pyNext (.ref I)>>=_) _ _ s;refine zjZ (W.item i s _ _ hlt st fun v s' hP st' hm=> ?_);obtain⟨t,rfl⟩:=hv i v hP;show wpAny _ A.in1 (holding [Value.int (val i:Int) t] (setAdd D (.int (val i:Int) t))>>=_) _ _ s';refine zjZ (wpAny_holding ?_);unfold setAdd;refine wpAny_holding ?_;refine zjZ ((intKind prog w).pyHash (k:=(val i:Int)) (intKind_is _ _ _ _) ?_);refine A4s (s:={s' with toks:=s'.toks+1}) (hS.at fun o e=>hm.heap D _ nw e) (h4 i hlt) fun b h' hsb hS2=> ?_;refine zjY ⟨plainId_quiet F.plain_set_update_loop _,ih (i+1) _ (by omega) hlt (W.frame _ s' _ _ st' (le_succ _) fun b hb o e=> ?_) hS2 fun s'' hm'' hS''=> ?_⟩
  ·rw [hsb.2 b (fun h:b=D=>hD (by rw [←h];exact hb))];exact e
  ·refine hR s'' (Moved.trans W.gtrans ((hm.mono sub).then_heap (le_succ _) fun b o hb e=> ?_) hm'') hS'';rw [hsb.2 b (fun h:b=D=>hb (by rw [h];exact zjR))];exact e
end
section
def byT (w:World):Bool:=w.params.followText "set-order"
theorem A35 (a:Value)(h:Q₁ (.ref s.heap.objs.size) {s with heap:=s.heap.push (cU (fun _=>false) (fun _=> .none) (!byT w) 0)}):
  codeAny (model prog w) A (.call (.builtin "set.__new__") ⟨[.type "set",a],[]⟩) (wants Q₁ E) s:=by
 refine codeAny_of_tree ?_
 show wpAny _ A.in1 (do checkBuiltinCall "set.__new__" ⟨[.type "set",a],[]⟩;again (.builtin "set.__new__" ⟨[.type "set",a],[]⟩)) _ _ s;refine zjZ (wpAny_of_eq (PySem.F.newCall_set_1 a) (zjY ⟨plainId_quiet PySem.F.plain_set_new _,codeAny_builtin PySem.F.entry_set_new ?_⟩));rw [Around.under_plainId PySem.F.plain_set_new _];unfold Builtin.«set.__new__» Builtin.Frozenset.newClass;have hsub:=PySem.sub_set_self;obtain⟨hp,g,d,tk,os⟩:=s;dsimp only;wp_walk;refine wpAny_askSetting (zjY ?_);dsimp only;simp only [newObj];refine zjZ (wpAny_alloc (zjY ?_));exact zjY h
theorem A60 (hh:A.handled=none)(hl:s.heap.IsList l items)(hv:∀(i:Nat)(v:Value),items[i]?=some v->∃t,v= .int (val i:Int) t)(h4:∀i,i<items.size->val i<4)
  (h:∀(h':Heap)(tk:Nat),IsS4 h' s.heap.objs.size (acc val items.size) (!byT w)->(∀b o,b<s.heap.objs.size->s.heap.get? b=some o->h'.get? b=some o)->Q (.ref s.heap.objs.size) {s with heap:=h',toks:=tk}):
  wpAny (model prog w) A (call (.type "set") [.ref l]) Q E s:=by
 obtain⟨c,tl,hmro⟩:=PySem.F.called_set.mro;have hmade:=PySem.F.called_set.made;have hsub:=PySem.F.called_set.sub;refine wpAny_call (codeAny_of_tree ?_);show wpAny _ _ (callAny (.type "set") _) _ _ _;refine zjY ⟨Code.quiet_builtin _ (by decide +kernel),codeAny_builtin PySem.F.entry_type_call ?_⟩;rw [Around.under_plain (weight_type_call_type "set" [.ref l] []) rfl];have h1:=PySem.F.called_set.notType;have h2:=PySem.F.called_set.canCreate;have hct:=PySem.F.typeCall_set_1 (.ref l)
 repeat (any_goals (first|assumption|wp_step))
 refine codeAny_mono (A35 (.ref l) (E:=E) (Q₁:=fun obj s₁=>obj= .ref s.heap.objs.size/\s₁={s with heap:=s.heap.push (cU (fun _=>false) (fun _=> .none) (!byT w) 0)}) ⟨rfl,rfl⟩) fun r s₁ hr=> ?_;cases r with
 |error e=>exact hr
 |ok fl=>
  cases fl with
  |ret obj=>
   obtain⟨rfl,rfl⟩:=hr;have hS:(s.heap.push (cU (fun _=>false) (fun _=> .none) (!byT w) 0)).get? s.heap.objs.size=some (cU (fun _=>false) (fun _=> .none) (!byT w) 0):=get?_push_size _ rfl;have hT:Shared.TypeIs {s with heap:=s.heap.push (cU (fun _=>false) (fun _=> .none) (!byT w) 0)} (.ref s.heap.objs.size) "set":=⟨_,hS,rfl⟩;have hli:=PySem.F.called_set.init.lookup;have hbi:=PySem.F.called_set.init.bind (.ref s.heap.objs.size)
   repeat (any_goals (first|assumption|wp_step))
   refine codeAny_mono (codeAny_call_builtin (R:=wants (fun r s₂=>r= .none/\∃h' tk,s₂={s with heap:=h',toks:=tk}/\IsS4 h' s.heap.objs.size (acc val items.size) (!byT w)/\
     (∀b o,b<s.heap.objs.size->s.heap.get? b=some o->h'.get? b=some o)) E) PySem.F.called_set.init.plain PySem.F.entry_set_init (check_set_init_1 hT ?_)) fun r₂ s₂ hr₂=> ?_
   ·obtain⟨ol,hol,hcl,nl,hdl⟩:=hl;obtain⟨ocls,odict,odata,oslots⟩:=ol;simp only at hcl hdl;subst hcl;subst hdl;have hol':(s.heap.push (cU (fun _=>false) (fun _=> .none) (!byT w) 0)).get? l=some {cls:=.type "list",dict:=odict,data:=.seq items nl,slots:=oslots}:=zjX _ hol;have hsls:=PySem.F.sub_list_set;have hslf:=PySem.F.sub_list_frozenset;have hne:(Value.type "list" ==Value.type "dict")=false:=by decide
    have hl1:(s.heap.push (cU (fun _=>false) (fun _=> .none) (!byT w) 0)).IsList l items:=⟨_,hol',rfl,nl,rfl⟩;unfold Builtin.«set.__init__» noKeywords Builtin.Frozenset.updateFrom;generalize hPI:pyIter=PI
    wp_walk
    subst hPI;refine wpAny_pyIter_list hl1 ?_;refine zjZ (wpAny_runValue ?_);have hlS:l<s.heap.objs.size:=zjT hol;have hh3:A.in1.in1.in1.handled=none:=by simp [hh]
    have hneI:l≠(s.heap.push (cU (fun _=>false) (fun _=> .none) (!byT w) 0)).objs.size:=by rw [size_push];exact ne_of_lt (lt_succ_of_lt hlS)
    have hSf:s.heap.objs.size∉[(s.heap.push (cU (fun _=>false) (fun _=> .none) (!byT w) 0)).objs.size,l]:=by
     rw [size_push];intro hm;rcases mem_cons.mp hm with e|e
     ·exact absurd e (ne_of_lt (lt_succ_self _))
     ·exact absurd (mem_singleton.mp e) (ne_of_gt hlS)
    refine A73 ((Walks.list hh3 _ l hneI items).toS) s.heap.objs.size hSf val hv h4 (items.size - 0) 0 _ (by omega) (zero_le _) ⟨⟨_,get?_push_size _ rfl,rfl,rfl⟩,(hl1.push _)⟩ (show IsS4 _ _ (fun _=>false) (!byT w)from⟨fun _=> .none,0,(fun k _ z=>absurd z (by simp)),zjX _ hS⟩) ?_;intro s' hm hS';obtain⟨h',g',d',tk',os'⟩:=s';have eg:g'=s.gens:=hm.gens;have ed:d'=s.drawn:=hm.drawn;have eo:os'=s.os:=hm.os;subst eg;subst ed;subst eo;show wpAny _ _ _ _ _ _;refine zjY ?_;show wpAny _ _ (ret Value.none) _ _ _;refine zjY ⟨rfl,h',tk',rfl,hS',fun b o hb e=> ?_⟩;refine hm.heap b o (fun hmm=> ?_) (zjX _ (zjX _ e));rcases mem_cons.mp hmm with z|z
    ·exact ne_of_lt hb z
    ·rw [size_push]at z;exact ne_of_lt (lt_succ_of_lt hb) (mem_singleton.mp z)
   ·cases r₂ with
    |error e=>exact hr₂
    |ok fl₂=>
     cases fl₂ with
     |ret r=>
      obtain⟨rfl,h',tk,rfl,hS',hk'⟩:=hr₂
      repeat (any_goals (first|assumption|wp_step))
      exact h _ _ hS' hk'
     |_=>exact hr₂.elim
  |_=>exact hr.elim
end
theorem sR:∀(l:List α)(i:Nat)(h:i<l.length),(l[i]::l.eraseIdx i).Perm l
 | [],i,h=>by simp at h
 |x::l,0,h=>List.Perm.refl _
 |x::l,i+1,h=>by
  have ih:=sR l i (by simpa using h);show(l[i]'(by simpa using h)::x::l.eraseIdx i).Perm (x::l);exact(List.Perm.swap _ _ _).trans (ih.cons x)
theorem vR (next:Nat->Nat):∀(fuel k:Nat)(left:List α)(out:Array α),left.length=fuel->(pickOrder.go next fuel k left out).toList.Perm (out.toList++left)
 |0,k,left,out,h=>by
  cases left with
  |nil=>unfold pickOrder.go;simp
  |cons _ _=>simp at h
 |fuel+1,k,left,out,h=>by
  have hl:next k%left.length<left.length:=mod_lt _ (by omega);unfold pickOrder.go;rw [getElem?_eq_getElem hl];have ih:=vR next fuel (k+1) (left.eraseIdx (next k%left.length)) (out.push left[next k%left.length]) (by rw [List.length_eraseIdx_of_lt hl];omega);refine ih.trans ?_;rw [Array.toList_push,append_assoc];exact List.Perm.append_left _ (sR _ _ hl)
theorem A3d (next:Nat->Nat)(xs:Array α):(pickOrder next xs).toList.Perm xs.toList:=by have:=vR next xs.size 0 xs.toList #[] (by simp);unfold pickOrder;simpa using this
def slot (S:Nat->Bool)(i:Nat):Nat:=if i=0 then 0 else(aV S).getD (i - 1) 0+1
theorem A5u (S:Nat->Bool)(i:Nat)(hi:i<=(aV S).length):SetTable.below (aV S).toArray (slot S i)=i:=by
 have key:∀b0 b1 b2 b3:Bool,∀i,i<5->i<=(L b0 b1 b2 b3).length->SetTable.below (L b0 b1 b2 b3).toArray (if i=0 then 0 else(L b0 b1 b2 b3).getD (i - 1) 0+1)=i:=by decide +kernel
 have:=kE (S 0) (S 1) (S 2) (S 3);exact key (S 0) (S 1) (S 2) (S 3) i (by unfold aV at hi;omega) hi
def ord (w:World)(a:Addr)(S:Nat->Bool)(f:Nat->Value)(ep:Nat):List Value:=((if byT w=true then pickOrder (w.params.setOrder a ep) (ents (aV S) f)else ents (aV S) f).toList).map (·.2)
theorem sZ (w:World)(a:Addr)(S:Nat->Bool)(f:Nat->Value)(ep:Nat):(ord w a S f ep).Perm ((aV S).map f):=by
 have e:(ents (aV S) f).toList.map (·.2)=(aV S).map f:=by simp [ents,Function.comp_def]
 unfold ord;by_cases h:byT w=true
 ·rw [if_pos h,←e];exact(A3d _ _).map _
 ·rw [if_neg h,e]
def nslot (w:World)(S:Nat->Bool)(i:Nat):Nat:=if byT w=true then 0 else slot S i
section
theorem uR (ho:s.heap.get? a=some (cU S f (!byT w) ep))(hi:i<=(aV S).length)(h:Q (((ord w a S f ep)[i]?).map fun v=>(v,nslot w S (i+1))) s):
  wpAny (model prog w) A (setNext a (nslot w S i) i ep) Q E s:=by
 have hd:(cU S f (!byT w) ep).data= .set (ents (aV S) f) ep (tab (aV S) (!byT w)):=rfl;have hf:=kW S (!byT w) f;unfold setNext setsByText;refine zjZ (wpAny_setState_of ho hd hf ?_);dsimp only
 refine zjZ (zjZ (wpAny_askSetting (zjY ?_)));show wpAny _ _ (if byT w=true then _ else _) _ _ _;unfold ord nslot at h;unfold nslot;by_cases hb:byT w=true
 ·rw [if_pos hb]at h⊢;rw [if_pos hb]at h;rw [if_pos hb];rw [if_neg (by simp)];refine zjZ ?_;unfold setWalk setsByText;refine zjZ ((wpAny_setState_of ho hd hf ?_));dsimp only
  refine zjZ (zjZ (wpAny_askSetting (zjY ?_)));show wpAny _ _ (if byT w=true then _ else _) _ _ _;rw [if_pos hb];refine zjZ (wpAny_askSetting (zjY ?_));refine zjY ?_;rw [getElem?_map,Array.getElem?_toList,Option.map_map]at h;exact h
 ·rw [if_neg hb]at h⊢;rw [if_neg hb]at h;rw [if_neg hb];have hb':byT w=false:=by simpa using hb
  show wpAny _ _ (if (!true&&decide ((ents (aV S) f).size>1))=true then _ else _) _ _ _;rw [if_neg (by simp)];show wpAny _ _ ((if (!(!byT w)&& !(ents (aV S) f).isEmpty)=true then unsupported "set:maker-not-led" else pure ())>>=_) _ _ _;rw [hb',if_neg (by simp)];refine zjZ (zjY (zjY ?_));show Q (match (ents (aV S) f)[SetTable.below (aV S).toArray (slot S i)]?,(aV S).toArray[SetTable.below (aV S).toArray (slot S i)]? with|some (_,x),some j=>some (x,j+1)|_,_=>none) s;rw [A5u S i hi];rw [getElem?_map,Array.getElem?_toList]at h;by_cases hl:i<(aV S).length
  ·have e1:(ents (aV S) f)[i]?=some (((aV S)[i]:Int),f (aV S)[i]):=by simp [ents,hl]
   have e2:(aV S).toArray[i]?=some (aV S)[i]:=by simp [hl]
   rw [e1]at h⊢;rw [e2];have e3:slot S (i+1)=(aV S)[i]+1:=by unfold slot;rw [if_neg (by omega)];simp [hl]
   rw [e3]at h;exact h
  ·have e1:(ents (aV S) f)[i]?=none:=by simp [ents];omega
   rw [e1]at h⊢;exact h
end
abbrev mV (h:Heap)(I a:Addr)(sl i n ep:Nat):Prop:=h.get? I=some {cls:=.type "set_iterator",dict:=none,data:=.fields #[.int sl 0,.int i 0,.ref a,.int n 0,.int ep 0],slots:=#[]}
theorem slot_next:Slot "set_iterator" "__next__" "set_iterator.__next__":=.of (owner:="set_iterator") (n:="__next__") (by rw [typeLookup_type,builtinLookup_eq_fast];kernel_rfl) (by decide +kernel) (by decide +kernel) (by decide +kernel) (by first|exact .inl (by decide +kernel)|exact .inr (by decide +kernel)) (by rw [isSubtype_type];kernel_rfl)
theorem sC:Slot "set_iterator" "__iter__" "set_iterator.__iter__":=.of (owner:="set_iterator") (n:="__iter__") (by rw [typeLookup_type,builtinLookup_eq_fast];kernel_rfl) (by decide +kernel) (by decide +kernel) (by decide +kernel) (by first|exact .inl (by decide +kernel)|exact .inr (by decide +kernel)) (by rw [isSubtype_type];kernel_rfl)
theorem zJ:entryFor table "set_iterator.__next__" =some Builtin.«set_iterator.__next__»:=entryFor_of_tree (by kernel_rfl)
theorem A7l:entryFor table "set_iterator.__iter__" =some Builtin.«dict_keyiterator.__iter__»:=entryFor_alias (id':="dict_keyiterator.__iter__") (by kernel_rfl) rfl (by decide +kernel) (by kernel_rfl)
theorem A4d:entryFor table "set.__iter__" =some Builtin.«frozenset.__iter__»:=entryFor_alias (id':="frozenset.__iter__") (by kernel_rfl) rfl (by decide +kernel) (by kernel_rfl)
theorem yI (a:Value):argsOk "set_iterator.__next__" ⟨[a],[]⟩:=by unfold argsOk;kernel_rfl
theorem A69 (a:Value):argsOk "set_iterator.__iter__" ⟨[a],[]⟩:=by unfold argsOk;kernel_rfl
theorem lP (w:World)(a:Addr)(S:Nat->Bool)(f:Nat->Value)(ep:Nat):(ord w a S f ep).length=(aV S).length:=by rw [(sZ w a S f ep).length_eq,length_map]
section
theorem A3a (ho:s.heap.get? a=some (cU S f (!byT w) ep))
  (h:Q (.ref s.heap.objs.size) {s with heap:=s.heap.push {cls:=.type "set_iterator",data:=.fields #[.int 0 0,.int 0 0,.ref a,.int (aV S).length 0,.int ep 0]}}):wpAny (model prog w) A (pyIter (.ref a)) Q E s:=by
 have hd:(cU S f (!byT w) ep).data= .set (ents (aV S) f) ep (tab (aV S) (!byT w)):=rfl;have hf:=kW S (!byT w) f;have hT:s.TypeIs (.ref a) "set":=⟨_,ho,rfl⟩;refine wpAny_pyIter_slot hT PySem.F.slot_set_iter (wpAny_call_entry PySem.F.slot_set_iter hT A4d ?_ (PySem.F.args_set_iter_1 _));unfold Builtin.«frozenset.__iter__»;refine zjZ (zjY ?_);unfold Builtin.Frozenset.sizeOf;refine zjZ (zjZ (wpAny_setEntries_of ho hd hf (zjY ?_)));refine zjZ ?_;unfold setDrawn setsByText;refine zjZ (wpAny_setState_of ho hd hf ?_);dsimp only
 refine zjZ (zjZ (wpAny_askSetting (zjY ?_)));refine zjY ?_;show wpAny _ _ (if (!byT w&&(!true&&decide ((ents (aV S) f).size>1)))=true then _ else _) _ _ _;rw [if_neg (by simp)];refine zjZ (zjY ?_);unfold setEpoch;refine zjZ (zjZ (wpAny_setState_of ho hd hf (zjY ?_)));unfold newFields;refine zjZ (wpAny_newObj_type (zjY ⟨_,rfl,"set_iterator",_,⟨_,get?_push_size _ rfl,rfl⟩,slot_next.lookup,?_⟩) (by simp [sizeOk,sizeLine_eq]));rw [jC];exact h
theorem A86 (hh:A.handled=none)(I a:Addr)(hne:a≠I)(S:Nat->Bool)(f:Nat->Value)(ep:Nat):
  Walks prog w A I [I,a] [I] (aV S).length (fun i v=>(ord w a S f ep)[i]?=some v) (fun i h=>mV h I a (nslot w S i) i (aV S).length ep/\h.get? a=some (cU S f (!byT w) ep))where
 sub:=fun b hb=>by simp at hb;simp [hb]
 frame:=fun _ _ _ st hk=> ⟨hk I (by simp) _ st.1,hk a (by simp) _ st.2⟩
 item:=fun i s Q E hi st hQ=>by
  obtain⟨hit,ho⟩:=st;have hd:(cU S f (!byT w) ep).data= .set (ents (aV S) f) ep (tab (aV S) (!byT w)):=rfl;have hf:=kW S (!byT w) f;have hT:s.TypeIs (.ref I) "set_iterator":=⟨_,hit,rfl⟩;have hlt:i<(ord w a S f ep).length:=by rw [lP];exact hi
  unfold pyNext;refine zjZ (wpAny_attempt (wpAny_callSpecial?_slot (name:=Str.ofString "__next__") hT slot_next (wpAny_call_entry slot_next hT zJ ?_ (yI _))));unfold Builtin.«set_iterator.__next__»;refine zjZ (zjY ?_);refine zjZ (wpAny_fieldsOf hit rfl ?_);refine zjZ (wpAny_setEntries_of ho hd hf ?_);rw [if_neg (by rw [jC];simp)];refine zjZ (uR (i:=i) (ep:=ep) ho (le_of_lt hi) ?_);rw [getElem?_eq_getElem hlt];refine zjZ (wpAny_setField_rec hit (by simp) fun h1 g1 s1=> ?_);refine zjZ (wpAny_setField_rec g1 (by simp) fun h2 g2 s2=> ?_);refine zjY ⟨_,rfl,zjY ?_⟩;refine hQ _ h2 s.toks (getElem?_eq_getElem hlt) ⟨?_,?_⟩ fun b o hb e=> ?_
  ·have e:((i+1:Nat):Int)=(i:Int)+1:=by omega
   unfold mV;rw [e];simpa [rawInt]using g2
  ·exact(s2.2 a hne).trans ((s1.2 a hne).trans ho)
  ·have:b≠I:=fun z=>hb (by simp [z]);exact(s2.2 b this).trans ((s1.2 b this).trans e)
 done:=fun s Q E st hQ=>by
  obtain⟨hit,ho⟩:=st;have hd:(cU S f (!byT w) ep).data= .set (ents (aV S) f) ep (tab (aV S) (!byT w)):=rfl;have hf:=kW S (!byT w) f;have hT:s.TypeIs (.ref I) "set_iterator":=⟨_,hit,rfl⟩;unfold pyNext;refine zjZ (wpAny_attempt (wpAny_callSpecial?_slot (name:=Str.ofString "__next__") hT slot_next (wpAny_call_entry slot_next hT zJ ?_ (yI _))));unfold Builtin.«set_iterator.__next__»;refine zjZ (zjY ?_);refine zjZ (wpAny_fieldsOf hit rfl ?_);refine zjZ (wpAny_setEntries_of ho hd hf ?_);rw [if_neg (by rw [jC];simp)];refine zjZ (uR (i:=(aV S).length) (ep:=ep) ho (zjQ _) ?_);rw [List.getElem?_eq_none (by rw [lP];exact zjQ _)];refine zjZ (wpAny_setField hit rfl (by simp) ?_);show wpAny _ _ (newExc (.type "StopIteration") []>>=_) _ _ _;refine zjZ ?_;simp only [newExc,newTuple];refine zjZ (wpAny_newObj_type ?_ (by size_fits));refine zjZ (m:=firstArgMember _ _) (wpAny_of_eq (a:=Value.none) (by first|rfl| (simp only [firstArgMember];rfl)) ?_);refine wpAny_newObj_type ?_ (by size_fits);simp only [raiseNew];refine zjZ (wpAny_handled ?_);rw [show A.in1.handled=none from hh];refine zjZ (zjY (wpAny_throw ?_));refine zjZ (wpAny_isInstance (T:="StopIteration") (b:=true) ⟨_,get?_push_size _ rfl,rfl⟩ isSubtype_stop ?_);have go:∀h':Heap,Heap.ExtBut I s.heap h'->Q none {s with heap:=h',toks:=s.toks}:=fun h' hx=>hQ h' s.toks fun b o hb e=>hx b o (fun z=>hb (by simp [z])) e;exact zjY (go _ (((Heap.SameBut.update ..).extBut.push _).push _))
 self:=fun i s Q E st hQ=>by
  have hT:s.TypeIs (.ref I) "set_iterator":=⟨_,st.1,rfl⟩;refine wpAny_pyIter_slot hT sC (wpAny_call_entry sC hT A7l ?_ (A69 _));show wpAny _ _ (ret (.ref I)) _ _ s;exact zjY ⟨_,rfl,"set_iterator",_,hT,slot_next.lookup,hQ⟩
end
section
theorem A5k (hT:s.TypeIs (.ref a) "set")(h:Q false s):wpAny (model prog w) A (Builtin.List.listLengthHint (.ref a)) Q E s:=by
 unfold Builtin.List.listLengthHint;refine zjZ (wpAny_specialOf hT PySem.F.slot_set_len.lookup ?_)
 show wpAny _ _ (do if !(←isInstance (.ref a) (.type "set"))then unsupported _ else pure ()
                    let .ref _←typeOf (.ref a)|return false
                    _) _ _ _
 refine zjZ (wpAny_isInstance hT sub_set_self ?_);simp only [Bool.not_true,Bool.false_eq_true,if_false];refine zjZ (wpAny_typeOf hT ?_);exact zjY h
theorem A7k (hh:A.handled=none)(ho:s.heap.get? a=some (cU S f (!byT w) ep))
  (h:∀h1 tk,(∀b o,s.heap.get? b=some o->h1.get? b=some o)->s.heap.objs.size<=h1.objs.size->Q (ord w a S f ep) {s with heap:=h1,toks:=tk}):wpAny (model prog w) A (collect (.ref a)) Q E s:=by
 have la:a<s.heap.objs.size:=zjT ho;unfold collect;refine zjZ (wpAny_runValue (codeAny_builtin PySem.F.entry_proto_collect ?_));rw [Around.under_plainId PySem.F.plain_proto_collect _];show wpAny _ A.in1 (newList []>>=fun l=>again (.builtin "list.__iadd__" ⟨[l,.ref a],[]⟩)) _ _ s;refine zjZ (wpAny_newObj_type (zjY ⟨plainId_quiet PySem.F.plain_list_iadd _,codeAny_builtin PySem.F.entry_list_iadd ?_⟩));rw [Around.under_plainId PySem.F.plain_list_iadd _];generalize hg1:s.heap.push {cls:=.type "list",data:=.seq ([]:List Value).toArray}=g1;have k1:∀b o,s.heap.get? b=some o->g1.get? b=some o:=fun b o e=>by rw [←hg1];exact zjX _ e
 have l1:g1.get? s.heap.objs.size=some {cls:=.type "list",data:=.seq #[]}:=by rw [←hg1];exact get?_push_size _ rfl
 have z1:g1.objs.size=s.heap.objs.size+1:=by rw [←hg1,size_push]
 have o1:=k1 _ _ ho;have hT1:Shared.TypeIs {s with heap:=g1} (.ref a) "set":=⟨_,o1,rfl⟩;have neA:s.heap.objs.size≠a:=ne_of_gt la;show wpAny _ A.in1 (Builtin.List.listExtendWith (.ref s.heap.objs.size) (.ref a) (.ref s.heap.objs.size)) _ _ {s with heap:=g1};unfold Builtin.List.listExtendWith;refine zjZ (wpAny_typeOf hT1 ?_);have e1:Builtin.List.listSameRef (.ref s.heap.objs.size) (.ref a)=false:=by simp [Builtin.List.listSameRef,neA]
 have e2:(Value.type "set" ==Value.type "list")=false:=by decide
 have e3:(Value.type "set" ==Value.type "tuple")=false:=by decide
 simp only [e1,e2,e3,Bool.or_false,Bool.false_eq_true,if_false];refine zjZ (A3a (s:={s with heap:=g1}) o1 ?_);generalize hg2:g1.push {cls:=.type "set_iterator",data:=.fields #[.int 0 0,.int 0 0,.ref a,.int (aV S).length 0,.int ep 0]}=g2;have k2:∀b o,g1.get? b=some o->g2.get? b=some o:=fun b o e=>by rw [←hg2];exact zjX _ e
 have i2:mV g2 g1.objs.size a 0 0 (aV S).length ep:=by rw [←hg2];exact get?_push_size _ rfl
 have z2:g2.objs.size=g1.objs.size+1:=by rw [←hg2,size_push]
 have o2:=k2 _ _ o1;refine zjZ (wpAny_holding (A5k (s:={s with heap:=g2}) ⟨_,o2,rfl⟩ ?_));show wpAny _ A.in1 (rule "list.extend.makes-room" >>=fun _=>Builtin.List.listTouch (.ref s.heap.objs.size)>>=fun _=>again (.builtin "list.extend.loop" ⟨[.ref s.heap.objs.size,.ref g1.objs.size,.ref s.heap.objs.size],[]⟩)) _ _ {s with heap:=g2};refine zjZ (wpAny_rule ?_);have l2:=k2 _ _ l1;refine zjZ ?_;show wpAny _ A.in1 (updateSeq s.heap.objs.size (·.push .none)>>=fun _=>updateSeq s.heap.objs.size (·.pop)) _ _ {s with heap:=g2};refine zjZ (wpAny_updateSeq l2 rfl ?_);have l3:=get?_update_self (Obj.mapSeq (·.push Value.none)) l2 rfl;refine wpAny_updateSeq l3 rfl ?_;have l4:=get?_update_self (Obj.mapSeq (·.pop)) l3 rfl;have k4:∀b o,b≠s.heap.objs.size->g2.get? b=some o->((g2.update s.heap.objs.size (Obj.mapSeq (·.push Value.none))).update s.heap.objs.size (Obj.mapSeq (·.pop))).get? b=some o:=
  fun b o hb e=>(get?_update_other _ _ (Ne.symm hb)).trans ((get?_update_other _ _ (Ne.symm hb)).trans e)
 have z4:((g2.update s.heap.objs.size (Obj.mapSeq (·.push Value.none))).update s.heap.objs.size (Obj.mapSeq (·.pop))).objs.size=s.heap.objs.size+2:=by rw [size_update,size_update,z2,z1]
 generalize (g2.update s.heap.objs.size (Obj.mapSeq (·.push Value.none))).update s.heap.objs.size (Obj.mapSeq (·.pop))=g4 at l4 k4 z4;have neI:a≠g1.objs.size:=by rw [z1];exact ne_of_lt (lt_succ_of_lt la)
 have neS:s.heap.objs.size∉[g1.objs.size,a]:=by
  rw [z1];intro hm;rcases mem_cons.mp hm with e|e
  ·exact absurd e (ne_of_lt (lt_succ_self _))
  ·exact neA (mem_singleton.mp e)
 have hh2:A.in1.handled=none:=by simp [hh]
 have i4:mV g4 g1.objs.size a (nslot w S 0) 0 (aV S).length ep:=by
  have:=k4 _ _ (by rw [z1];exact ne_of_gt (lt_succ_self _)) i2;have e:nslot w S 0=0:=by unfold nslot slot;split<;>rfl
  rw [e];exact this
 refine zjY ⟨plainId_quiet PySem.F.plain_extend_loop _,codeAny_extend_loopS ((A86 (prog:=prog) (w:=w) hh2 g1.objs.size a neI S f ep).toS) (by have:=kE (S 0) (S 1) (S 2) (S 3);show(L (S 0) (S 1) (S 2) (S 3)).length<=_;rw [sizeLine_eq];omega) s.heap.objs.size neS _ (aV S).length 0 {s with heap:=g4} _ _ rfl (zero_le _)
  ⟨i4,k4 _ _ neA.symm o2⟩ l4 (ItemsOf.nil _) fun s' acc' c' hm hS' hacc=> ?_⟩
 show wpAny _ A (load s.heap.objs.size>>=_) _ _ s';refine zjZ (wpAny_load hS' ?_);have eacc:acc'.toList=ord w a S f ep:=by
  refine List.ext_getElem? fun j=> ?_;rw [Array.getElem?_toList];by_cases hj:j<acc'.size
  ·rw [Array.getElem?_eq_getElem hj];exact(hacc.2 j acc'[j] (Array.getElem?_eq_getElem hj)).symm
  ·rw [Array.getElem?_eq_none (by omega),List.getElem?_eq_none (by rw [lP,←hacc.1];omega)]
 obtain⟨h',g',d',tk',os'⟩:=s';have eg:g'=s.gens:=hm.gens;have ed:d'=s.drawn:=hm.drawn;have eo:os'=s.os:=hm.os;subst eg;subst ed;subst eo;refine zjY ?_;show Q acc'.toList _;rw [eacc];have kk:∀b o,s.heap.get? b=some o->h'.get? b=some o:=fun b o e=>by
  have hb:=zjT e;refine hm.heap b o (fun hmm=> ?_) (k4 b o (ne_of_lt hb) (k2 _ _ (k1 _ _ e)));rcases mem_cons.mp hmm with z|z
  ·exact ne_of_lt hb z
  ·rw [z1]at z;exact ne_of_lt (lt_succ_of_lt hb) (mem_singleton.mp z)
 exact h h' tk' kk (le_of_lt (zjT hS'))
theorem A4e (S:Nat->Bool):((aV S).map fun k:Nat=>(k:Int)).Pairwise (· <= ·):=by unfold aV;cases S 0<;>cases S 1<;>cases S 2<;>cases S 3<;>decide
end
end Set4
namespace L2
open PySem PySem.Spec PyProof.Rows Srt Set4
def kQ (w:World)(a:Addr)(S:Nat->Bool):HO:=.ext fun h=>IsS4 h a S (!byT w)
section
theorem A6x (hc:X.calm=true):dF X (.type "set") (fun xs H Q=> ∃(p:Addr)(ns:List Nat),xs=[.ref p]/\SqL X.K H p (ns.map fun n:Nat=>V.int (n:Int))/\(∀n∈ns,n<4)/\∀l,H l=none->Q (.ref l) (upd H l (kQ X.w l fun k=>decide (k∈ns)))):=by
 intro pins s σ H xs us Q I r h;obtain⟨p,ns,rfl,hq,h4,q⟩:=h;obtain⟨u,rfl,rx⟩:=dJ r;cases rx;obtain⟨its,rv,pl,hz⟩:=I.list hq;have hl:=rv.length;rw [length_map]at hl;have hval:∀(i:Nat)(v:Value),its.toArray[i]?=some v->∃t,v= .int ((ns.getD i 0:Nat):Int) t:=fun i v e=>by
  have e':its[i]?=some v:=by simpa using e
  have hi:i<ns.length:=by rw [hl];exact(zjW.mp e').1
  obtain⟨u,hu,ru⟩:=rv.get (i:=i) (x:=V.int ((ns[i]:Nat):Int)) (by rw [getElem?_map,getElem?_eq_getElem hi];rfl);rw [e']at hu;cases hu;rw [show ns.getD i 0=ns[i] by simp [hi]];exact ru
 refine A60 (I.ok.hd hc) pl.isList (val:=fun i=>ns.getD i 0) hval (fun i hi=> ?_) fun h' tk hS hk=> ?_
 ·have hi':i<ns.length:=by rw [hl];simpa using hi
  show ns.getD i 0<4;rw [show ns.getD i 0=ns[i] by simp [hi']];exact h4 _ (getElem_mem _)
 ·have eS:acc (fun i=>ns.getD i 0) its.toArray.size=fun k=>decide (k∈ns):=funext fun k=>by
   rw [Bool.eq_iff_iff,sF,decide_eq_true_eq,size_toArray,←hl];constructor
   ·rintro⟨j,hj,e⟩;have e':ns.getD j 0=k:=e;rw [show ns.getD j 0=ns[j] by simp [hj]]at e';rw [←e'];exact getElem_mem _
   ·intro hm;obtain⟨j,hj,e⟩:=List.getElem_of_mem hm;exact⟨j,hj,by show ns.getD j 0=k;rw [show ns.getD j 0=ns[j] by simp [hj]];exact e⟩
  rw [eS]at hS;obtain⟨f,ep,hf,ho⟩:=id hS;exact⟨.ref s.heap.objs.size,_,I.laid (t':=tk) (fun b o q=>hk b o (zjT q) q) (zjQ _) (o:=kQ X.w _ _) ⟨hS,⟨_,ho⟩,fun h1 h2 x e=>x.at e⟩,rfl,q _ (I.hok.fresh (zjQ _))⟩
theorem zB:∀{ns:List Int}{us:List Value},us.map numOf=ns->(∀u∈us,∃n t,u= .int n t)->Vals (ns.map V.int) us
 |_,[],rfl,_=> .nil
 |_,u::us,rfl,h=>by
  obtain⟨n,t,rfl⟩:=h u zjR;exact .cons ⟨t,rfl⟩ (zB rfl fun v hv=>h v (zjS _ hv))
theorem A3s (hc:X.calm=true):dF X (.builtin "sorted") (fun xs H Q=> ∃(p:Addr)(S:Nat->Bool),xs=[.ref p]/\H p=some (kQ X.w p S)/\∀l,H l=none->Q (.ref l) (upd H l (.lst ((aV S).map fun k:Nat=>V.int (k:Int))))):=by
 intro pins s σ H xs us Q I r h;obtain⟨p,S,rfl,hp,q⟩:=h;obtain⟨u,rfl,rx⟩:=dJ r;cases rx;obtain⟨⟨f,ep,hf,ho⟩,_,_⟩:=(show ObjOk X.prog X.w H s.heap p (kQ X.w p S)from I.hok _ _ hp);have hperm:=sZ X.w p S f ep;have hlen:=lP X.w p S f ep;have h4:(aV S).length<=4:=kE (S 0) (S 1) (S 2) (S 3);have hint:∀v∈ord X.w p S f ep,∃n t,v= .int n t:=fun v hv=>by
  obtain⟨k,hk,rfl⟩:=mem_map.mp (hperm.mem_iff.mp hv);obtain⟨a,b⟩:=mem_mem4.mp hk;obtain⟨t,e⟩:=hf k a b;exact⟨_,t,e⟩
 generalize hvs:ord X.w p S f ep=vs at hperm hlen hint;have hnum:(vs.map numOf).Perm ((aV S).map fun k:Nat=>(k:Int)):=by
  refine(hperm.map numOf).trans (List.Perm.of_eq ?_);rw [map_map];refine map_congr_left fun k hk=> ?_;obtain⟨a,b⟩:=mem_mem4.mp hk;obtain⟨t,e⟩:=hf k a b;show numOf (f k)=_;rw [e];rfl
 have hI:IntsAre vs (vs.map numOf):=intsAre_map vs hint;refine tK (κ:=oneType') (r:=fun i=>numOf (vs.getD i Value.none)) (vs:=vs) (by omega) (fun h=>absurd h (by omega)) (fun Q' k=>A7k (by simp [I.ok.hd hc]) ho fun h1 tk k1 z1=>by rw [hvs];exact k h1 tk k1 z1) (fun h1 tk k1 h2=> ⟨fun Q2 q2=> ?_,fun i j C hi hj hC=> ?_⟩) fun D h' tk c pp hD hpm hu o' k'=> ?_
 ·obtain⟨v1,v2,rest,e⟩:∃v1 v2 rest,vs=v1::v2::rest:=by
   match vs,h2 with
   |v1::v2::rest,_=>exact⟨v1,v2,rest,rfl⟩
  subst e;rw [keyKind_ints hI];exact zjY q2
 ·show wpAny _ _ (keyLt' oneType' (vs.getD i Value.none) (vs.getD j Value.none)) C (fun _ _=>False) _;obtain⟨n,t,e⟩:=hint _ (getElem_mem hi);obtain⟨n2,t2,e2⟩:=hint _ (getElem_mem hj);have ei:vs.getD i Value.none= .int n t:=by rw [←e];simp [hi]
  have ej:vs.getD j Value.none= .int n2 t2:=by rw [←e2];simp [hj]
  have hC':C (decide (n<n2)) {s with heap:=h1,toks:=tk}:=by
   have z:decide ((fun i=>numOf (vs.getD i Value.none)) i<(fun i=>numOf (vs.getD i Value.none)) j)=decide (n<n2):=by
    refine decide_eq_decide.mpr ?_;show numOf (vs.getD i Value.none)<numOf (vs.getD j Value.none)↔_;rw [ei,ej];exact Iff.rfl
   rw [z]at hC;exact hC
  rw [ei,ej];exact W.kat_lt_int hC'
 ·have pperm:=Array.perm_iff_toList_perm.mp hpm;have outp:(pp.toList.map fun i=>vs.getD i Value.none).Perm vs:=by
   refine(pperm.map fun i=>vs.getD i Value.none).trans (List.Perm.of_eq ?_);exact tL vs
  have hup:((pp.toList.map fun i=>vs.getD i Value.none).map numOf).Pairwise (· <= ·):=by
   rw [map_map,pairwise_map,pairwise_iff_getElem];intro i j hi hj hij;have hsz:pp.toList.length=vs.length:=by rw [Array.length_toList,hpm.size]
   have h1:=hu i j (by omega) (by omega);have e:∀k (hk:k<pp.toList.length),at' pp k=pp.toList[k]:=fun k hk=>by
    have:k<pp.size:=by simpa using hk
    unfold at';simp [Array.getD,this]
   unfold R at h1;rw [e i hi,e j hj]at h1;exact h1
  have eout:(pp.toList.map fun i=>vs.getD i Value.none).map numOf=(aV S).map fun k:Nat=>(k:Int):=W.ksm_same ((outp.map numOf).trans hnum) hup (A4e S);have hv:Vals (((aV S).map fun k:Nat=>(k:Int)).map V.int) (pp.toList.map fun i=>vs.getD i Value.none):=zB eout fun u hu'=>hint u (outp.mem_iff.mp hu');rw [map_map]at hv;exact⟨.ref D,_,I.laid (t':=tk) (o:=.lst ((aV S).map fun k:Nat=>V.int (k:Int))) k' hD ⟨by rw [length_map,sizeLine_eq];omega,_,c,hv,o'⟩,rfl,q _ (I.hok.fresh hD)⟩
end
end L2
namespace L2
open PySem PySem.Spec PyProof.Rows
section
theorem zI (hc:X.calm=true):dF X (.builtin "sum") (fun xs H Q=> ∃(p:Addr)(ns:List Int),xs=[.ref p]/\SqL X.K H p (ns.map V.int)/\ns.length<=1000/\(∀n∈ns,-10000<=n/\n<=10000)/\Q (.int ns.sum) H):=by
 intro pins s σ H xs us Q I r h;obtain⟨p,ns,rfl,hq,hl,hn,q⟩:=h;obtain⟨u,rfl,rx⟩:=dJ r;cases rx;obtain⟨its,rv,pl,hz⟩:=I.list hq;have hlen:=rv.length;rw [length_map]at hlen;have hlt:p<s.heap.objs.size:=by obtain⟨_,e,_⟩:=pl.isList;exact zjT e
 have long:∀z:Int,-10000000<=z->z<=10000000->InLong z:=fun z h1 h2=>by unfold InLong;omega
 refine call_sum_walk (wpAny_pyIter_list pl.isList ?_);refine⟨s.heap.objs.size,[s.heap.objs.size,p],[s.heap.objs.size],its.toArray.size,_,_,fun i=>(ns[i]?).getD 0,rfl,Walks.list (A:=X.A.in1) (by simp [I.ok.hd hc]) _ p (ne_of_lt hlt) its.toArray,⟨⟨_,get?_push_size _ rfl,rfl,rfl⟩,pl.isList.push _⟩,fun b hb=> ?_,fun i v hP=> ?_,fun j hj=> ?_,fun h' tk t' hk=> ?_⟩
 ·show b<(s.heap.push _).objs.size;rw [size_push];rcases mem_cons.mp hb with z|z
  ·rw [z];exact lt_succ_self _
  ·rw [mem_singleton.mp z];exact lt_succ_of_lt hlt
 ·have hP':its[i]?=some v:=by simpa using hP
  have hi:i<ns.length:=by rw [hlen];exact(zjW.mp hP').1
  obtain⟨u,hu,ru⟩:=rv.get (i:=i) (x:=.int ns[i]) (by rw [getElem?_map];simp [hi]);rw [hP']at hu;cases hu;obtain⟨t,rfl⟩:=ru;exact⟨t,by simp [hi]⟩
 ·have hj':j<ns.length:=by rw [size_toArray]at hj;omega
  refine⟨?_,?_⟩
  ·have:=hn ns[j] (getElem_mem hj');have e:(ns[j]?).getD 0=ns[j]:=by simp [hj']
   show InLong ((ns[j]?).getD 0);rw [e];exact long _ (by omega) (by omega)
  ·rw [kS];have:=pI (B:=10000) (by decide) (ns:=ns.take (j+1)) fun n h=>hn n (mem_of_mem_take h);have h2:(ns.take (j+1)).length<=1000:=by rw [length_take];omega
   exact long _ (by omega) (by omega)
 ·have e:preSum (fun i=>(ns[i]?).getD 0) its.toArray.size=ns.sum:=by
   rw [kS,size_toArray,←hlen,take_of_length_le (zjQ _)]
  rw [e];exact⟨.int _,H,I.kept (h':=h') (t':=tk) (LSm.kept_iter hk),⟨_,rfl⟩,q⟩
end
end L2
namespace M07
open PySem L2 PyProof.Rows
structure TxC (mg:Str->Option Value):Prop where
 isinstance:mg "isinstance" =none
 int:mg "int" =none
 bool:mg "bool" =none
 tuple:mg "tuple" =none
 len:mg "len" =none
 all:mg "all" =none
 any:mg "any" =none
 zip:mg "zip" =none
 range:mg "range" =none
 sum:mg "sum" =none
 list:mg "list" =none
 set:mg "set" =none
 sorted:mg "sorted" =none
 sorts:∃t,mg "MOST_SORTS" =some (.int 6 t)
 counted:∃t,mg "MOST_COUNTED" =some (.int 100 t)
 holders:∃t,mg "MOST_HOLDERS" =some (.int 4 t)
 rights:∃t,mg "MOST_RIGHTS" =some (.int 20 t)
 claims:∃t,mg "MOST_CLAIMS" =some (.int 12 t)
def zR:Sp:=fun vs H Q _=> ∃l ps prs,vs=[.ref l]/\H l=some (.lst (ps.map V.ref))/\PlAt H ps prs/\1<=prs.length/\prs.length<=100/\(prs.Pairwise fun a b=>lt2 a b=true)/\∀H',Same H H'->Q (.bl true) H'
def oK:Sp:=fun vs H Q _=> ∃a cs,vs=[.ref a]/\dZ H a cs/\eI cs/\∀H',Same H H'->Q (.bl true) H'
def wL:Sp:=fun vs H Q _=> ∃(b:Addr)(c:C3),vs=[.ref b]/\H b=some (.tup [.int c.1,.int c.2.1,.int c.2.2])/\((0<=c.1/\c.1<=3)/\(0<=c.2.1/\c.2.1<=5)/\1<=c.2.2/\c.2.2<=20)/\Q (.bl true) H
def nR:Sp:=fun vs H Q _=> ∃a cl,vs=[.ref a]/\ClT H a cl/\eY cl/\∀H',Same H H'->Q (.bl true) H'
def zG:Sp:=fun vs H Q _=> ∃a cs,vs=[.ref a]/\dZ H a cs/\eI cs/\∀H',Same H H'->Q .non H'
def tI:Sp:=fun vs H Q _=> ∃a cl,vs=[.ref a]/\ClT H a cl/\eY cl/\∀H',Same H H'->Q .non H'
section
variable {P:Program}{w:World}{K:W.Frag}{mg:Str->Option Value}{base:Heap}
theorem A2h (ps:List Addr)(h:1<=ps.length):cutV (ps.map V.ref) (some 1) none=(ps.drop 1).map V.ref:=by have e1:HT.sIx (ps.map V.ref).length 0 (some 1)=min 1 (ps.map V.ref).length:=HT.sIx_nat _ _ 1;have e2:HT.sIx (ps.map V.ref).length (ps.map V.ref).length none=(ps.map V.ref).length:=rfl;unfold cutV;rw [e1,e2,length_map,show min 1 ps.length=1 by omega,take_of_length_le (by rw [length_drop,length_map];omega),map_drop]
theorem PlAt.get2:∀{ps:List Addr}{cs:List (Int×Int)}{i:Nat}{p:Addr},PlAt H ps cs->ps[i]?=some p->∃c,cs[i]?=some c/\H p=some (.tup [.int c.1,.int c.2])
 |_,_,0,_,.cons r _,h=>by cases h;exact⟨_,rfl,r⟩
 |_,_,i+1,_,.cons _ t,h=>PlAt.get2 (i:=i) t (by simpa using h)
theorem A9n (F:D1 K mg "is_rising" kO ["things"])(T:TxC mg):A1 P w K mg base 1 "is_rising" zR:=by
 refine F.k ["things"] ?_;ac_nf
 ·obtain⟨l,ps,prs,rfl,hl,hP,h1,h100,hup,q⟩:=h;have hlen:ps.length=prs.length:=Paired.length hP;refine⟨_,aM (bA (bH (fE rfl) rfl T.all boot_all (cM (bN (bE kO).names ["things"] ["one","other"] [] rfl (lH uV rfl T.zip (aB (pv 0) (fF (gJ lA (pv 0) (gC aO) iT) aA))) rfl rfl rfl (by decide +kernel)
   (fun Z=>bV rfl (aX (nm1 0 lT) (aX (nm1 1 lT) bW))) (fun Z=>cB) (fun Z=>dD (zA (lt_of_succ_lt (nD hr))) (pv 0) (pv 1) (nomark _))) aA))),?_⟩
  refine⟨_,rfl,_,rfl,_,rfl,l,_,rfl,SqL.of hl,fun t ht=> ?_⟩;rw [A2h ps (by omega)];have s1:=aQ (o:=.lst ((ps.drop 1).map V.ref)) ht;refine⟨l,t,ps.map V.ref,(ps.drop 1).map V.ref,rfl,SqL.of (s1 _ _ hl),SqL.of aG,fun Z r hr'=> ?_⟩;have sH:Same H (upd H t (.lst ((ps.drop 1).map V.ref))):=s1;refine oD (xs:=ps.map V.ref) (ys:=(ps.drop 1).map V.ref) (by rw [length_map,length_map,length_drop];omega) (fun i σ H'=>σ.length=2/\Same (upd H t (.lst ((ps.drop 1).map V.ref))) H'/\H' r=some (.lst (((ps.drop 1).take i).map fun _=>V.bl true))) ⟨rfl,aQ hr',by rw [aG];rfl⟩
   (fun i σ H' h=> ⟨SqL.of (h.2.1 _ _ (s1 _ _ hl)),SqL.of (h.2.1 _ _ aG)⟩) ?_ ?_
  ·rintro i x y p3 σ H' hx hy ⟨hσ,hs,hl'⟩ hp3
   match σ,hσ with
   | [x0,x1],_=>
   rw [getElem?_map]at hx hy;cases hb:ps[i]? with
   |none=>rw [hb]at hx;cases hx
   |some b=>
   cases hb2:(ps.drop 1)[i]? with
   |none=>rw [hb2]at hy;cases hy
   |some b2=>
   rw [hb]at hx;cases hx;rw [hb2]at hy;cases hy;have hb2':ps[i+1]?=some b2:=by rw [getElem?_drop]at hb2;rw [show i+1=1+i by omega];exact hb2
   obtain⟨c,hc,he⟩:=PlAt.get2 hP hb;obtain⟨c2,hc2,he2⟩:=PlAt.get2 hP hb2';have s3:=aQ (o:=.tup [.ref b,.ref b2]) hp3;refine⟨p3,_,rfl,SqT.of aG,rfl,_,_,rfl,_,_,rfl,rfl,?_⟩;refine fU ?_;refine⟨_,rfl,_,rfl,b,b2,[c.1,c.2],[c2.1,c2.2],rfl,rfl,SqT.of (s3 _ _ (hs _ _ (s1 _ _ he))),SqT.of (s3 _ _ (hs _ _ (s1 _ _ he2))),?_⟩;have hlt:HT.lexLt [c.1,c.2] [c2.1,c2.2]=true:=by
    obtain⟨g1,e1⟩:=zjW.mp hc;obtain⟨g2,e2⟩:=zjW.mp hc2;have:=pairwise_iff_getElem.mp hup i (i+1) g1 g2 (by omega);rw [e1,e2]at this;exact this
   rw [hlt];have hi:i<(ps.drop 1).length:=(zjW.mp hb2).1;rw [length_drop]at hi;refine⟨_,s3 _ _ hl',cH (by rw [length_map,length_take];omega),rfl,fun b' u e'=> ?_,?_⟩
   ·rw [aY (bL e' hr')];exact s3 _ _ (hs _ _ e')
   ·rw [aG,take_succ,hb2,map_append];rfl
  ·rintro σ H' ⟨_,hs,hl'⟩;rw [length_map,take_of_length_le (zjQ _)]at hl';refine⟨r,(ps.drop 1).map fun _=>true,rfl,SqL.of (by rw [hl',map_map];rfl),?_⟩;rw [show((ps.drop 1).map fun _=>true).all id=true by rw [all_map];exact all_eq_true.mpr fun _ _=>rfl];exact q H' (s1.trans hs)
theorem A8n (F:D1 K mg "is_custom" qN ["thing"])(T:TxC mg)(a1:A1 P w K mg base 1 "is_tuple_within" gX)(a2:A1 P w K mg base 2 "is_number_within" lB):A1 P w K mg base 3 "is_custom" oK:=by
 obtain⟨t1,mS⟩:=T.sorts;obtain⟨t2,mC⟩:=T.counted;refine F.k ["thing"] ?_;ac_nf
 ·obtain⟨a,cs,rfl,ha,G,q⟩:=h;have ha':H a=some (.tup (cs.map V.int)):=ha;have hz:(cs.map V.int).length<=1000:=by rw [length_map];have:=G.l6;omega
  have kn:Kn H 2 (.ref a):=KnA.tup ha' hz (fun x hx=>by obtain⟨i,_,rfl⟩:=mem_map.mp hx;exact KnA.int i) 2;refine⟨_,aU (bR (bZ (bP (a1.c hr (bC (pv 0) (bC aO (bC (eP (v:=.int 6) rfl mS ⟨_,rfl⟩) aA)))))) fJ bU)
   (aM (bA (bH (fE rfl) rfl T.all boot_all (bC (bN (bE qN).names ["thing"] ["counted"] [] rfl (cY (pv 0)) rfl rfl rfl (by decide +kernel)
    (fun Z=>aJ (i:=0) (show(["counted"]:List Str).Nodup by decide +kernel) rfl (Or.inl rfl)) (fun Z=>cB)
    (fun Z=>a2.c hr (bC (pv 0) (bC aO (bC (eP (v:=.int 100) rfl mC ⟨_,rfl⟩) aA))))) aA)))),?_⟩
  refine⟨_,rfl,_,1,6,rfl,kn.le (by decide),_,rfl,?_⟩;have ht:cZ H 1 6 (.ref a)=true:=by
   unfold cZ;rw [iB ha'];have h1:=G.l1;have h6:=G.l6;simp only [length_map,Bool.and_eq_true,decide_eq_true_eq];omega
  rw [ht];refine bT ?_;refine⟨_,rfl,a,rfl,⟨_,SqT.of ha'⟩,fun Z l hl=> ?_⟩;refine iF (fun x=> .bl (dW 1 100 x)) ha' hl hz (fun x H' Q' hm hs hq=> ?_) fun σ H' hs hl'=> ?_
  ·obtain⟨i,_,rfl⟩:=mem_map.mp hm;exact⟨_,rfl,_,1,100,rfl,KnA.int i 1,hq _ (Same.refl _)⟩
  ·refine⟨l,(cs.map V.int).map (dW 1 100),rfl,SqL.of (by rw [hl'];simp only [map_map];rfl),?_⟩;have:((cs.map V.int).map (dW 1 100)).all id=true:=by
    rw [all_map,all_map,all_eq_true];intro i hi;have:=G.num i hi;show(decide (1<=i)&&decide (i<=100))=true;simp only [Bool.and_eq_true,decide_eq_true_eq];exact this
   rw [this];exact q H' hs
theorem pL {lo hi i:Int}(h1:lo<=i)(h2:i<=hi):dW lo hi (.int i)=true:=by simp [dW,h1,h2]
theorem A3v (F:D1 K mg "is_claim" vP ["thing"])(T:TxC mg)(a1:A1 P w K mg base 1 "is_tuple_within" gX)(a2:A1 P w K mg base 2 "is_number_within" lB):A1 P w K mg base 3 "is_claim" wL:=by
 obtain⟨t1,mS⟩:=T.sorts;obtain⟨t2,mH⟩:=T.holders;obtain⟨t3,mR⟩:=T.rights;refine F.k ["thing","holder","sort","many"] ?_;ac_nf
 ·obtain⟨b,c,rfl,hb,⟨n1,n2,n3⟩,q⟩:=h;have kn:Kn H 1 (.ref b):=.inr (.inr ⟨_,hb,by show 3<=1000;decide,fun x _=>True.intro⟩);refine⟨_,aU (bR (bZ (bP (a1.c hr (bC (pv 0) (bC aO (bC aO aA)))))) fJ bU)<|
   aU (dQ (pv 0) (bV rfl (aX (nm1 1 nd) (aX (nm1 2 nd) (aX (nm1 3 nd) bW)))))<|
   aU (bR (PW.pt (iO (bZ (bP (a2.c hr (bC (pv 1) (bC aO (bC (bD gZ (eP (v:=.int 4) rfl mH ⟨_,rfl⟩) aO) aA))))))
    (jS (bZ (bP (a2.c hr (bC (pv 2) (bC aO (bC (bD gZ (eP (v:=.int 6) rfl mS ⟨_,rfl⟩) aO) aA))))))))) fJ bU)<|
   aM (bA (a2.c hr (bC (pv 3) (bC aO (bC (eP (v:=.int 20) rfl mR ⟨_,rfl⟩) aA))))),?_⟩
  refine⟨_,rfl,_,3,3,rfl,kn,_,rfl,?_⟩;have ht:cZ H 3 3 (.ref b)=true:=by unfold cZ;rw [iB hb];rfl
  rw [ht];refine bT ?_;refine⟨_,rfl,b,_,rfl,SqT.of hb,rfl,_,_,rfl,_,_,rfl,_,_,rfl,rfl,?_⟩;refine⟨_,rfl,_,_,rfl,rfl,_,0,3,rfl,KnA.int _ 1,_,rfl,?_⟩;rw [pL n1.1 n1.2];refine bT ?_;refine⟨_,rfl,_,_,rfl,rfl,_,0,5,rfl,KnA.int _ 1,_,rfl,?_⟩;rw [pL n2.1 n2.2];refine bT ?_;refine⟨_,rfl,_,1,20,rfl,KnA.int _ 1,?_⟩;rw [pL n3.1 n3.2];exact q
end
end M07
namespace M07
open PySem L2 PyProof.Rows Set4 Grd Wlk Cyc Srt
def dL (cl:List C3)(i:Int):Bool:=cl.any fun c=>decide (c.1=i)
def fY (cl:List C3):Nat->Bool:=fun k=>dL cl (k:Int)
def pH:Sp:=fun vs H Q _=> ∃c a cs cl,vs=[.ref c,.ref a]/\dZ H c cs/\ClT H a cl/\cl.length<=12/\gF cs cl/\∀H',Same H H'->Q (.bl true) H'
def zQ:Sp:=fun vs H Q _=> ∃c a cs cl,vs=[.ref c,.ref a]/\dZ H c cs/\eI cs/\ClT H a cl/\eY cl/\gF cs cl/\∀H',Same H H'->Q .non H'
def kF (cl:List C3):V->Bool| .int i=>dL cl i|_=>false
def vO:Sp:=fun vs H Q _=> ∃a cl u,vs=[.ref a,u]/\ClT H a cl/\cl.length<=12/\Kn H 1 u/\∀H',Same H H'->Q (.bl (kF cl u)) H'
def rR:Sp:=fun vs H Q _=> ∃a cl i,vs=[.ref a,.int i]/\ClT H a cl/\cl.length<=12/\dL cl i=true/\∀H',Same H H'->Q .non H'
def rP:Sp:=fun vs H Q _=> ∃a cl,vs=[.ref a]/\ClT H a cl/\eY cl/\∀l H',H l=none->Same H H'->H' l=some (.lst ((aV (fY cl)).map fun k:Nat=>V.int (k:Int)))->Q (.ref l) H'
theorem ClT.kn (h:ClT H a cl)(hz:cl.length<=12)(n:Nat):Kn H n (.ref a):=by obtain⟨bs,h1,h2⟩:=h;have hl:bs.length=cl.length:=Paired.length h2;refine KnA.tup h1 (by rw [length_map];omega) (fun x hx=> ?_) n;obtain⟨b,hb,rfl⟩:=mem_map.mp hx;obtain⟨i,hi⟩:=List.getElem?_of_mem hb;obtain⟨c,hc,he⟩:=h2.get hi;refine KnA.tup he (by show 3<=1000;decide) fun y hy=> ?_;simp only [mem_cons,not_mem_nil,or_false]at hy;rcases hy with rfl|rfl|rfl<;>exact KnA.int _
section
variable {P:Program}{w:World}{K:W.Frag}{mg:Str->Option Value}{base:Heap}
theorem nd3:(["holder","sort","many"]:List Str).Nodup:=by decide +kernel
theorem A36 (F:D1 K mg "are_claims" lJ ["thing"])(T:TxC mg)(a1:A1 P w K mg base 1 "is_tuple_within" gX)(a2:A1 P w K mg base 3 "is_claim" wL)(a3:A1 P w K mg base 1 "is_rising" zR):A1 P w K mg base 4 "are_claims" nR:=by
 obtain⟨t1,mC⟩:=T.claims;refine F.k ["thing"] ?_;ac_nf
 ·obtain⟨a,cl,rfl,hA,G,q⟩:=h;have kn:=ClT.kn hA G.l12 1;obtain⟨bs,ha,hC⟩:=hA;have hl:bs.length=cl.length:=Paired.length hC;have hz:(bs.map V.ref).length<=1000:=by rw [length_map];have:=G.l12;omega
  refine⟨_,aU (bR (PW.pt (iO (bZ (bP (a1.c hr (bC (pv 0) (bC aO (bC (eP (v:=.int 12) rfl mC ⟨_,rfl⟩) aA))))))
    (jS (bZ (bP (bH (fE rfl) rfl T.all boot_all (bC (bN (bE lJ).names ["thing"] ["claim"] [] rfl (cY (pv 0)) rfl rfl rfl (by decide +kernel)
     (fun Z=>aJ (i:=0) (show(["claim"]:List Str).Nodup by decide +kernel) rfl (Or.inl rfl)) (fun Z=>cB) (fun Z=>a2.c hr (bC (pv 0) aA))) aA))))))) fJ bU)<|
   aM (bA (a3.c hr (cM (bN (bE lJ).names ["thing"] ["holder","sort","many"] [] rfl (cY (pv 0)) rfl rfl rfl (by decide +kernel)
     (fun Z=>bV rfl (aX (nm1 0 nd3) (aX (nm1 1 nd3) (aX (nm1 2 nd3) bW)))) (fun Z=>cB) (fun Z=>cF (bC (pv 0) (bC (pv 1) aA)))) aA))),?_⟩
  refine⟨_,rfl,_,1,12,rfl,kn,_,rfl,?_⟩;have ht:cZ H 1 12 (.ref a)=true:=by
   unfold cZ;rw [iB ha];have h1:=G.l1;have h6:=G.l12;simp only [length_map,Bool.and_eq_true,decide_eq_true_eq];omega
  rw [ht];refine bT ?_;refine⟨_,rfl,a,rfl,⟨_,SqT.of ha⟩,fun Z l hl'=> ?_⟩;refine iF (fun _=> .bl true) ha hl' hz (fun x H' Q' hm hs hq=> ?_) fun σ H1 hs1 hl1=> ?_
  ·obtain⟨b,hb,rfl⟩:=mem_map.mp hm;obtain⟨i,hi⟩:=List.getElem?_of_mem hb;obtain⟨c,hc,he⟩:=hC.get hi;exact⟨_,rfl,b,c,rfl,hs _ _ he,G.num c (mem_of_getElem? hc),hq _ (Same.refl _)⟩
  ·refine⟨l,(bs.map V.ref).map fun _=>true,rfl,SqL.of (by rw [hl1];simp only [map_map];rfl),_,rfl,?_⟩;rw [show((bs.map V.ref).map fun _=>true).all id=true by rw [all_map];exact all_eq_true.mpr fun _ _=>rfl];refine bT ?_;refine⟨_,rfl,a,rfl,⟨_,SqT.of (hs1 _ _ ha)⟩,fun Z2 l2 hl2=> ?_⟩;refine A7i iR (fun H' hs=>SqT.of (hs _ _ (hs1 _ _ ha))) (hC.ext hs1.ext) hl2 (by have:=G.l12;omega) fun σ H2 ps hs2 hl2' hP=> ?_;have hpl:=Paired.length hP;rw [length_map]at hpl;refine⟨l2,ps,_,rfl,hl2',hP,by rw [length_map];exact G.l1,by rw [length_map];have:=G.l12;omega,G.up,fun H3 hs3=>q H3 ((hs1.trans hs2).trans hs3)⟩
theorem A2f (F:D1 K mg "check_custom" vH ["custom"])(a1:A1 P w K mg base 3 "is_custom" oK):A1 P w K mg base 4 "check_custom" zG:=by
 refine F.k ["custom"] ?_;ac_nf
 ·obtain⟨a,cs,rfl,hA,G,q⟩:=h;refine⟨_,aM (bR (bZ (bP (a1.c hr (aB (pv 0) aA)))) fJ bU),?_⟩;exact⟨_,rfl,a,cs,rfl,hA,G,fun H' hs=> ⟨_,rfl,bT (q H' hs)⟩⟩
theorem A1r (F:D1 K mg "check_claims" yL ["claims"])(a1:A1 P w K mg base 4 "are_claims" nR):A1 P w K mg base 5 "check_claims" tI:=by
 refine F.k ["claims"] ?_;ac_nf
 ·obtain⟨a,cl,rfl,hA,G,q⟩:=h;refine⟨_,aM (bR (bZ (bP (a1.c hr (aB (pv 0) aA)))) fJ bU),?_⟩;exact⟨_,rfl,a,cl,rfl,hA,G,fun H' hs=> ⟨_,rfl,bT (q H' hs)⟩⟩
theorem jX:(["holder","sort","many","custom"]:List Str).Nodup:=by decide +kernel
theorem A7q (F:D1 K mg "stand_under" oR ["custom","claims"])(T:TxC mg):A1 P w K mg base 1 "stand_under" pH:=by
 refine F.k ["custom","claims"] ?_;ac_nf
 ·obtain⟨c,a,cs,cl,rfl,hc,⟨bs,ha,hC⟩,h12,hU,q⟩:=h;have hl:bs.length=cl.length:=Paired.length hC;refine⟨_,aM (bA (bH (fE rfl) rfl T.all boot_all (cM (bN (bE oR).names ["custom","claims"] ["holder","sort","many"] [("custom",0)] rfl (cY (pv 1)) rfl rfl rfl (by decide +kernel)
   (fun Z=>bV rfl (aX (nm1 0 jX) (aX (nm1 1 jX) (aX (nm1 2 jX) bW)))) (fun Z=>cB)
   (fun Z=>dD oY (pv 1) (bH eU rfl T.len PySem.boot_len (bC (pv 3) aA)) (nomark _))) aA))),?_⟩
  refine⟨_,rfl,a,rfl,⟨_,SqT.of ha⟩,fun Z l hl'=> ?_⟩;refine kG (rest:=[some (.ref c)]) iR (fun H' hs=>SqT.of (hs _ _ ha)) hC hl' (by omega) (fun _=> .bl true) (fun x H' Q' hm hs hq=> ?_) fun σ H1 hs1 hl1=> ?_
  ·refine⟨_,rfl,_,rfl,c,_,rfl,.inr (SqT.of (hs _ _ hc)),_,_,rfl,rfl,?_⟩;show Q' (.bl (decide (x.2.1<((cs.map V.int).length:Int)))) H';rw [length_map,zjV (hU x hm)];exact hq _ (Same.refl _)
  ·refine⟨l,cl.map fun _=>true,rfl,SqL.of (by rw [hl1];simp only [map_map];rfl),?_⟩;rw [show(cl.map fun _=>true).all id=true by rw [all_map];exact all_eq_true.mpr fun _ _=>rfl];exact q _ hs1
theorem A4n (F:D1 K mg "check_claims_under" zX ["custom","claims"])(a1:A1 P w K mg base 4 "check_custom" zG)(a2:A1 P w K mg base 5 "check_claims" tI)(a3:A1 P w K mg base 1 "stand_under" pH):A1 P w K mg base 6 "check_claims_under" zQ:=by
 refine F.k ["custom","claims"] ?_;ac_nf
 ·obtain⟨c,a,cs,cl,rfl,hc,Gc,hA,G,hU,q⟩:=h;refine⟨_,aU (dE (a1.c hr (aB (pv 0) aA)))<|aU (dE (a2.c hr (aB (pv 1) aA)))<|
   aM (bR (bZ (bP (a3.c hr (aB (pv 0) (aB (pv 1) aA))))) fJ bU),?_⟩
  refine⟨_,rfl,c,cs,rfl,hc,Gc,fun H1 s1=> ?_⟩;refine⟨_,rfl,a,cl,rfl,hA.ext s1.ext,G,fun H2 s2=> ?_⟩;exact⟨_,rfl,_,rfl,c,a,cs,cl,rfl,s2 _ _ (s1 _ _ hc),(hA.ext s1.ext).ext s2.ext,G.l12,hU,fun H3 s3=> ⟨_,rfl,bT (q H3 ((s1.trans s2).trans s3))⟩⟩
theorem rV:(["holder","sort","many","thing"]:List Str).Nodup:=by decide +kernel
theorem A2z (F:D1 K mg "is_holder" nO ["claims","thing"])(T:TxC mg)(a1:A1 P w K mg base 1 "is_number" lW):A1 P w K mg base 2 "is_holder" vO:=by
 refine F.k ["claims","thing"] ?_;ac_nf
 ·obtain⟨a,cl,u,rfl,⟨bs,ha,hC⟩,h12,ku,q⟩:=h;have hl:bs.length=cl.length:=Paired.length hC;refine⟨_,aM (bA (fC (a1.c hr (bC (pv 1) aA)) (eZ (bH (rG rfl) rfl T.any rN (cM (bN (bE nO).names ["claims","thing"] ["holder","sort","many"] [("thing",1)] rfl (cY (pv 0)) rfl rfl rfl (by decide +kernel)
   (fun Z=>bV rfl (aX (nm1 0 rV) (aX (nm1 1 rV) (aX (nm1 2 rV) bW)))) (fun Z=>cB)
   (fun Z=>dD eX (pv 0) (pv 3) (nomark _))) aA))))),?_⟩
  refine⟨_,rfl,_,rfl,ku,_,rfl,dC (fun e=> ?_) fun e=> ?_⟩
  ·obtain⟨i,rfl⟩:∃i,u= .int i:=by cases u<;>first|exact⟨_,rfl⟩|cases e
   refine⟨_,rfl,a,rfl,⟨_,SqT.of ha⟩,fun Z l hl'=> ?_⟩;refine kG (rest:=[some (.int i)]) iR (fun H' hs=>SqT.of (hs _ _ ha)) hC hl' (by omega) (fun c=> .bl (decide (c.1=i))) (fun x H' Q' hm hs hq=> ?_) fun σ H1 hs1 hl1=> ?_
   ·refine⟨_,rfl,_,rfl,rfl,?_⟩;have:decide (V.int x.1=V.int i)=decide (x.1=i):=decide_eq_decide.mpr ⟨fun z=>V.int.inj z,fun z=>by rw [z]⟩;rw [this];exact hq _ (Same.refl _)
   ·refine⟨l,cl.map fun c=>decide (c.1=i),rfl,SqL.of (by rw [hl1];simp only [map_map];rfl),?_⟩;have:(cl.map fun c=>decide (c.1=i)).any id=kF cl (.int i):=by unfold kF dL;rw [any_map];rfl
    rw [this];exact q _ hs1
  ·have:kF cl u=false:=by cases u<;>first|rfl|cases e
   rw [←this];exact q _ (Same.refl _)
theorem A32 (F:D1 K mg "check_holder" tJ ["claims","holder"])(a1:A1 P w K mg base 2 "is_holder" vO):A1 P w K mg base 3 "check_holder" rR:=by
 refine F.k ["claims","holder"] ?_;ac_nf
 ·obtain⟨a,cl,i,rfl,hA,h12,hh,q⟩:=h;refine⟨_,aM (bR (bZ (bP (a1.c hr (aB (pv 0) (aB (pv 1) aA))))) fJ bU),?_⟩;refine⟨_,rfl,_,rfl,a,cl,.int i,rfl,hA,h12,trivial,fun H' hs=> ⟨_,rfl,?_⟩⟩;rw [show kF cl (.int i)=true from hh];exact bT (q H' hs)
end
def cw (cs:List Int)(c:C3):Int:=cs.getD c.2.1.toNat 0*c.2.2
def bG (cs:List Int)(cl:List C3):Int:=(cl.map (cw cs)).sum
def ofH (cl:List C3)(i:Int):List C3:=cl.filter fun c=>decide (c.1=i)
def bI (cs:List Int)(cl:List C3)(i:Int):Int:=bG cs (ofH cl i)
def Fine (cs:List Int)(cl:List C3):Prop:=cl.length<=12/\∀c∈cl,0<=c.2.1/\c.2.1<cs.length/\1<=c.2.2/\c.2.2<=20
theorem iJ (G:eY cl)(U:gF cs cl):Fine cs cl:=⟨G.l12,fun c hc=> ⟨(G.num c hc).2.1.1,U c hc,(G.num c hc).2.2.1,(G.num c hc).2.2.2⟩⟩
theorem Fine.sub (h:Fine cs cl)(i:Int):Fine cs (ofH cl i):=⟨le_trans (length_filter_le _ _) h.1,fun c hc=>h.2 c (mem_filter.mp hc).1⟩
theorem jU {cs:List Int}(Gc:eI cs){c:C3}(h:0<=c.2.1/\c.2.1<cs.length/\1<=c.2.2/\c.2.2<=20):1<=cs.getD c.2.1.toNat 0/\cs.getD c.2.1.toNat 0<=100/\1<=cw cs c/\cw cs c<=2000:=by
 have hlt:c.2.1.toNat<cs.length:=by omega
 have e:cs.getD c.2.1.toNat 0=cs[c.2.1.toNat]:=by simp [hlt]
 have hn:=Gc.num _ (getElem_mem hlt);unfold cw;rw [e];refine⟨hn.1,hn.2,?_,?_⟩
 ·have:=Int.mul_le_mul hn.1 h.2.2.1 (by omega) (by omega);omega
 ·have:=Int.mul_le_mul hn.2 h.2.2.2 (by omega) (by omega);omega
theorem nH {cs:List Int}(Gc:eI cs):∀{cl:List C3},(∀c∈cl,0<=c.2.1/\c.2.1<cs.length/\1<=c.2.2/\c.2.2<=20)->(cl.length:Int)<=bG cs cl/\bG cs cl<=2000*cl.length
 | [],_=>by simp [bG]
 |c::cl,h=>by
  have ih:=nH Gc (cl:=cl) fun d hd=>h d (zjS _ hd);have h0:=jU Gc (h c zjR);have e:bG cs (c::cl)=cw cs c+bG cs cl:=by unfold bG;rw [map_cons,sum_cons]
  rw [e,length_cons];constructor<;>omega
theorem jV {cs:List Int}{s:Int}(h0:0<=s)(h1:s<cs.length):atI (cs.map V.int) s=some (.int (cs.getD s.toNat 0)):=by
 obtain⟨n,rfl⟩:=Int.eq_ofNat_of_zero_le h0;have hn:n<cs.length:=by omega
 refine cC ?_;rw [getElem?_map,getElem?_eq_getElem hn];simp [hn]
def rK:Sp:=fun vs H Q _=> ∃c a cs bs cl,vs=[.ref c,.ref a]/\dZ H c cs/\eI cs/\(H a=some (.tup (bs.map V.ref))\/H a=some (.lst (bs.map V.ref)))/\ClP H bs cl/\Fine cs cl/\∀H',Same H H'->Q (.int (bG cs cl)) H'
def yE:Sp:=fun vs H Q _=> ∃c a cs cl i,vs=[.ref c,.ref a,.int i]/\dZ H c cs/\eI cs/\ClT H a cl/\eY cl/\gF cs cl/\dL cl i=true/\∀H',Same H H'->Q (.int (bI cs cl i)) H'
section
variable {P:Program}{w:World}{K:W.Frag}{mg:Str->Option Value}{base:Heap}
theorem A8e (F:D1 K mg "count_together" oV ["custom","claims"])(T:TxC mg):A1 P w K mg base 1 "count_together" rK:=by
 refine F.k ["custom","claims"] ?_;ac_nf
 ·obtain⟨c,a,cs,bs,cl,rfl,hc,Gc,ha,hC,hf,q⟩:=h;have hl:bs.length=cl.length:=Paired.length hC;have h12:=hf.1;refine⟨_,aM (bA (bH (zI rfl) rfl T.sum boot_sum (cM (bN (bE oV).names ["custom","claims"] ["holder","sort","many"] [("custom",0)] rfl (PI.or (cY (pv 1)) (dN (pv 1))) rfl rfl rfl (by decide +kernel)
   (fun Z=>bV rfl (aX (nm1 0 jX) (aX (nm1 1 jX) (aX (nm1 2 jX) bW)))) (fun Z=>cB)
   (fun Z=>bD eG (bK cA (pv 3) (pv 1) (fun _ _=>rfl)) (pv 2))) aA))),?_⟩
  have turn:∀(x:C3)(H':Hp)(Q':VK),x∈cl->Same H H'->(∀H2,Same H' H2->Q' (.int (cw cs x)) H2)->tOp (rI CMul fun i j=> .int (i*j)) (tOp (hJ K) (cS 3) (cS 1)) (cS 2) (some (.int x.1)::some (.int x.2.1)::some (.int x.2.2)::[some (.ref c)]) H' Q':=fun x H' Q' hm hs hq=>by
   have hx:=hf.2 x hm;have hlt:x.2.1.toNat<cs.length:=by omega
   have hsm:=jU Gc hx;exact⟨_,rfl,_,rfl,c,_,x.2.1,.int (cs.getD x.2.1.toNat 0),rfl,rfl,SqT.of (hs _ _ hc),jV hx.1 hx.2.1,_,rfl,_,_,rfl,rfl,.inl ⟨by omega,by omega⟩,hq _ (Same.refl _)⟩
  have fin:∀(l:Addr)(σ:L2.St)(H1:Hp),Same H H1->H1 l=some (.lst (cl.map fun x=>V.int (cw cs x)))->∃(p:Addr)(ns:List Int),[V.ref l]=[.ref p]/\SqL K H1 p (ns.map V.int)/\ns.length<=1000/\(∀n∈ns,-10000<=n/\n<=10000)/\Q (.int ns.sum) H1:=fun l σ H1 hs1 hl1=>by
   refine⟨l,cl.map (cw cs),rfl,SqL.of (by rw [hl1];simp only [map_map];rfl),by rw [length_map];omega,fun n hn=> ?_,q H1 hs1⟩;obtain⟨x,hx,rfl⟩:=mem_map.mp hn;have:=jU Gc (hf.2 x hx);omega
  rcases ha with ha|ha
  ·refine .inl ⟨_,rfl,a,rfl,⟨_,SqT.of ha⟩,fun Z l hl'=> ?_⟩;exact kG (rest:=[some (.ref c)]) iR (fun H' hs=>SqT.of (hs _ _ ha)) hC hl' (by omega) (fun x=> .int (cw cs x)) turn fun σ H1 hs1 hl1=>fin l σ H1 hs1 hl1
  ·refine .inr ⟨_,rfl,a,rfl,⟨_,SqL.of ha⟩,fun Z l hl'=> ?_⟩;exact kG (rest:=[some (.ref c)]) fN (fun H' hs=>SqL.of (hs _ _ ha)) hC hl' (by omega) (fun x=> .int (cw cs x)) turn fun σ H1 hs1 hl1=>fin l σ H1 hs1 hl1
theorem A14:(["claim","holder"]:List Str).Nodup:=by decide +kernel
theorem A8r (F:D1 K mg "count_of" pW ["custom","claims","holder"])(a1:A1 P w K mg base 6 "check_claims_under" zQ)(a2:A1 P w K mg base 3 "check_holder" rR)(a3:A1 P w K mg base 1 "count_together" rK):A1 P w K mg base 7 "count_of" yE:=by
 refine F.k ["custom","claims","holder"] ?_;ac_nf
 ·obtain⟨c,a,cs,cl,i,rfl,hc,Gc,hA,G,hU,hh,q⟩:=h;refine⟨_,aU (dE (a1.c hr (aB (pv 0) (aB (pv 1) aA))))<|aU (dE (a2.c hr (aB (pv 1) (aB (pv 2) aA))))<|
   aM (bA (a3.c hr (aB (pv 0) (cM (bN (bE pW).names ["custom","claims","holder"] ["claim"] [("holder",2)] rfl (cY (pv 1)) rfl rfl rfl (by decide +kernel)
    (fun Z=>nm1 0 A14) (fun Z=>eT (cI eX (bK cA (pv 0) aO (fun _ _=>rfl)) (pv 1) (nomark _))) (fun Z=>pv 0)) aA)))),?_⟩
  refine⟨_,rfl,_,rfl,c,a,cs,cl,rfl,hc,Gc,hA,G,hU,fun H1 s1=> ?_⟩;refine⟨_,rfl,_,rfl,a,cl,i,rfl,hA.ext s1.ext,G.l12,hh,fun H2 s2=> ?_⟩;obtain⟨bs,ha,hC⟩:=(hA.ext s1.ext).ext s2.ext;have hl:bs.length=cl.length:=Paired.length hC;have h12:=G.l12;refine⟨_,rfl,_,rfl,a,rfl,⟨_,SqT.of ha⟩,fun Z l hl'=> ?_⟩;refine gE (K:=K) (a:=a) (xs:=bs.map V.ref) (fun j σ H'=>(∃o,σ=[o,some (.int i)])/\Same H2 H'/\∃bs':List Addr,H' l=some (.lst (bs'.map V.ref))/\ClP H' bs' (ofH (cl.take j) i)) ⟨⟨_,rfl⟩,aQ hl',[],by rw [aG];rfl,.nil⟩ (fun j σ H' _ h=>SqT.of (h.2.1 _ _ ha)) ?_ ?_
  ·rintro j x σ H' hx ⟨⟨o,rfl⟩,hs,bs',hl2,hC2⟩;rw [getElem?_map]at hx;cases hb:bs[j]? with
   |none=>rw [hb]at hx;cases hx
   |some b=>
    rw [hb]at hx;cases hx;obtain⟨y,hy,he⟩:=hC.get hb;have hj:j<bs.length:=(zjW.mp hb).1;have hbl:bs'.length<=j:=by
     have:=Paired.length hC2;have h2:=length_filter_le (fun c:C3=>decide (c.1=i)) (cl.take j);rw [length_take]at h2;unfold ofH at this;omega
    show cK _ _ _ [some (.ref b),some (.int i)] H';refine⟨_,rfl,b,_,0,.int y.1,rfl,rfl,SqT.of (hs _ _ he),cC (j:=0) rfl,_,rfl,rfl,_,rfl,?_⟩;have ed:decide (V.int y.1=V.int i)=decide (y.1=i):=decide_eq_decide.mpr ⟨fun z=>V.int.inj z,fun z=>by rw [z]⟩;rw [ed];have et:ofH (cl.take (j+1)) i=ofH (cl.take j) i++(if decide (y.1=i)=true then [y]else []):=by
     unfold ofH;rw [take_succ,hy,filter_append]
     congr 1
     by_cases z:y.1=i
     ·simp [z]
     ·simp [z]
    refine dC (fun hz=> ?_) fun hz=> ?_
    ·refine⟨_,rfl,_,hl2,cH (by rw [length_map];omega),⟨_,rfl⟩,fun b' u e=> ?_,bs'++[b],?_,?_⟩
     ·rw [aY (bL e hl')];exact hs _ _ e
     ·rw [aG,map_append];rfl
     ·rw [et,if_pos hz];have up:∀b' xs,H' b'=some (.tup xs)->(upd H' l (.lst (bs'.map V.ref++[.ref b]))) b'=some (.tup xs):=fun b' xs e=>by rw [aY (fun z=>by rw [z,hl2]at e;cases e)];exact e
      exact Paired.snoc (Paired.mapP hC2 fun _ _ e=>up _ _ e) (up _ _ (hs _ _ he))
    ·refine⟨⟨_,rfl⟩,hs,bs',hl2,?_⟩;rw [et,if_neg (by rw [hz];decide),append_nil];exact hC2
  ·rintro σ H' ⟨_,hs,bs',hl2,hC2⟩;rw [length_map,hl,take_of_length_le (zjQ _)]at hC2;exact⟨c,l,cs,bs',ofH cl i,rfl,hs _ _ (s2 _ _ (s1 _ _ hc)),Gc,.inr hl2,hC2,(iJ G hU).sub i,fun H3 s3=>q H3 (((s1.trans s2).trans hs).trans s3)⟩
end
def frTop (t b:Int):Int:=t/((Nat.gcd t.toNat b.toNat:Nat):Int)
def frBot (t b:Int):Int:=b/((Nat.gcd t.toNat b.toNat:Nat):Int)
def lE:Sp:=fun vs H Q _=> ∃t b,vs=[.int t,.int b]/\(0<=t/\t<1000000000)/\(1<=b/\b<1000000)/\∀p,H p=none->Q (.ref p) (upd H p (.tup [.int (frTop t b),.int (frBot t b)]))
def tQ:Sp:=fun vs H Q _=> ∃c a cs cl i,vs=[.ref c,.ref a,.int i]/\dZ H c cs/\eI cs/\ClT H a cl/\eY cl/\gF cs cl/\dL cl i=true/\∀p H',Same H H'->H' p=some (.tup [.int (frTop (bI cs cl i) (bG cs cl)),.int (frBot (bI cs cl i) (bG cs cl))])->Q (.ref p) H'
theorem zK (a b:Nat):Nat.gcd b (a%b)=Nat.gcd a b:=by rw [gcd_comm b,←Nat.gcd_rec,gcd_comm]
section
variable {P:Program}{w:World}{K:W.Frag}{mg:Str->Option Value}{base:Heap}
theorem A6y (F:D1 K mg "fraction" wO ["top","bottom"]):A1 P w K mg base 1 "fraction" lE:=by
 refine F.k ["top","bottom","divisor","rest"] ?_;ac_nf
 ·obtain⟨t,b,rfl,ht,hb,q⟩:=h;obtain⟨tn,rfl⟩:=Int.eq_ofNat_of_zero_le ht.1;obtain⟨bn,rfl⟩:=Int.eq_ofNat_of_zero_le (show 0<=b by omega);refine⟨_,aU (jH (i:=2) (j:=3) rfl nd rfl rfl (by decide) rfl rfl (aB (pv 0) (aB (pv 1) aA)) rfl)<|
   aU (qV PassesOwn.never (cI nL (pv 3) aO (nomark _)) (aM (jH (i:=2) (j:=3) rfl nd rfl rfl (by decide) rfl rfl (aB (pv 3) (dM (bD iI (pv 2) (pv 3)) aA)) rfl)))<|
   aM (bA (cF (dM (bD jM (pv 0) (pv 2)) (dM (bD jM (pv 1) (pv 2)) aA)))),?_⟩
  refine⟨_,rfl,_,rfl,_,_,rfl,?_⟩;refine tD (fun σ H'=>H'=H/\∃x y:Nat,σ=[some (.int (tn:Int)),some (.int (bn:Int)),some (.int (x:Int)),some (.int (y:Int))]/\Nat.gcd x y=Nat.gcd tn bn/\x<1000000000/\y<1000000000) (fun σ _=>match σ with| [_,_,_,some (.int y)]=>y.toNat|_=>0)
   ⟨rfl,tn,bn,rfl,rfl,by omega,by omega⟩ ?_ (fun σ H' R R' hi hc=> ?_)
  ·rintro σ H' ⟨rfl,x,y,rfl,hg,hx,hy⟩;refine⟨_,rfl,_,_,rfl,rfl,_,rfl,eW (fun hp=> ?_) fun hp=> ?_⟩
   ·have hy0:0<y:=by omega
    refine⟨_,rfl,_,rfl,_,rfl,_,_,rfl,rfl,(by omega),_,_,rfl,?_⟩;have hm:x%y<y:=mod_lt _ hy0;refine⟨⟨rfl,y,x%y,?_,by rw [zK];exact hg,hy,by omega⟩,?_⟩
    ·show [some (V.int (tn:Int)),some (.int (bn:Int)),some (.int (y:Int)),some (.int ((x:Int)%(y:Int)))]=_;rw [Int.natCast_emod]
    ·show((x:Int)%(y:Int)).toNat<((y:Int)).toNat;have e:(x:Int)%(y:Int)=((x%y:Nat):Int):=(Int.natCast_emod x y).symm;rw [e,Int.toNat_natCast,Int.toNat_natCast];exact hm
   ·have hy0:y=0:=by omega
    subst hy0;rw [Nat.gcd_zero_right]at hg;subst hg;have hgp:0<Nat.gcd tn bn:=Nat.gcd_pos_of_pos_right _ (by omega);refine⟨_,rfl,_,rfl,_,_,rfl,rfl,⟨by omega,by omega⟩,_,rfl,_,rfl,_,_,rfl,rfl,⟨by omega,by omega⟩,by show 2<=sizeLine;decide,fun p hp'=> ?_⟩;exact q p hp'
  ·obtain⟨v,e1,h1⟩:=hc;obtain⟨i,j,e2,e3,c,e4,h2⟩:=h1;exact⟨v,e1,i,j,e2,e3,c,e4,hi _ _ h2⟩
theorem oN (Gc:eI cs)(G:eY cl)(U:gF cs cl)(i:Int):(0<=bI cs cl i/\bI cs cl i<1000000)/\1<=bG cs cl/\bG cs cl<1000000:=by have hf:=iJ G U;have h1:=nH Gc hf.2;have h2:=nH Gc (hf.sub i).2;have:=G.l1;have:=hf.1;have:=(hf.sub i).1;unfold bI;omega
theorem A25 (F:D1 K mg "share_of" wP ["custom","claims","holder"])(a1:A1 P w K mg base 1 "fraction" lE)(a2:A1 P w K mg base 7 "count_of" yE)(a3:A1 P w K mg base 1 "count_together" rK):A1 P w K mg base 8 "share_of" tQ:=by
 refine F.k ["custom","claims","holder"] ?_;ac_nf
 ·obtain⟨c,a,cs,cl,i,rfl,hc,Gc,hA,G,hU,hh,q⟩:=h;refine⟨_,aM (bA (a1.c hr (bY (a2.c hr (aB (pv 0) (aB (pv 1) (aB (pv 2) aA)))) (bY (a3.c hr (aB (pv 0) (aB (pv 1) aA))) aA)))),?_⟩;refine⟨_,rfl,_,rfl,_,rfl,c,a,cs,cl,i,rfl,hc,Gc,hA,G,hU,hh,fun H1 s1=> ?_⟩;obtain⟨bs,ha,hC⟩:=hA.ext s1.ext;refine⟨_,rfl,_,rfl,c,a,cs,bs,cl,rfl,s1 _ _ hc,Gc,.inl ha,hC,iJ G hU,fun H2 s2=> ?_⟩;have hb:=oN Gc G hU i;exact⟨_,_,rfl,⟨hb.1.1,by omega⟩,hb.2,fun p hp=>q p _ ((s1.trans s2).trans (aQ hp)) aG⟩
end
def yS (K:W.Frag):Sp:=fun vs H Q _=> ∃a ns k,vs=[.ref a,.int k]/\SqL K H a ((ns:List Int).map V.int)/\0<=k/\∀i,Q (.int i) H
def nV:Sp:=fun vs H Q _=> ∃i:Int,vs=[.int i]/\∀p H',H p=none->Same H H'->PenAt H' p->Q (.ref p) H'
def jE:Sp:=fun vs H Q _=> ∃p m,vs=[.ref p,.int m]/\PenAt H p/\0<m/\m<1000000/\∀d H',0<=d->d<m->Stp p H H'->Q (.int d) H'
section
variable {P:Program}{w:World}{K:W.Frag}{mg:Str->Option Value}{base:Heap}
theorem A5w (F:D1 K mg "_law_cell" uC ["_law_script","_law_k"])(T:TxC mg):A1 P w K mg base 1 "_law_cell" (yS K):=by
 refine F.k ["_law_script","_law_k"] ?_;ac_nf
 ·obtain⟨a,ns,k,rfl,ha,hk,q⟩:=h;refine⟨_,aU (bR (cI oY (pv 1) (bH eU rfl T.len PySem.boot_len (bC (pv 0) aA)) (nomark _)) (aM (bA (bK fG (pv 0) (pv 1) (fun _ _=>rfl)))) bU) (aM (bA aO)),?_⟩;refine⟨_,rfl,_,rfl,a,_,rfl,.inl ha,_,_,rfl,rfl,_,rfl,eW (fun h1=> ?_) fun h1=>q 0⟩;rw [length_map]at h1;obtain⟨n,rfl⟩:=Int.eq_ofNat_of_zero_le hk;have hlt:n<ns.length:=by omega
  exact⟨_,rfl,_,rfl,a,_,n,.int ns[n],rfl,rfl,ha,cC (by rw [getElem?_map];simp [hlt]),q _⟩
theorem A7j (F:D1 K mg "_law_pen" uW ["_law_cell_here"])(T:TxC mg):A1 P w K mg base 1 "_law_pen" nV:=by
 refine F.k ["_law_cell_here"] ?_;ac_nf
 ·obtain⟨i,rfl,q⟩:=h;refine⟨_,aM (bA (dS (bC (pv 0) (bC (fO rE rfl T.int boot_int (bC (dD lD (pv 0) (bD A7s aO aO) (nomark _)) aA)) aA)))),?_⟩;refine⟨_,rfl,_,rfl,_,_,rfl,rfl,⟨by decide,by decide,by decide⟩,_,_,rfl,rfl,.inr ⟨_,rfl,?_⟩⟩;refine⟨by show 2<=sizeLine;decide,fun l hl=> ?_⟩;exact q l _ hl (aQ hl) ⟨_,_,aG⟩
theorem scDraw:gL ["_law_pen_here","_law_bound","_law_drawn"] ["_law_pen_here","_law_bound"] (bE pA):=by ac_rfl
theorem A29 (F:D1 K mg "_law_draw" pA ["_law_pen_here","_law_bound"])(T:TxC mg):A1 P w K mg base 1 "_law_draw" jE:=by
 refine F.k ["_law_pen_here","_law_bound","_law_drawn"] ?_;ac_nf
 ·obtain⟨p,m,rfl,⟨x,f1,hp⟩,h0,h1,q⟩:=h;refine⟨_,aU (bR (cI eX (bK fG (pv 0) aO (fun _ _=>rfl)) aO (nomark _))
    (aU (bQ (i:=2) scDraw.nd rfl (Or.inl rfl) (bD iI (bK fG (pv 0) aO (fun _ _=>rfl)) (pv 1)))
    (aU (dQ (bD jM (bK fG (pv 0) aO (fun _ _=>rfl)) (pv 1)) (qW (pv 0) aO nT))
    (aM (bA (pv 2))))) bU)
   (aU (dQ (bD iI (bD eJ (bD eG (bD iI (bK fG (pv 0) aO (fun _ _=>rfl)) aO) aO) aO) aO) (qW (pv 0) aO nT))
   (aM (bA (bD iI (bD jM (bD iI (bD eJ (bD eG (bK fG (pv 0) aO (fun _ _=>rfl)) (bK fG (pv 0) aO (fun _ _=>rfl))) (bD eG aO (bK fG (pv 0) aO (fun _ _=>rfl)))) aO) aO) (pv 1))))),?_⟩
  refine⟨_,rfl,p,_,1,_,rfl,rfl,SqL.of hp,cC (j:=1) rfl,rfl,_,rfl,eW (fun _=> ?_) fun _=> ?_⟩
  ·refine⟨_,rfl,p,_,0,_,rfl,rfl,SqL.of hp,cC (j:=0) rfl,_,rfl,_,_,rfl,rfl,h0,?_⟩;refine⟨_,rfl,p,_,0,_,rfl,rfl,SqL.of hp,cC (j:=0) rfl,_,rfl,_,_,rfl,rfl,⟨h0,by omega⟩,?_⟩;refine⟨_,rfl,p,_,0,0,rfl,rfl,hp,rfl,?_⟩;refine⟨_,rfl,?_⟩;exact q _ _ (Int.emod_nonneg _ (by omega)) (Int.emod_lt_of_pos _ h0) ⟨⟨_,_,aG⟩,fun b o hb e=>by rw [aY hb];exact e⟩
  ·have hm:∀y:Int,0<=y%2147483629/\y%2147483629<2147483629:=fun y=> ⟨Int.emod_nonneg _ (by omega),Int.emod_lt_of_pos _ (by omega)⟩;have b1:=hm x;have b2:=hm (x%2147483629*48271+11);refine⟨_,rfl,p,_,0,_,rfl,rfl,SqL.of hp,cC (j:=0) rfl,_,_,rfl,rfl,(by show(0:Int)<2147483629;decide),_,_,rfl,rfl,.inl ⟨by omega,by omega⟩,_,_,rfl,rfl,_,_,rfl,rfl,(by show(0:Int)<2147483629;decide),?_⟩;refine⟨_,rfl,p,_,0,0,rfl,rfl,hp,rfl,?_⟩;refine⟨_,rfl,p,_,0,_,rfl,rfl,SqL.of aG,cC (j:=0) rfl,_,rfl,p,_,0,_,rfl,rfl,SqL.of aG,cC (j:=0) rfl,_,_,rfl,rfl,.inl ⟨by omega,by omega⟩,?_⟩;refine⟨_,rfl,p,_,0,_,rfl,rfl,SqL.of aG,cC (j:=0) rfl,_,_,rfl,rfl,.inl ⟨by decide,by decide⟩,_,_,rfl,rfl,_,_,rfl,rfl,(by show(0:Int)<2147483647;decide),_,_,rfl,rfl,⟨by decide,by decide⟩,_,rfl,_,_,rfl,rfl,h0,?_⟩;exact q _ _ (Int.emod_nonneg _ (by omega)) (Int.emod_lt_of_pos _ h0) ⟨⟨_,_,aG⟩,fun b o hb e=>by rw [aY hb];exact e⟩
end
def fR:Sp:=fun vs H Q _=> ∃p l xs,vs=[.ref p,.ref l]/\PenAt H p/\l≠p/\H l=some (.lst xs)/\1<=xs.length/\xs.length<=1000/\∀v H',v∈xs->Stp p H H'->Q v H'
section
variable {P:Program}{w:World}{K:W.Frag}{mg:Str->Option Value}{base:Heap}
theorem A0g (F:D1 K mg "_law_pick" uU ["_law_pen_here","_law_things"])(T:TxC mg)(a1:A1 P w K mg base 1 "_law_draw" jE):A1 P w K mg base 2 "_law_pick" fR:=by
 refine F.k ["_law_pen_here","_law_things"] ?_;ac_nf
 ·obtain⟨p,l,xs,rfl,hp,hlp,hl,h1,hz,q⟩:=h;refine⟨_,aM (bA (bK fG (pv 1) (a1.c hr (aB (pv 0) (bY (bH eU rfl T.len PySem.boot_len (aB (pv 1) aA)) aA))) (fun _ _=>rfl))),?_⟩;refine⟨_,rfl,_,rfl,_,rfl,l,xs,rfl,.inl (SqL.of hl),p,(xs.length:Int),rfl,hp,by omega,by omega,fun d H' d0 d1' st=> ?_⟩;obtain⟨n,rfl⟩:=Int.eq_ofNat_of_zero_le d0;have hn:n<xs.length:=by omega
  exact⟨l,xs,_,xs[n],rfl,rfl,SqL.of (st.keep l _ hlp hl),cC (getElem?_eq_getElem hn),q _ _ (getElem_mem _) st⟩
end
def qT (a b:V):Prop:=a=b/\((∃i,a= .int i)\/(∃x,a= .str x)\/(∃y,a= .bl y)\/a= .non)
def SameV (H:Hp):Nat->V->V->Prop
 |0,a,b=>qT a b
 |n+1,a,b=>qT a b\/ ∃p q xs ys,a= .ref p/\b= .ref q/\((H p=some (.lst xs)/\H q=some (.lst ys))\/(H p=some (.tup xs)/\H q=some (.tup ys)))/\xs.length<=1000/\Paired (SameV H n) xs ys
theorem SameV.same (s:Same H H'):∀{n:Nat}{a b:V},SameV H n a b->SameV H' n a b
 |0,_,_,h=>h
 |n+1,a,b,h=>by
  rcases h with h| ⟨p,q,xs,ys,h1,h2,h3,h4,h5⟩
  ·exact .inl h
  ·refine .inr ⟨p,q,xs,ys,h1,h2,?_,h4,Paired.mapP h5 fun _ _ z=>SameV.same s z⟩;rcases h3 with⟨u,v⟩| ⟨u,v⟩
   ·exact .inl ⟨s _ _ u,s _ _ v⟩
   ·exact .inr ⟨s _ _ u,s _ _ v⟩
theorem SameV.int (n:Nat)(i:Int):SameV H n (.int i) (.int i):=by cases n with|zero=>exact⟨rfl,.inl ⟨i,rfl⟩⟩|succ n=>exact .inl ⟨rfl,.inl ⟨i,rfl⟩⟩
theorem SameV.bl (n:Nat)(y:Bool):SameV H n (.bl y) (.bl y):=by cases n with|zero=>exact⟨rfl,.inr (.inr (.inl ⟨y,rfl⟩))⟩|succ n=>exact .inl ⟨rfl,.inr (.inr (.inl ⟨y,rfl⟩))⟩
def gG (n:Nat):Sp:=fun vs H Q _=> ∃a b,vs=[a,b]/\SameV H n a b/\∀H',Same H H'->Q (.bl true) H'
theorem vG:∀{l₁:List α}{l₂:List β}{i:Nat}{a:α}{b:β},Paired F l₁ l₂->l₁[i]?=some a->l₂[i]?=some b->F a b
 |_,_,0,_,_,.cons r _,h1,h2=>by cases h1;cases h2;exact r
 |_,_,i+1,_,_,.cons _ t,h1,h2=>vG (i:=i) t (by simpa using h1) (by simpa using h2)
section
variable {P:Program}{w:World}{K:W.Frag}{mg:Str->Option Value}{base:Heap}
theorem A8y:gL ["_law_told","_law_due"] ["_law_told","_law_due"] (bE jG):=by ac_rfl
theorem wM:(["_law_one","_law_other"]:List Str).Nodup:=by decide +kernel
theorem zD {f:Addr}{fd:FuncData}{k:Nat}{spR:Sp}(F:Fun K "_law_same" "_law_same" jG f fd)(T:TxC mg)(mS:mg "_law_same" =some (.ref f))(bS:L2.Binds K fd ["_law_told","_law_due"] [])
    (G:FnOk P w K mg base CX0 k f fd ["_law_told","_law_due"] spR)(SR:Hp->V->V->Prop)(hSR:∀H H',Same H H'->∀a b,SR H a b->SR H' a b)(hR:∀a b H Q E,SR H a b->(∀H',Same H H'->Q (.bl true) H')->spR [a,b] H Q E):
    FnOk P w K mg base CX0 (k+1) f fd ["_law_told","_law_due"] (fun vs H Q _=> ∃a b,vs=[a,b]/\(qT a b\/ ∃p q xs ys,a= .ref p/\b= .ref q/\((H p=some (.lst xs)/\H q=some (.lst ys))\/(H p=some (.tup xs)/\H q=some (.tup ys)))/\xs.length<=1000/\Paired (SR H) xs ys)/\∀H',Same H H'->Q (.bl true) H'):=by
  refine F.ok A8y (fun vs H Q E h=> ?_) (fun cdv A outer s H vs Q E hr h=> ?_)
  · obtain⟨a,b,rfl,_⟩:=h;rfl
  · obtain⟨a,b,rfl,hS,q⟩:=h
    refine⟨_,aU (bR (bP (bH wG rfl T.isinstance boot_isinstance (aB (pv 1) (gW (cF (aB (fD (v:=.ty "list") rfl T.list boot_list rfl) (aB (fD (v:=.ty "tuple") rfl T.tuple boot_tuple rfl) aA))) aA))))
        (aU (bR (PW.pt (iO (bZ (bP (bH wG rfl T.isinstance boot_isinstance (aB (pv 0) (gW (cF (aB (fD (v:=.ty "list") rfl T.list boot_list rfl) (aB (fD (v:=.ty "tuple") rfl T.tuple boot_tuple rfl) aA))) aA)))))
            (jS (cI nQ (bH gT rfl T.isinstance boot_isinstance (aB (pv 0) (aB (fD (v:=.ty "list") rfl T.list boot_list rfl) aA))) (bH gT rfl T.isinstance boot_isinstance (aB (pv 1) (aB (fD (v:=.ty "list") rfl T.list boot_list rfl) aA))) (nomark _))))) (aM (bA dA)) bU)<|
         aU (bR (cI nQ (bH eU rfl T.len PySem.boot_len (aB (pv 0) aA)) (bH eU rfl T.len PySem.boot_len (aB (pv 1) aA)) (nomark _)) (aM (bA dA)) bU)<|
         aM (bA (bH (fE rfl) rfl T.all boot_all (cM (bN (bE jG).names ["_law_told","_law_due"] ["_law_one","_law_other"] [] rfl (PI.or (lH uV rfl T.zip (aB (pv 0) (aB (pv 1) aA))) (lH wJ rfl T.zip (aB (pv 0) (aB (pv 1) aA)))) rfl rfl rfl (by decide +kernel)
            (fun Z=>bV rfl (aX (nm1 0 wM) (aX (nm1 1 wM) bW))) (fun Z=>cB) (fun Z=>vC G hr rfl mS F.kp bS .nil zL (aB (pv 0) (aB (pv 1) aA)))) aA)))) bU)<|
      aM (bA (fC (dD eX (bH gT rfl T.isinstance boot_isinstance (aB (pv 0) (aB (fD (v:=.ty "bool") rfl T.bool boot_bool rfl) aA))) (bH gT rfl T.isinstance boot_isinstance (aB (pv 1) (aB (fD (v:=.ty "bool") rfl T.bool boot_bool rfl) aA))) (nomark _)) (eZ (dD eX (pv 0) (pv 1) (nomark _))))),?_⟩
    rcases hS with⟨rfl,hf⟩| ⟨p,qq,xs,ys,rfl,rfl,hpq,hz,hP⟩
    ·
      have hsc:scal a a=true:=by rcases hf with⟨i,rfl⟩| ⟨x,rfl⟩| ⟨y,rfl⟩|rfl<;>rfl
      refine⟨_,rfl,by show 2<=sizeLine;decide,fun t ht=> ?_⟩;have s1:=aQ (o:=.tup [.ty "list",.ty "tuple"]) ht;have hty1:∃ty,TyOf K (upd H t (.tup [.ty "list",.ty "tuple"])) a ty/\(∃T,ty= .type T)/\W.kitAny K ty (["list","tuple"].map Value.type)=some false/\∃tb,W.kitOne K ty (.type "bool")=some tb:=by
        rcases hf with⟨i,rfl⟩| ⟨x,rfl⟩| ⟨y,rfl⟩|rfl
        · exact⟨_,.int i,⟨_,rfl⟩,by kernel_rfl,false,by kernel_rfl⟩
        · exact⟨_,.str x,⟨_,rfl⟩,by kernel_rfl,false,by kernel_rfl⟩
        · exact⟨_,.bl y,⟨_,rfl⟩,by kernel_rfl,true,by kernel_rfl⟩
        · exact⟨_,.non,⟨_,rfl⟩,by kernel_rfl,false,by kernel_rfl⟩
      obtain⟨ty1,a1,a2,a3,tb,a4⟩:=hty1;refine⟨_,t,ty1,false,["list","tuple"],rfl,aG,a1,a2,a3,_,rfl,bT ?_⟩;refine⟨_,rfl,_,"bool",ty1,tb,rfl,a1,a4,_,rfl,_,"bool",ty1,tb,rfl,a1,a4,rfl,_,rfl,?_⟩;rw [zjV rfl];refine gB ⟨_,rfl,_,rfl,hsc,?_⟩;rw [zjV rfl];exact q _ s1
    · have hlen:xs.length=ys.length:=Paired.length hP
      refine⟨_,rfl,by show 2<=sizeLine;decide,fun t ht=> ?_⟩;have s1:=aQ (o:=.tup [.ty "list",.ty "tuple"]) ht;have kinds:∃T,(T= "list" \/T= "tuple")/\(∀H',Same H H'->TyOf K H' (.ref p) (.type T)/\TyOf K H' (.ref qq) (.type T))/\W.kitAny K (.type T) (["list","tuple"].map Value.type)=some true/\W.kitOne K (.type T) (.type "list")=some (decide (T= "list")):=by
        rcases hpq with⟨h1,h2⟩| ⟨h1,h2⟩
        · exact⟨"list",.inl rfl,fun H' s=> ⟨.lst (s _ _ h1),.lst (s _ _ h2)⟩,by kernel_rfl,by kernel_rfl⟩
        · exact⟨"tuple",.inr rfl,fun H' s=> ⟨.tup (s _ _ h1),.tup (s _ _ h2)⟩,by kernel_rfl,by kernel_rfl⟩
      obtain⟨TT,hTT,hk,k1,k2⟩:=kinds;refine⟨_,t,.type TT,true,["list","tuple"],rfl,aG,(hk _ s1).2,⟨_,rfl⟩,k1,_,rfl,gB ?_⟩;refine⟨_,rfl,by show 2<=sizeLine;decide,fun t2 ht2=> ?_⟩;have s2:=s1.trans (aQ (o:=.tup [.ty "list",.ty "tuple"]) ht2);refine⟨_,t2,.type TT,true,["list","tuple"],rfl,aG,(hk _ s2).1,⟨_,rfl⟩,k1,_,rfl,bT ?_⟩;refine⟨_,rfl,_,"list",.type TT,_,rfl,(hk _ s2).1,k2,_,rfl,_,"list",.type TT,_,rfl,(hk _ s2).2,k2,rfl,_,rfl,oH rfl ?_⟩;have sq:∀H',Same H H'->(SqL K H' p xs\/SqT K H' p xs)/\(SqL K H' qq ys\/SqT K H' qq ys):=fun H' s=>by
        rcases hpq with⟨h1,h2⟩| ⟨h1,h2⟩
        · exact⟨.inl (SqL.of (s _ _ h1)),.inl (SqL.of (s _ _ h2))⟩
        · exact⟨.inr (SqT.of (s _ _ h1)),.inr (SqT.of (s _ _ h2))⟩
      refine⟨_,rfl,p,xs,rfl,(sq _ s2).1,_,rfl,qq,ys,rfl,(sq _ s2).2,rfl,_,rfl,oH (by rw [hlen]) ?_⟩;have loop:∀(kk:SeqK),(∀H',Same H H'->kk.Sq K H' p xs/\kk.Sq K H' qq ys)->∀(l:Addr)(H2:Hp),Same H H2->H2 l=none->∀(Q':L2.St->Hp->Prop),(∀σ H',Same H2 H'->H' l=some (.lst (xs.map fun _=>V.bl true))->Q' σ H')->
          cP (Itz (fun H xs=>kk.Sq K H p xs) fun H ys=>kk.Sq K H qq ys) (iX K 2 (dX (cJ 0) (dX (cJ 1) iA))) (cK fL (dO l (pD spR [] E0 (cE (cS 0) (cE (cS 1) jO))))) (eC Q') [none,none] (upd H2 l (.lst [])):=by
        intro kk hkk l H2 sH hl Q' hQ';refine oD (xs:=xs) (ys:=ys) (le_of_eq hlen.symm) (fun i σ H'=>σ.length=2/\Same H2 H'/\H' l=some (.lst ((xs.take i).map fun _=>V.bl true))) ⟨rfl,aQ hl,by rw [aG];rfl⟩ (fun i σ H' h=>hkk H' (sH.trans h.2.1)) ?_ ?_
        · rintro i x y p3 σ H' hx hy ⟨hσ,hs,hl'⟩ hp3
          match σ,hσ with
          | [x0,x1],_=>
          have s3:=aQ (o:=.tup [x,y]) hp3;refine⟨p3,_,rfl,SqT.of aG,rfl,_,_,rfl,_,_,rfl,rfl,?_⟩;refine fU ?_;refine⟨_,rfl,_,rfl,?_⟩;refine hR x y _ _ _ (hSR _ _ ((sH.trans hs).trans s3) x y (vG hP hx hy)) fun H4 s4=> ?_;refine⟨_,s4 _ _ (s3 _ _ hl'),cH (by rw [length_map,length_take];omega),rfl,fun b' u e'=> ?_,?_⟩
          · rw [aY (bL e' hl)];exact s4 _ _ (s3 _ _ (hs _ _ e'))
          · rw [aG,take_succ,hx,map_append];rfl
        · rintro σ H' ⟨_,hs,hl'⟩
          rw [take_of_length_le (le_of_eq hlen)]at hl';exact hQ' σ H' hs hl'
      have fin:∀(l:Addr)(H2:Hp),Same H H2->∀(σ:L2.St)(H':Hp),Same H2 H'->H' l=some (.lst (xs.map fun _=>V.bl true))->∃(p:Addr)(bs:List Bool),[V.ref l]=[.ref p]/\SqL K H' p (bs.map V.bl)/\Q (.bl (bs.all id)) H':=fun l H2 sH σ H' hs hl'=>by
        refine⟨l,xs.map fun _=>true,rfl,SqL.of (by rw [hl',map_map];rfl),?_⟩;have:(xs.map fun _=>true).all id=true:=by simp
        rw [this];exact q H' (sH.trans hs)
      rcases hpq with⟨h1,h2⟩| ⟨h1,h2⟩
      · refine .inl ⟨_,rfl,_,rfl,p,qq,xs,ys,rfl,SqL.of (s2 _ _ h1),SqL.of (s2 _ _ h2),fun Z l hl=> ?_⟩
        exact loop kL (fun H' s=> ⟨SqL.of (s _ _ h1),SqL.of (s _ _ h2)⟩) l _ s2 hl _ fun σ H' hs hl'=>fin l _ s2 σ H' hs hl'
      · refine .inr ⟨_,rfl,_,rfl,p,qq,xs,ys,rfl,SqT.of (s2 _ _ h1),SqT.of (s2 _ _ h2),fun Z l hl=> ?_⟩
        exact loop kT (fun H' s=> ⟨SqT.of (s _ _ h1),SqT.of (s _ _ h2)⟩) l _ s2 hl _ fun σ H' hs hl'=>fin l _ s2 σ H' hs hl'
theorem xI {f:Addr}{fd:FuncData}(F:Fun K "_law_same" "_law_same" jG f fd)(T:TxC mg)(mS:mg "_law_same" =some (.ref f))(bS:L2.Binds K fd ["_law_told","_law_due"] []):∀n:Nat,FnOk P w K mg base CX0 (n+1) f fd ["_law_told","_law_due"] (gG n)
 |0=>(zD (k:=0) F T mS bS FnOk.never (fun _ _ _=>False) (fun _ _ _ _ _ z=>z) (fun _ _ _ _ _ z=>z.elim)).imp fun vs H Q E h=>by
  obtain⟨a,b,e,h1,h2⟩:=h;exact⟨a,b,e,.inl h1,h2⟩
 |n+1=>(zD (k:=n+1) F T mS bS (xI F T mS bS n) (fun H a b=>SameV H n a b) (fun H H' s a b z=>SameV.same s z) (fun a b H Q E h q=> ⟨a,b,rfl,h,q⟩)).imp fun vs H Q E h=>by
  obtain⟨a,b,e,h1,h2⟩:=h;exact⟨a,b,e,h1,h2⟩
theorem oQ (F:D1 K mg "_law_same" jG ["_law_told","_law_due"])(T:TxC mg)(n:Nat):A1 P w K mg base (n+1) "_law_same" (gG n):=let ⟨_,_,F,m,b⟩:=F;⟨_,_,_,m,F.kp,b,xI F T m b n⟩
end
def ent (c:C3):List Key×V:=([Sum.inl c.1,Sum.inl c.2.1],.int c.2.2)
def fM (es:List C3)(h s m:Int):List C3:=if (es.any fun c=>decide (bO c=(h,s)))=true then es.map (fun c=>if bO c=(h,s)then(h,s,m)else c)else es++[(h,s,m)]
theorem key_eq:(ent c).1=[Sum.inl h,Sum.inl s]↔bO c=(h,s):=by
 unfold ent bO;constructor
 ·intro e;have e1:=(List.cons.inj e).1;have e2:=(List.cons.inj (List.cons.inj e).2).1;rw [Sum.inl.inj e1,Sum.inl.inj e2]
 ·intro e;rw [(Prod.mk.inj e).1,(Prod.mk.inj e).2]
theorem A30 (es:List C3)(h s m:Int):eV (es.map ent) [Sum.inl h,Sum.inl s] (.int m)=(fM es h s m).map ent:=by
 unfold eV fM;have e1:((es.map ent).any fun kv=>decide (kv.1=[Sum.inl h,Sum.inl s]))=es.any fun c=>decide (bO c=(h,s)):=by
  rw [any_map]
  congr 1
  funext c
  exact decide_eq_decide.mpr key_eq
 rw [e1]
 split
 ·rw [map_map,map_map];refine map_congr_left fun c _=> ?_;show(if (ent c).1=[Sum.inl h,Sum.inl s]then((ent c).1,V.int m)else ent c)=ent (if bO c=(h,s)then(h,s,m)else c);by_cases e:bO c=(h,s)
  ·rw [if_pos (key_eq.mpr e),if_pos e,key_eq.mpr e];rfl
  ·rw [if_neg (fun z=>e (key_eq.mp z)),if_neg e]
 ·rw [map_append];rfl
theorem A1n (es:List C3)(h s m:Int)(hn:(es.map bO).Nodup):((fM es h s m).map bO).Nodup:=by
 unfold fM;by_cases hany:(es.any fun c=>decide (bO c=(h,s)))=true
 ·rw [if_pos hany,map_map];have:es.map (bO∘fun c=>if bO c=(h,s)then(h,s,m)else c)=es.map bO:=map_congr_left fun c _=>by
   show bO (if bO c=(h,s)then(h,s,m)else c)=bO c;by_cases e:bO c=(h,s)
   ·rw [if_pos e,e];rfl
   ·rw [if_neg e]
  rw [this];exact hn
 ·rw [if_neg hany,map_append];refine nodup_append.mpr ⟨hn,by simp,fun a ha b hb e=>hany ?_⟩;have hb':b=(h,s):=by simpa [bO]using hb
  obtain⟨c,hc,rfl⟩:=mem_map.mp ha;exact any_eq_true.mpr ⟨c,hc,zjV (e.trans hb')⟩
theorem A61 {es:List C3}{h s m:Int}{B:C3->Prop}(ha:∀c∈es,B c)(hb:B (h,s,m)):∀c∈fM es h s m,B c:=by
 unfold fM;intro c hc;by_cases hany:(es.any fun c=>decide (bO c=(h,s)))=true
 ·rw [if_pos hany]at hc;obtain⟨d,hd,rfl⟩:=mem_map.mp hc;by_cases e:bO d=(h,s)
  ·rw [if_pos e];exact hb
  ·rw [if_neg e];exact ha d hd
 ·rw [if_neg hany]at hc;rcases mem_append.mp hc with z|z
  ·exact ha c z
  ·rw [mem_singleton.mp z];exact hb
theorem A2i (es:List C3)(h s m:Int):(fM es h s m).length<=es.length+1/\1<=(fM es h s m).length:=by
 unfold fM;by_cases hany:(es.any fun c=>decide (bO c=(h,s)))=true
 ·rw [if_pos hany,length_map];refine⟨by omega,?_⟩;obtain⟨c,hc,_⟩:=any_eq_true.mp hany;exact List.length_pos_of_mem hc
 ·rw [if_neg hany,length_append];simp
def row (c:C3):List Int:=[c.1,c.2.1,c.2.2]
def unrow:List Int->C3| [a,b,c]=>(a,b,c)|_=>(0,0,0)
theorem A0s (h:HT.lexLt (row b) (row a)=false)(hn:bO a≠bO b):lt2 (bO a) (bO b)=true:=by
 obtain⟨a1,a2,a3⟩:=a;obtain⟨b1,b2,b3⟩:=b;unfold row at h;unfold lt2 bO;unfold bO at hn;dsimp only at h hn⊢;rw [HT.lexLt_cons,HT.lexLt_cons]at h⊢;by_cases e1:a1=b1
 ·subst e1;rw [if_pos rfl]at h⊢;by_cases e2:a2=b2
  ·subst e2;exact absurd rfl hn
  ·rw [if_neg (fun z=>e2 z.symm),decide_eq_false_iff_not]at h;rw [if_neg e2,decide_eq_true_eq];omega
 ·rw [if_neg (fun z=>e1 z.symm),decide_eq_false_iff_not]at h;rw [if_neg e1,decide_eq_true_eq];omega
theorem A4z (hz:zs.map (·.2)=es.map row)(hs:pG zs zs')(h1:1<=es.length)(h12:es.length<=12)(hb:∀c∈es,(0<=c.1/\c.1<=3)/\(0<=c.2.1/\c.2.1<=5)/\1<=c.2.2/\c.2.2<=20)(hn:(es.map bO).Nodup):
  eY (zs'.map fun z=>unrow z.2)/\(zs'.map fun z=>unrow z.2).Perm es/\∀z∈zs',z.2=row (unrow z.2):=by
 have hlen:zs.length=es.length:=by have:=congrArg List.length hz;simpa using this
 have e0:zs.map (fun z=>unrow z.2)=es:=by
  have:zs.map (fun z=>unrow z.2)=(zs.map (·.2)).map unrow:=by rw [map_map];rfl
  rw [this,hz,map_map];exact List.map_id' es
 have hp:(zs'.map fun z=>unrow z.2).Perm es:=by rw [←e0];exact hs.1.map _
 have hrow:∀z∈zs',z.2=row (unrow z.2):=fun z hz'=>by
  have hm:z.2∈zs.map (·.2):=mem_map_of_mem (hs.1.mem_iff.mp hz');rw [hz]at hm;obtain⟨c,_,e⟩:=mem_map.mp hm;rw [←e];rfl
 have hl':(zs'.map fun z=>unrow z.2).length=es.length:=hp.length_eq;refine⟨⟨by omega,by omega,fun c hc=>hb c (hp.mem_iff.mp hc),?_⟩,hp,hrow⟩;have nd:((zs'.map fun z=>unrow z.2).map bO).Nodup:=((hp.map bO).nodup_iff).mpr hn;rw [map_map]at nd⊢;rw [nodup_iff_pairwise_ne,pairwise_map]at nd;rw [pairwise_map];have both:=hs.2.and nd;rw [pairwise_iff_getElem]at both⊢;intro i j hi hj hij;have b:=both i j hi hj hij;have r1:=hrow _ (getElem_mem hi);have r2:=hrow _ (getElem_mem hj);have b1:=b.1;rw [r1,r2]at b1;exact A0s b1 b.2
def vS:Sp:=fun vs H Q _=> ∃p,vs=[.ref p]/\PenAt H p/\∀a cs H',Stp p H H'->dZ H' a cs->eI cs->cs.length<=4->Q (.ref a) H'
section
variable {P:Program}{w:World}{K:W.Frag}{mg:Str->Option Value}{base:Heap}
theorem A4h:(["_law_turn","_law_pen_here"]:List Str).Nodup:=by decide +kernel
theorem A2n (F:D1 K mg "_law_custom" oU ["_law_pen_here"])(T:TxC mg)(a1:A1 P w K mg base 1 "_law_draw" jE)(a2:A1 P w K mg base 2 "_law_pick" fR):A1 P w K mg base 3 "_law_custom" vS:=by
 refine F.k ["_law_pen_here"] ?_;ac_nf
 ·obtain⟨p,rfl,hp,q⟩:=h;have r1:Room 1 _:=hr.mono (by decide);refine⟨_,aM (bA (fO kP rfl T.tuple boot_tuple (cM (bN (bE oU).names ["_law_pen_here"] ["_law_turn"] [("_law_pen_here",0)] rfl (gK rfl T.range (dM (bD eJ aO (a1.c r1 (aB (pv 0) (cW aO aA)))) aA)) rfl rfl rfl (by decide +kernel)
   (fun Z=>nm1 0 A4h) (fun Z=>cB)
   (fun Z=>a2.c hr (aB (pv 1) (jL (fH (lstq (bM (bM (bM (bM (jD (bD eJ aO (a1.c r1 (aB (pv 1) (cW aO aA)))) cQ)))))) cQ))))) aA))),?_⟩
  refine⟨_,rfl,p,4,rfl,hp,by decide,by decide,fun d H1 d0 d1' st1=> ?_⟩;refine⟨_,_,rfl,rfl,1+d,rfl,by omega,by omega,fun Z l hl=> ?_⟩;have hHl:H l=none:=by
   cases e:H l with
   |none=>rfl
   |some o=>
    by_cases z:l=p
    ·obtain⟨x,f',e'⟩:=st1.pen;rw [z,e']at hl;cases hl
    ·rw [st1.keep l o z e]at hl;cases hl
  have hlp:l≠p:=fun z=>by
   obtain⟨x,f',e'⟩:=hp;rw [z,e']at hHl;cases hHl
  refine gM (lo:=0) (n:=(1+d).toNat) (fun i σ H'=>(∃o,σ=[o,some (.ref p)])/\Stp p H H'/\∃cs:List Int,H' l=some (.lst (cs.map V.int))/\cs.length=i/\∀x∈cs,1<=x/\x<=100) ⟨⟨_,rfl⟩,st1.updL hHl hp,[],by rw [aG];rfl,rfl,fun x hx=>by cases hx⟩ ?_ ?_
  ·rintro i σ H' hi ⟨⟨o,rfl⟩,st,cs,hl',hn,hx⟩;refine mL ?_;refine⟨_,rfl,_,rfl,p,100,rfl,st.pen,by decide,by decide,fun m H2 m0 m1 st2=> ?_⟩;refine⟨_,_,rfl,rfl,by show 5<=sizeLine;decide,fun t ht=> ?_⟩;have htp:t≠p:=fun z=>by
    obtain⟨x,f',e'⟩:=st2.pen;rw [z,e']at ht;cases ht
   have st3:=(st.trans st2).same (aQ (o:=.lst [.int 1,.int 1,.int 2,.int 3,.int (1+m)]) ht);refine⟨p,t,_,rfl,st3.pen,htp,aG,by show 1<=5;decide,by show 5<=1000;decide,fun v H4 hv st4=> ?_⟩;obtain⟨x,rfl,hx1,hx2⟩:∃x,v=V.int x/\1<=x/\x<=100:=by
    simp only [mem_cons,not_mem_nil,or_false]at hv;rcases hv with rfl|rfl|rfl|rfl|rfl
    ·exact⟨1,rfl,by decide,by decide⟩
    ·exact⟨1,rfl,by decide,by decide⟩
    ·exact⟨2,rfl,by decide,by decide⟩
    ·exact⟨3,rfl,by decide,by decide⟩
    ·exact⟨1+m,rfl,by omega,by omega⟩
   have hlt:H2 l=some (.lst (cs.map V.int)):=st2.keep l _ hlp hl';have hlt3:=aQ (o:=.lst [.int 1,.int 1,.int 2,.int 3,.int (1+m)]) ht _ _ hlt;refine⟨_,st4.keep l _ hlp hlt3,cH (by rw [length_map];omega),⟨_,rfl⟩,(st3.trans st4).updL hHl hp,cs++[x],?_,by rw [length_append,hn];rfl,fun y hy=> ?_⟩
   ·rw [aG,map_append];rfl
   ·rcases mem_append.mp hy with z|z
    ·exact hx y z
    ·rw [mem_singleton.mp z];exact⟨hx1,hx2⟩
  ·rintro σ H' ⟨_,st,cs,hl',hn,hx⟩;refine⟨l,_,rfl,.inl ⟨SqL.of hl',fun a ha=> ?_⟩⟩;exact q a cs _ (st.same (aQ ha)) aG ⟨by omega,by omega,hx⟩ (by omega)
end
end M07
namespace L2
open PySem PySem.Spec PyProof.Rows
theorem Stp.updO (s:Stp p H H1)(hd:H d=none)(hp:PenAt H p):Stp p H (upd H1 d o):=by obtain⟨x,f,e⟩:=hp;have hne:p≠d:=bL e hd;obtain⟨x',f',e'⟩:=s.pen;exact⟨⟨x',f',by rw [aY hne];exact e'⟩,fun b o hb h=>by rw [aY (bL h hd)];exact s.keep b o hb h⟩
theorem Stp.none (s:Stp p H H1)(h:H1 b=Option.none):H b=Option.none/\b≠p:=by
 have hb:b≠p:=fun z=>by
  obtain⟨x,f,e⟩:=s.pen;rw [z,e]at h;cases h
 refine⟨?_,hb⟩;cases e:H b with
 |none=>rfl
 |some o=>rw [s.keep b o hb e]at h;cases h
theorem A5x (Pv:Nat->St->Hp->Prop)(h0:Pv 0 σ H)(hl:∀i σ H,Pv i σ H->H d=some (.frz o (.dT kvs)))
  (hs:∀i k x p b σ H,kvs[i]?=some (k,x)->Pv i σ H->H p=none->H b=some (.tup (k.map kV))->g (.ref p) σ (upd H p (.tup [.ref b,x])) fun σ2 H2=>tb {D with nx:=Pv (i+1),ct:=Pv (i+1),bk:=D.nx} σ2 H2)(hd:∀σ H,Pv kvs.length σ H->D.nx σ H):
  cP (Itm d o kvs) g tb D σ H:=by
 refine⟨fun i m σ H=>m=kvs.length - i/\i<=kvs.length/\Pv i σ H,⟨kvs.length,by simp,zero_le _,h0⟩,?_⟩;rintro i m σ H ⟨rfl,hi,p⟩;by_cases hlt:i<kvs.length
 ·refine .inr ⟨⟨hl i σ H p,hlt⟩,Pv (i+1),fun σ' H' p'=> ⟨kvs.length -(i+1),by omega,rfl,hlt,p'⟩,fun x H' y=> ?_⟩;obtain⟨pp,b,k,x',e1,e2,e3,e4,e5⟩:=y;subst e1 e3;exact hs i k x' pp b σ H e4 p e2 e5
 ·have e:i=kvs.length:=by omega
  subst e;exact .inl ⟨⟨hl _ σ H p,rfl⟩,hd σ H p⟩
end L2
namespace M07
open PySem L2 PyProof.Rows Set4 Grd Wlk Cyc Srt
def kJ (hs:List Int):Prop:=1<=hs.length/\hs.length<=1000/\∀x∈hs,0<=x/\x<=3
def yC:Sp:=fun vs H Q _=> ∃p c hl cs hs,vs=[.ref p,.ref c,.ref hl]/\PenAt H p/\dZ H c cs/\eI cs/\hl≠p/\H hl=some (.lst ((hs:List Int).map V.int))/\kJ hs/\∀a cl H',Stp p H H'->ClT H' a cl->eY cl->gF cs cl->Q (.ref a) H'
abbrev nCL:List Str:=["_law_pen_here","_law_custom_here","_law_holders_here","_law_rights","_law_turn","_law_holder","_law_sort"]
section
variable {P:Program}{w:World}{K:W.Frag}{mg:Str->Option Value}{base:Heap}
theorem uQ:(["_law_pair","_law_many"]:List Str).Nodup:=by decide +kernel
theorem A4v (F:D1 K mg "_law_claims" nE ["_law_pen_here","_law_custom_here","_law_holders_here"])(T:TxC mg)(a1:A1 P w K mg base 1 "_law_draw" jE)(a2:A1 P w K mg base 2 "_law_pick" fR):A1 P w K mg base 3 "_law_claims" yC:=by
  refine F.k nCL ?_;ac_nf
  · obtain⟨p,c,hl,cs,hs,rfl,hp,hc,Gc,hlp,hhl,Gh,q⟩:=h
    have r1:Room 1 _:=hr.mono (by decide);have hu:(A.deeper (envOfC "_law_claims" (bE nE) s.heap.objs.size f cdv)).units+1<cLine:=nD hr;refine⟨_,aU (bQ (i:=3) nd rfl (Or.inl rfl) A0x)<|
      aU (eF PassesOwn.never rfl (gK rfl T.range (dM (bD eJ aO (a1.c r1 (aB (pv 0) (cW aO aA)))) aA)) (nm1 4 nd)
        (aU (jH (i:=5) (j:=6) rfl nd rfl rfl (by decide) rfl rfl (bY (a2.c hr (aB (pv 0) (aB (pv 2) aA))) (bY (a1.c r1 (aB (pv 0) (bY (bH eU rfl T.len PySem.boot_len (aB (pv 1) aA)) aA))) aA)) rfl)<|
         aM (A9e hu (pv 3) (cF (aB (pv 5) (aB (pv 6) aA))) (a2.c hr (aB (pv 0) (jL (fH (lstq (bM (bM (bM (bM (jD (bD eJ aO (a1.c r1 (aB (pv 0) (cW aO aA)))) cQ)))))) cQ)))) rfl)))<|
      aM (bA (fO kP rfl T.tuple boot_tuple (bY (bH uY rfl T.sorted boot_sorted (cM (bN (bE nE).names nCL ["_law_pair","_law_many"] [] rfl (A9d (pv 3)) rfl rfl rfl (by decide +kernel)
        (fun Z=>bV rfl (aX (nm1 0 uQ) (aX (nm1 1 uQ) bW))) (fun Z=>cB) (fun Z=>bD mI (pv 0) (cF (aB (pv 1) aA)))) aA)) aA))),?_⟩
    intro d hd;have st0:Stp p H (upd H d (.dT [])):=(Stp.refl hp).updO hd hp;refine⟨_,rfl,p,8,rfl,st0.pen,by decide,by decide,fun dn H1 d0 d1' st1=> ?_⟩;refine⟨_,_,rfl,rfl,1+dn,rfl,by omega,by omega,?_⟩;have hdp:d≠p:=fun z=>by
      obtain⟨x,y,e⟩:=hp;rw [z,e]at hd;cases hd
    refine gM (lo:=0) (n:=(1+dn).toNat) (fun i σ H'=>(∃o4 o5 o6,σ=[some (.ref p),some (.ref c),some (.ref hl),some (.ref d),o4,o5,o6])/\Stp p H H'/\∃es:List C3,H' d=some (.dT (es.map ent))/\(es.map bO).Nodup/\(∀x∈es,((0<=x.1/\x.1<=3)/\(0<=x.2.1/\x.2.1<=5)/\1<=x.2.2/\x.2.2<=20)/\x.2.1<cs.length)/\es.length<=i/\(1<=i->1<=es.length))
      ⟨⟨_,_,_,rfl⟩,st0.trans st1,[],st1.keep d _ hdp aG,nodup_nil,(fun x hx=>by cases hx),zjQ _,fun z=>by omega⟩ ?_ ?_
    · rintro i σ H' hi ⟨⟨o4,o5,o6,rfl⟩,st,es,hd',hn,hb,hlen,_⟩
      have hcH:∀H2,Stp p H H2->dZ H2 c cs:=fun H2 s=>s.keep c _ (hp.ne hc (by intro z;simp)) hc;refine⟨_,rfl,_,rfl,p,hl,_,rfl,st.pen,hlp,st.keep hl _ hlp hhl,by rw [length_map];exact Gh.1,by rw [length_map];exact Gh.2.1,fun v H2 hv st2=> ?_⟩;obtain⟨hh,hhm,rfl⟩:=mem_map.mp hv;have hhb:=Gh.2.2 hh hhm;have st12:=st.trans st2;refine⟨_,rfl,_,rfl,c,_,rfl,.inr (SqT.of (hcH _ st12)),p,_,rfl,st12.pen,?_,?_,fun sn H3 s0 s1 st3=> ?_⟩
      · rw [length_map];have:=Gc.l1;omega
      · rw [length_map];have:=Gc.l6;omega
      rw [length_map]at s1;refine⟨_,_,rfl,?_⟩;have st13:=st12.trans st3;refine⟨_,rfl,_,rfl,p,20,rfl,st13.pen,by decide,by decide,fun m H4 m0 m1 st4=> ?_⟩;refine⟨_,_,rfl,rfl,by show 5<=sizeLine;decide,fun t ht=> ?_⟩;have st14:=st13.trans st4;have htn:=st14.none ht;have st5:=st14.same (aQ (o:=.lst [.int 1,.int 1,.int 2,.int 3,.int (1+m)]) ht);refine⟨p,t,_,rfl,st5.pen,htn.2,aG,by show 1<=5;decide,by show 5<=1000;decide,fun v H6 hv6 st6=> ?_⟩;obtain⟨x,rfl,hx1,hx2⟩:∃x,v=V.int x/\1<=x/\x<=20:=by
        simp only [mem_cons,not_mem_nil,or_false]at hv6;rcases hv6 with rfl|rfl|rfl|rfl|rfl
        · exact⟨1,rfl,by decide,by decide⟩
        · exact⟨1,rfl,by decide,by decide⟩
        · exact⟨2,rfl,by decide,by decide⟩
        · exact⟨3,rfl,by decide,by decide⟩
        · exact⟨1+m,rfl,by omega,by omega⟩
      have st7:=st5.trans st6;have hd4:H4 d=some (.dT (es.map ent)):=st4.keep d _ hdp (st3.keep d _ hdp (st2.keep d _ hdp hd'));have hd6:H6 d=some (.dT (es.map ent)):=st6.keep d _ hdp (aQ (o:=.lst [.int 1,.int 1,.int 2,.int 3,.int (1+m)]) ht _ _ hd4);refine⟨_,rfl,_,rfl,_,rfl,by show 2<=sizeLine;decide,fun k hk=> ?_⟩;have hkd:d≠k:=fun z=>by rw [←z,hd6]at hk;cases hk
      have hd8:(upd H6 k (.tup [.int hh,.int sn])) d=some (.dT (es.map ent)):=by rw [aY hkd];exact hd6
      have hkt:(upd H6 k (.tup [.int hh,.int sn])) k=some (.tup (([Sum.inl hh,Sum.inl sn]:List Key).map kV)):=by rw [aG];rfl
      refine⟨d,_,rfl,DPut.t hd8 hkt (by rw [length_map];exact cH (by omega)),?_⟩;rw [A30];have hl2:=A2i es hh sn x;refine⟨⟨_,_,_,rfl⟩,(st7.same (aQ hk)).updO hd hp,fM es hh sn x,aG,A1n es hh sn x hn,A61 hb ⟨⟨hhb,⟨s0,by have:=Gc.l6;show sn<=5;omega⟩,hx1,hx2⟩,s1⟩,by omega,fun _=>hl2.2⟩
    · rintro σ H' ⟨⟨o4,o5,o6,rfl⟩,st,es,hd',hn,hb,hlen,h1⟩
      have hel:es.length<=8:=by omega
      have he1:1<=es.length:=h1 (by omega);refine⟨_,rfl,d,_,rfl,hd',fun o Z l hl0=> ?_⟩;have stf:Stp p H (upd H' d (.frz o (.dT (es.map ent)))):=st.updO hd hp;have hln:=stf.none hl0;have hld:l≠d:=fun z=>by rw [z,aG]at hl0;cases hl0
      refine A5x (fun i σ H2=>σ.length=2/\H2 d=some (.frz o (.dT (es.map ent)))/\Stp p H H2/\∃zs:List (Addr×List Int),H2 l=some (.lst (zs.map fun z=>V.ref z.1))/\zs.map (·.2)=(es.take i).map row/\∀z∈zs,H2 z.1=some (.tup (z.2.map V.int)))
        ⟨rfl,by rw [aY hld.symm,aG],stf.updO hln.1 hp,[],by rw [aG];rfl,rfl,fun z hz=>by cases hz⟩ (fun i σ H2 h=>h.2.1) ?_ ?_
      · rintro i k x pp b σ H2 hki ⟨hσ,hfz,st2,zs,hl2,hzr,hza⟩ hpp hb2
        match σ,hσ with
        | [x0,x1],_=>
        rw [getElem?_map]at hki;cases hei:es[i]? with
        |none=>rw [hei]at hki;cases hki
        |some cc=>
        rw [hei]at hki;have hke:ent cc=(k,x):=Option.some.inj hki;have ek:k=[Sum.inl cc.1,Sum.inl cc.2.1]:=(Prod.mk.inj hke).1.symm;have ex:x=V.int cc.2.2:=(Prod.mk.inj hke).2.symm;subst ek ex;have hi:i<es.length:=(zjW.mp hei).1;have hzl:zs.length<=i:=by
          have:=congrArg List.length hzr;rw [length_map,length_map,length_take]at this;omega
        have s3:=aQ (o:=.tup [.ref b,.int cc.2.2]) hpp;refine⟨pp,_,rfl,SqT.of aG,rfl,_,_,rfl,_,_,rfl,rfl,?_⟩;refine fU ?_;refine⟨_,rfl,_,rfl,by show 1<=sizeLine;decide,fun t ht=> ?_⟩;have s4:=aQ (o:=.tup [.int cc.2.2]) ht;refine⟨b,t,_,[.int cc.2.2],rfl,rfl,s4 _ _ (s3 _ _ hb2),aG,by show 2+1<=sizeLine;decide,fun u H5 s5 hu5=> ?_⟩;have s35:=(s3.trans s4).trans s5;have hl5:=s35 _ _ hl2;refine⟨_,hl5,cH (by rw [length_map];omega),rfl,?_,(st2.same s35).updO hln.1 hp,zs++[(u,row cc)],?_,?_,fun z hz=> ?_⟩
        · rw [aY hld.symm];exact s35 _ _ hfz
        · rw [aG,map_append];rfl
        · rw [map_append,hzr,take_succ,hei,map_append];rfl
        · have up:∀a xs,H5 a=some (.tup xs)->(upd H5 l (.lst (zs.map (fun z=>V.ref z.1)++[.ref u]))) a=some (.tup xs):=fun a xs e=>by rw [aY (fun z=>by rw [z,hl5]at e;cases e)];exact e
          rcases mem_append.mp hz with z'|z'
          · exact up _ _ (s35 _ _ (hza z z'))
          · rw [mem_singleton.mp z'];exact up _ _ hu5
      · rintro σ H2 ⟨_,_,st2,zs,hl2,hzr,hza⟩
        rw [length_map,take_of_length_le (zjQ _)]at hzr;have hzl:zs.length=es.length:=by
          have:=congrArg List.length hzr;simpa using this
        refine⟨l,zs,rfl,SqL.of hl2,fun z hz=> ⟨hza z hz,fun e=> ?_⟩,by omega,fun l2 zs' hl3 hs2=> ?_⟩
        · have hm:z.2∈es.map row:=by rw [←hzr];exact mem_map_of_mem hz
          obtain⟨c',_,e'⟩:=mem_map.mp hm;rw [←e']at e;cases e
        have s3:=aQ (o:=.lst (zs'.map fun z=>V.ref z.1)) hl3;obtain⟨gO,gP,gR⟩:=A4z hzr hs2 he1 (by omega) (fun x hx=>(hb x hx).1) hn;refine⟨l2,_,rfl,.inl ⟨SqL.of aG,fun a ha=> ?_⟩⟩;have s4:=aQ (o:=.tup (zs'.map fun z=>V.ref z.1)) ha;refine q a (zs'.map fun z=>unrow z.2) _ ((st2.same s3).same s4) ⟨zs'.map (·.1),by rw [aG,map_map];rfl,?_⟩ gO fun x hx=>(hb x (gP.mem_iff.mp hx)).2;have go:∀ys:List (Addr×List Int),(∀z∈ys,z∈zs')->ClP (upd (upd H2 l2 (.lst (zs'.map fun z=>V.ref z.1))) a (.tup (zs'.map fun z=>V.ref z.1))) (ys.map (·.1)) (ys.map fun z=>unrow z.2):=fun ys=>by
          induction ys with
          |nil=>intro _;exact .nil
          |cons y ys ih=>
            intro hy;refine .cons ?_ (ih fun z hz=>hy z (zjS _ hz));have hy':=hy y zjR;have e:=hza y (hs2.1.mem_iff.mp hy');rw [gR y hy']at e;exact s4 _ _ (s3 _ _ e)
        exact go zs' fun z hz=>hz
end
def pZ:Sp:=fun vs H Q _=> ∃c a cs cl i,vs=[.ref c,.ref a,.int i]/\dZ H c cs/\eI cs/\ClT H a cl/\Fine cs cl/\Q (.int (bI cs cl i)) H
def oZ:Sp:=fun vs H Q _=> ∃c a cs cl,vs=[.ref c,.ref a]/\dZ H c cs/\eI cs/\ClT H a cl/\Fine cs cl/\∀H',Same H H'->Q (.int (bG cs cl)) H'
theorem A7y (h:∀c∈cl,0<=c.1):(fun k=>decide (k∈cl.map fun c=>c.1.toNat))=fY cl:=funext fun k=>by
 unfold fY dL;rw [Bool.eq_iff_iff,decide_eq_true_eq,mem_map,any_eq_true];constructor
 ·rintro⟨c,hc,e⟩;exact⟨c,hc,zjV (by have:=h c hc;omega)⟩
 ·rintro⟨c,hc,e⟩;have:=of_decide_eq_true e;exact⟨c,hc,by omega⟩
theorem A8z {cs:List Int}{cl:List C3}{j:Nat}{y:C3}(i:Int)(hy:cl[j]?=some y):bI cs (cl.take (j+1)) i=bI cs (cl.take j) i+cw cs y*(if decide (y.1=i)=true then 1 else 0):=by
 unfold bI bG ofH;rw [take_succ,hy,filter_append,map_append,sum_append]
 congr 1
 by_cases z:y.1=i
 ·simp [z]
 ·simp [z]
section
variable {P:Program}{w:World}{K:W.Frag}{mg:Str->Option Value}{base:Heap}
theorem A5z (F:D1 K mg "_law_holders" pB ["_law_claims_here"])(T:TxC mg):A1 P w K mg base 1 "_law_holders" rP:=by
 refine F.k ["_law_claims_here"] ?_;ac_nf
 ·obtain⟨a,cl,rfl,⟨bs,ha,hC⟩,G,q⟩:=h;have hl:bs.length=cl.length:=Paired.length hC;have h12:=G.l12;refine⟨_,aM (bA (bH (A3s rfl) rfl T.sorted boot_sorted (bY (fO (A6x rfl) rfl T.set PyProof.Rows.boot_set (cM (bN (bE pB).names ["_law_claims_here"] ["_law_claim"] [] rfl (cY (pv 0)) rfl rfl rfl (by decide +kernel)
   (fun Z=>aJ (i:=0) (show(["_law_claim"]:List Str).Nodup by decide +kernel) rfl (Or.inl rfl)) (fun Z=>cB) (fun Z=>bK cA (pv 0) aO (fun _ _=>rfl))) aA)) aA))),?_⟩
  refine⟨_,rfl,a,rfl,⟨_,SqT.of ha⟩,fun Z l hl0=> ?_⟩;refine gE (K:=K) (a:=a) (xs:=bs.map V.ref) (fun j σ H'=>σ.length=1/\Same H H'/\H' l=some (.lst ((cl.take j).map fun c=>V.int c.1))) ⟨rfl,aQ hl0,by rw [aG];rfl⟩ (fun j σ H' _ h=>SqT.of (h.2.1 _ _ ha)) ?_ ?_
  ·rintro j x σ H' hx ⟨hσ,hs,hl2⟩
   match σ,hσ with
   | [x0],_=>
   rw [getElem?_map]at hx;cases hb:bs[j]? with
   |none=>rw [hb]at hx;cases hx
   |some b=>
    rw [hb]at hx;cases hx;obtain⟨y,hy,he⟩:=hC.get hb;have hj:j<bs.length:=(zjW.mp hb).1;refine mL ?_;refine⟨_,rfl,b,_,0,.int y.1,rfl,rfl,SqT.of (hs _ _ he),cC (j:=0) rfl,?_⟩;refine⟨_,hl2,cH (by rw [length_map,length_take];omega),rfl,fun b' u e=> ?_,?_⟩
    ·rw [aY (bL e hl0)];exact hs _ _ e
    ·rw [aG,take_succ,hy,map_append];rfl
  ·rintro σ H' ⟨_,hs,hl2⟩;rw [length_map,hl,take_of_length_le (zjQ _)]at hl2;have h0:∀c∈cl,0<=c.1:=fun c hc=>(G.num c hc).1.1;have e2:(cl.map fun c=>V.int c.1)=(cl.map fun c=>c.1.toNat).map fun n:Nat=>V.int (n:Int):=by
    rw [map_map];refine map_congr_left fun c hc=> ?_;have:=h0 c hc;show V.int c.1=V.int ((c.1.toNat:Nat):Int);rw [Int.toNat_of_nonneg this]
   rw [e2]at hl2;refine⟨l,cl.map fun c=>c.1.toNat,rfl,SqL.of hl2,fun n hn=> ?_,fun l2 hl3=> ?_⟩
   ·obtain⟨c,hc,rfl⟩:=mem_map.mp hn;have:=(G.num c hc).1;omega
   ·rw [A7y h0];have s2:=aQ (o:=kQ w l2 (fY cl)) hl3;refine⟨l2,fY cl,rfl,aG,fun l4 hl4=> ?_⟩;have s3:=aQ (o:=.lst ((aV (fY cl)).map fun k:Nat=>V.int (k:Int))) hl4;have sA:=(hs.trans s2).trans s3;have hn4:H l4=none:=by
     cases e:H l4 with
     |none=>rfl
     |some o=>exact nomatch (s2 _ _ (hs _ _ e)).symm.trans hl4
    exact q l4 _ hn4 sA aG
theorem A9r (F:D1 K mg "_law_count" sS ["_law_custom_here","_law_claims_here","_law_holder"])(T:TxC mg):A1 P w K mg base 1 "_law_count" pZ:=by
 refine F.k ["_law_custom_here","_law_claims_here","_law_holder","_law_total_here","_law_one","_law_sort","_law_many"] ?_;ac_nf
 ·obtain⟨c,a,cs,cl,i,rfl,hc,Gc,⟨bs,ha,hC⟩,hf,q⟩:=h;have hl:bs.length=cl.length:=Paired.length hC;refine⟨_,aU (bQ (i:=3) nd rfl (Or.inl rfl) aO)<|
   aU (eF PassesOwn.never rfl (cY (pv 1)) (bV rfl (aX (nm1 4 nd) (aX (nm1 5 nd) (aX (nm1 6 nd) bW))))
    (aM (bQ (i:=3) nd rfl (Or.inl rfl) (bD eJ (pv 3) (bD eG (bD eG (bK cA (pv 0) (pv 5) (fun _ _=>rfl)) (pv 6)) (fO rE rfl T.int boot_int (qH (dD eX (pv 4) (pv 2) (nomark _)) aA)))))))<|
   aM (bA (pv 3)),?_⟩
  refine⟨_,rfl,a,rfl,⟨_,SqT.of ha⟩,?_⟩;refine gE (K:=K) (a:=a) (xs:=bs.map V.ref) (fun j σ H'=>H'=H/\∃o4 o5 o6,σ=[some (.ref c),some (.ref a),some (.int i),some (.int (bI cs (cl.take j) i)),o4,o5,o6]) ⟨rfl,_,_,_,rfl⟩ (fun j σ H' _ h=>by rw [h.1];exact SqT.of ha) ?_ ?_
  ·rintro j x σ H' hx ⟨rfl,o4,o5,o6,rfl⟩;rw [getElem?_map]at hx;cases hb:bs[j]? with
   |none=>rw [hb]at hx;cases hx
   |some b=>
    rw [hb]at hx;cases hx;obtain⟨y,hy,he⟩:=hC.get hb;have hyb:=hf.2 y (mem_of_getElem? hy);have hsm:=jU Gc hyb;refine⟨b,_,rfl,SqT.of he,rfl,_,_,rfl,_,_,rfl,_,_,rfl,rfl,?_⟩;refine⟨_,rfl,_,rfl,_,rfl,c,_,y.2.1,.int (cs.getD y.2.1.toNat 0),rfl,rfl,SqT.of hc,jV hyb.1 hyb.2.1,_,rfl,_,_,rfl,rfl,.inl ⟨by omega,by omega⟩,_,rfl,_,rfl,rfl,.inr ⟨_,rfl,?_⟩⟩;have hcw:cs.getD y.2.1.toNat 0*y.2.2=cw cs y:=rfl;refine⟨_,_,rfl,rfl,.inl ⟨by rw [hcw];omega,by rw [hcw];omega⟩,_,_,rfl,rfl,?_⟩;refine⟨rfl,some (.int y.1),some (.int y.2.1),some (.int y.2.2),?_⟩;rw [A8z i hy];have ed:decide (V.int y.1=V.int i)=decide (y.1=i):=decide_eq_decide.mpr ⟨fun z=>V.int.inj z,fun z=>by rw [z]⟩;rw [ed];rfl
  ·rintro σ H' ⟨rfl,o4,o5,o6,rfl⟩;rw [length_map,hl,take_of_length_le (zjQ _)];exact⟨_,rfl,q⟩
theorem qU:(["_law_one","_law_sort","_law_many","_law_custom_here"]:List Str).Nodup:=by decide +kernel
theorem A1c (F:D1 K mg "_law_total" oC ["_law_custom_here","_law_claims_here"])(T:TxC mg):A1 P w K mg base 1 "_law_total" oZ:=by
 refine F.k ["_law_custom_here","_law_claims_here"] ?_;ac_nf
 ·obtain⟨c,a,cs,cl,rfl,hc,Gc,⟨bs,ha,hC⟩,hf,q⟩:=h;have hl:bs.length=cl.length:=Paired.length hC;have h12:=hf.1;refine⟨_,aM (bA (bH (zI rfl) rfl T.sum boot_sum (cM (bN (bE oC).names ["_law_custom_here","_law_claims_here"] ["_law_one","_law_sort","_law_many"] [("_law_custom_here",0)] rfl (cY (pv 1)) rfl rfl rfl (by decide +kernel)
   (fun Z=>bV rfl (aX (nm1 0 qU) (aX (nm1 1 qU) (aX (nm1 2 qU) bW)))) (fun Z=>cB)
   (fun Z=>bD eG (bK cA (pv 3) (pv 1) (fun _ _=>rfl)) (pv 2))) aA))),?_⟩
  refine⟨_,rfl,a,rfl,⟨_,SqT.of ha⟩,fun Z l hl'=> ?_⟩;refine kG (rest:=[some (.ref c)]) iR (fun H' hs=>SqT.of (hs _ _ ha)) hC hl' (by omega) (fun x=> .int (cw cs x)) (fun x H' Q' hm hs hq=> ?_) fun σ H1 hs1 hl1=> ?_
  ·have hx:=hf.2 x hm;have hsm:=jU Gc hx;exact⟨_,rfl,_,rfl,c,_,x.2.1,.int (cs.getD x.2.1.toNat 0),rfl,rfl,SqT.of (hs _ _ hc),jV hx.1 hx.2.1,_,rfl,_,_,rfl,rfl,.inl ⟨by omega,by omega⟩,hq _ (Same.refl _)⟩
  ·refine⟨l,cl.map (cw cs),rfl,SqL.of (by rw [hl1];simp only [map_map];rfl),by rw [length_map];omega,fun n hn=> ?_,q H1 hs1⟩;obtain⟨x,hx,rfl⟩:=mem_map.mp hn;have:=jU Gc (hf.2 x hx);omega
end
end M07
namespace L2
open PySem PyProof.Rows
theorem PenAt.fresh (h:PenAt H p)(hl:H l=none):l≠p:=fun z=>by
 obtain⟨x,f,e⟩:=h;rw [z,e]at hl;cases hl
end L2
namespace M07
open PySem L2 PyProof.Rows Grd Wlk Cyc Srt
def rZ:Sp:=fun vs H Q _=> ∃p,vs=[.ref p,.int 7]/\PenAt H p/\∀a g w H',Stp p H H'->GridAt H' a g->cR g w->w<=4->g.length<=3->cO g<=7->Q (.ref a) H'
section
variable {P:Program}{w:World}{K:W.Frag}{mg:Str->Option Value}{base:Heap}
abbrev pY:List Str:=["_law_pen_here","_law_most","_law_high","_law_wide","_law_many","_law_rows","_law_turn","_law_row","_law_place","_law_number"]
abbrev σM (p lr:Addr)(m hi wi mn:Int)(o6 o7 o8 o9:Option V):L2.St:=[some (.ref p),some (.int m),some (.int hi),some (.int wi),some (.int mn),some (.ref lr),o6,o7,o8,o9]
def dec (n:Int):Int:=if decide (0<=n)=true then 1 else 0
theorem A2w (n:Int):((if pos n then 1 else 0:Nat):Int)=dec n:=by unfold dec pos;by_cases h:0<=n<;>simp [h]
theorem A7h (xs:List Int)(h:1<=xs.length):cutV (xs.map V.int) (some 1) none=(xs.drop 1).map V.int:=by
 have e1:HT.sIx (xs.map V.int).length 0 (some 1)=min 1 (xs.map V.int).length:=HT.sIx_nat _ _ 1;have e2:HT.sIx (xs.map V.int).length (xs.map V.int).length none=(xs.map V.int).length:=rfl;unfold cutV;rw [e1,e2,length_map];have e3:min 1 xs.length=1:=by omega
 rw [e3,←map_drop,take_of_length_le (by rw [length_map,length_drop];omega)]
theorem A2j (F:D1 K mg "_law_mead" iY ["_law_pen_here","_law_most"])(T:TxC mg)(a1:A1 P w K mg base 1 "_law_draw" jE)(a2:A1 P w K mg base 2 "_law_pick" fR):A1 P w K mg base 3 "_law_mead" rZ:=by
  refine F.k pY ?_;ac_nf
  · obtain⟨p,rfl,hp,q⟩:=h
    have r1:Room 1 _:=hr.mono (by decide);have t45:∃tt,PSs (fA CX0 P w K mg base pY "_law_mead" (bE iY) f cdv A outer s H E).nox ((lC ((lC ((cD iY).getD 1 (.Pass ⟨0,0,0,0⟩))).getD 1 (.Pass ⟨0,0,0,0⟩))).drop 2) tt/\
        ∀(lr rw':Addr)(hi wi mn n:Int)(o6 o8:Option V)(H1:Hp)(xs:List V)(De:dH),H1 rw'=some (.lst xs)->xs.length<=10->De.nx (σM p lr 7 hi wi (mn+dec n) o6 (some (.ref rw')) o8 (some (.int n))) (upd H1 rw' (.lst (xs++[.int n])))->
          tt De (σM p lr 7 hi wi mn o6 (some (.ref rw')) o8 (some (.int n))) H1:=by
      refine⟨_,aU (bQ (i:=4) nd rfl (Or.inl rfl) (bD eJ (pv 4) (fO rE rfl T.int boot_int (qH (dD lD (pv 9) aO (nomark _)) aA))))<|
        aM (dE (kU PySem.F.plainAttrs_list PySem.F.slot_list_append PySem.F.type_list_append mF (pv 7) (aB (pv 9) aA))),?_⟩
      intro lr rw' hi wi mn n o6 o8 H1 xs De hrw hz k;refine⟨_,rfl,_,rfl,_,_,rfl,rfl,.inr ⟨_,rfl,_,_,rfl,rfl,?_⟩⟩;exact⟨_,rfl,.inl ⟨rfl,_,SqL.of hrw⟩,_,rfl,rw',xs,_,rfl,rfl,hrw,cH (by omega),k⟩
    obtain⟨tt45,h45,r45⟩:=t45;have tin:∃tt,PSs (fA CX0 P w K mg base pY "_law_mead" (bE iY) f cdv A outer s H E).nox (lC ((lC ((cD iY).getD 1 (.Pass ⟨0,0,0,0⟩))).getD 1 (.Pass ⟨0,0,0,0⟩))) tt/\
        ∀(lr rw':Addr)(hi wi mn:Int)(o6 o8 o9:Option V)(H1:Hp)(xs:List V)(De:dH),PenAt H1 p->H1 rw'=some (.lst xs)->rw'≠p->xs.length<=10->
          (∀n' H2,Stp p H1 H2->-2<=n'->n'<=99->(0<=n'->mn≠7)->De.nx (σM p lr 7 hi wi (mn+dec n') o6 (some (.ref rw')) o8 (some (.int n'))) (upd H2 rw' (.lst (xs++[.int n']))))->
          tt De (σM p lr 7 hi wi mn o6 (some (.ref rw')) o8 o9) H1:=by
      refine⟨_,aU (bQ (i:=9) nd rfl (Or.inl rfl) (a2.c hr (aB (pv 0) (jL (fH (lstq (rF (jI jN aO) (rF (jI jN aO) (rF (jI jN aO) (bM (bM (bM (bM (bM (bM (bM (yU (a1.c r1 (aB (pv 0) (cW aO aA))) cQ)))))))))))) cQ)))))<|
        aU (bR (PW.pt (oW (cI lD (pv 9) aO (nomark _)) (rB (cI eX (pv 4) (pv 1) (nomark _))))) (aM (bQ (i:=9) nd rfl (Or.inl rfl) (jI jN aO))) bU) h45,?_⟩
      intro lr rw' hi wi mn o6 o8 o9 H1 xs De hp1 hrw hrp hz k;refine⟨_,rfl,_,rfl,_,rfl,_,rfl,_,rfl,p,100,rfl,hp1,by decide,by decide,fun d H2 d0 d1' st2=> ?_⟩;refine⟨by show 11<=sizeLine;decide,fun l hl=> ?_⟩;have st3:=st2.same (aQ (o:=.lst [.int (-1),.int (-1),.int (-2),.int 1,.int 2,.int 3,.int 3,.int 4,.int 0,.int 9,.int d]) hl);have hlp:l≠p:=st2.pen.fresh hl;refine⟨p,l,_,rfl,st3.pen,hlp,aG,by show 1<=11;decide,by show 11<=1000;decide,fun v H4 hv st4=> ?_⟩;obtain⟨n,rfl,n1,n2⟩:∃n,v=V.int n/\-2<=n/\n<=99:=by
        simp only [mem_cons,not_mem_nil,or_false]at hv;rcases hv with rfl|rfl|rfl|rfl|rfl|rfl|rfl|rfl|rfl|rfl|rfl
        all_goals exact⟨_,rfl,by omega,by omega⟩
      have st5:=st3.trans st4;have hrw4:=st5.keep _ _ hrp hrw;refine⟨_,rfl,_,_,rfl,rfl,_,rfl,eW (fun n0=> ?_) fun n0=> ?_⟩
      · refine⟨_,rfl,_,rfl,rfl,_,rfl,eW (fun l0=> ?_) fun l0=> ?_⟩
        · exact⟨_,rfl,r45 lr rw' hi wi mn _ o6 o8 H4 xs De hrw4 hz (k _ H4 st5 (by decide) (by decide) fun z=>absurd z (by decide))⟩
        · exact r45 lr rw' hi wi mn n o6 o8 H4 xs De hrw4 hz (k _ H4 st5 n1 n2 fun _ z=>l0 (by rw [z]))
      · refine bT ?_
        exact r45 lr rw' hi wi mn n o6 o8 H4 xs De hrw4 hz (k _ H4 st5 n1 n2 fun z=>absurd z n0)
    obtain⟨tti,hin,rin⟩:=tin;refine⟨_,aU (dQ (cF (dM (bD eJ aO (a1.c r1 (aB (pv 0) (cW aO aA)))) (dM (bD eJ aO (a1.c r1 (aB (pv 0) (cW aO aA)))) (cW aO (lR (dS aA) aA)))))
        (bV rfl (aX (nm1 2 nd) (aX (nm1 3 nd) (aX (nm1 4 nd) (aX (nm1 5 nd) bW))))))<|
      aU (eF PassesOwn.never rfl (gK rfl T.range (aB (pv 2) aA)) (nm1 6 nd)
        (aU (bQ (i:=7) nd rfl (Or.inl rfl) (dS aA))<|
         aU (eF PassesOwn.never rfl (gK rfl T.range (aB (pv 3) aA)) (nm1 8 nd) hin)<|
         aM (dE (kU PySem.F.plainAttrs_list PySem.F.slot_list_append PySem.F.type_list_append mF (pv 5) (bY (fO kP rfl T.tuple boot_tuple (aB (pv 7) aA)) aA)))))<|
      aU (bR (cI eX (pv 4) aO (nomark _)) (aM (dQ (bD mI (cF (cW aO aA)) (gJ nG (bK fG (pv 5) aO (fun _ _=>rfl)) (gC aO) iT)) (qW (pv 5) aO nT))) bU)<|
      aM (bA (fO kP rfl T.tuple boot_tuple (aB (pv 5) aA))),?_⟩
    refine⟨_,rfl,p,3,rfl,hp,by decide,by decide,fun d1 H1 a1 a2 st1=> ?_⟩;refine⟨_,_,rfl,rfl,_,rfl,p,4,rfl,st1.pen,by decide,by decide,fun d2 H2 c1 c2 st2=> ?_⟩;refine⟨_,_,rfl,rfl,?_⟩;refine⟨by show 0<=sizeLine;decide,fun lr hlr=> ?_⟩;refine⟨by show 4<=sizeLine;decide,fun t4 ht4=> ?_⟩;refine⟨t4,_,rfl,SqT.of aG,rfl,_,_,rfl,_,_,rfl,_,_,rfl,_,_,rfl,rfl,?_⟩;have st3:=st1.trans st2;have hHlr:H lr=none:=(st3.none hlr).1;have hlrp:lr≠p:=(st3.none hlr).2;have stl:Stp p H (upd H2 lr (.lst [])):=st3.updL hHlr hp;have st4:=stl.same (aQ (o:=.tup [.int (1+d1),.int (1+d2),.int 0,.ref lr]) ht4);have hlt:lr≠t4:=fun z=>by rw [←z,aG]at ht4;cases ht4
    refine⟨_,rfl,1+d1,rfl,by omega,by omega,?_⟩;refine gM (lo:=0) (n:=(1+d1).toNat) (fun i σ H'=> ∃(mn:Int)(bs:List Addr)(g:bF),(∃o6 o7 o8 o9,σ=σM p lr 7 (1+d1) (1+d2) mn o6 o7 o8 o9)/\Stp p H H'/\H' lr=some (.lst (bs.map V.ref))/\RowsG H' bs g/\g.length=i/\mn<=7/\mn=cO g/\(∀xs∈g,xs.length=(1+d2).toNat)/\∀xs∈g,∀n∈xs,-2<=n/\n<=99)
      ⟨0,[],[],⟨_,_,_,_,rfl⟩,st4,by rw [aY hlt,aG];rfl,.nil,rfl,by decide,rfl,(fun r hr'=>by cases hr'),(fun r hr'=>by cases hr')⟩ ?_ ?_
    · rintro i σ H' hi ⟨mn,bs,g,⟨o6,o7,o8,o9,rfl⟩,st',hlr',hG,hn,mn6,mnc,hlen,hnum⟩
      have hbs:bs.length=g.length:=Paired.length hG;refine⟨by show 0<=sizeLine;decide,fun rw' hrw=> ?_⟩;have hrp:rw'≠p:=st'.pen.fresh hrw;have hrl:rw'≠lr:=fun z=>by rw [z,hlr']at hrw;cases hrw
      refine⟨_,rfl,1+d2,rfl,by omega,by omega,?_⟩;refine gM (lo:=0) (n:=(1+d2).toNat) (fun j σ H2=> ∃(mn2:Int)(xs:List Int),(∃o8 o9,σ=σM p lr 7 (1+d1) (1+d2) mn2 (some (.int (0+i))) (some (.ref rw')) o8 o9)/\Stp p H' H2/\H2 rw'=some (.lst (xs.map V.int))/\xs.length=j/\mn2<=7/\mn2=mn+dP xs/\∀n∈xs,-2<=n/\n<=99)
        ⟨mn,[],⟨_,_,rfl⟩,(Stp.refl st'.pen).updL hrw st'.pen,aG,rfl,mn6,by simp [dP],fun x hx=>by cases hx⟩ ?_ ?_
      · rintro j σ H2 hj ⟨mn2,xs,⟨o82,o92,rfl⟩,stj,hxs,hnj,l0,lc,hxi⟩
        refine rin lr rw' _ _ mn2 _ _ _ H2 (xs.map V.int) _ stj.pen hxs hrp (by rw [length_map];omega) fun n' H3 st3' n1 n2 nl=> ?_;refine⟨mn2+dec n',xs++[n'],⟨_,_,rfl⟩,(stj.trans st3').updL hrw st'.pen,by rw [aG,map_append];rfl,by rw [length_append,hnj];rfl,?_,?_,fun x hx=> ?_⟩
        · unfold dec
          by_cases h0:0<=n'
          · have:=nl h0
            rw [zjV h0,if_pos rfl];omega
          · rw [zjU h0,if_neg (by decide)];omega
        · rw [A16,Int.natCast_add,A2w];omega
        · rcases mem_append.mp hx with z|z
          · exact hxi x z
          · rw [mem_singleton.mp z];exact⟨n1,n2⟩
      · rintro σ H2 ⟨mn2,xs,⟨o82,o92,rfl⟩,stj,hxs,hnj,l0,lc,hxi⟩
        have hlr2:=stj.keep lr _ hlrp hlr';refine⟨_,rfl,.inl ⟨rfl,_,SqL.of hlr2⟩,_,rfl,rw',xs.map V.int,rfl,.inl ⟨SqL.of hxs,fun t ht=> ?_⟩⟩;have s3:=aQ (o:=.tup (xs.map V.int)) ht;have hlr3:=s3 _ _ hlr2;refine⟨lr,bs.map V.ref,_,rfl,rfl,hlr3,cH (by rw [length_map];omega),?_⟩;have exA:Ext H' (upd (upd H2 t (.tup (xs.map V.int))) lr (.lst (bs.map V.ref++[.ref t]))):=((stj.ext st'.pen).trans s3.ext).trans (Ext.updL hlr3);have htl:t≠lr:=fun z=>by rw [z,hlr2]at ht;cases ht
        refine⟨mn2,bs++[t],g++[xs],⟨_,_,_,_,rfl⟩,((st'.trans stj).same s3).updL hHlr hp,by rw [aG,map_append];rfl,Paired.snoc (hG.ext exA) (by rw [aY htl,aG]),by rw [length_append,hn];rfl,l0,?_,fun ys hy=> ?_,fun ys hy=> ?_⟩
        · rw [A3m];omega
        · rcases mem_append.mp hy with z|z
          · exact hlen ys z
          · rw [mem_singleton.mp z];exact hnj
        · rcases mem_append.mp hy with z|z
          · exact hnum ys z
          · rw [mem_singleton.mp z];exact hxi
    · rintro σ H' ⟨mn,bs,g,⟨o6,o7,o8,o9,rfl⟩,st',hlr',hG,hn,mn6,mnc,hlen,hnum⟩
      have hbs:bs.length=g.length:=Paired.length hG;have h1:1<=g.length:=by omega
      have h4:g.length<=4:=by omega
      refine⟨_,rfl,rfl,_,rfl,eW (fun e10=> ?_) fun e10=> ?_⟩
      · have e10':mn=0:=V.int.inj e10
        obtain⟨b0,bs',rfl⟩:∃b0 bs',bs=b0::bs':=exists_cons_of_ne_nil (fun z=>by rw [z]at hbs;simp at hbs;omega);obtain⟨xs0,g',rfl⟩:∃xs0 g',g=xs0::g':=exists_cons_of_ne_nil (fun z=>by rw [z]at h1;simp at h1);have hb0:H' b0=some (.tup (xs0.map V.int)):=by cases hG with|cons a b=>exact a
        have hG':RowsG H' bs' g':=by cases hG with|cons a b=>exact b
        have hw0:=hlen xs0 zjR;refine⟨by show 1<=sizeLine;decide,fun t3 ht3=> ?_⟩;have s3:=aQ (o:=.tup [.int 5]) ht3;refine⟨_,rfl,lr,_,0,.ref b0,rfl,rfl,SqL.of (s3 _ _ hlr'),cC (j:=0) rfl,_,rfl,b0,xs0.map V.int,rfl,s3 _ _ hb0,fun c H4 s4 hc=> ?_⟩;rw [A7h xs0 (by omega)]at hc;refine⟨t3,c,[.int 5],_,rfl,rfl,s4 _ _ aG,hc,?_,fun c2 H5 s5 hc2=> ?_⟩
        · rw [length_map,length_drop,sizeLine_eq];show 1+_<=_;omega
        have hlr5:=s5 _ _ (s4 _ _ (s3 _ _ hlr'));refine⟨_,rfl,lr,_,0,0,rfl,rfl,hlr5,(by unfold ixN;rw [if_pos (by decide),if_pos (by simp)];rfl),?_⟩;have exA:Ext H' (upd H5 lr (.lst (((b0::bs').map V.ref).set 0 (.ref c2)))):=((s3.ext.trans s4.ext).trans s5.ext).trans (Ext.updL hlr5);refine⟨_,rfl,lr,_,rfl,.inl ⟨SqL.of aG,fun tt htt=> ?_⟩⟩;have s6:=aQ (o:=.tup (((b0::bs').map V.ref).set 0 (.ref c2))) htt;have hc2l:c2≠lr:=fun z=>by rw [z,hlr5]at hc2;cases hc2
        have z0:cO (xs0::g')=0:=by omega
        have z1:dP xs0=0/\cO g'=0:=by
          unfold cO at z0⊢;rw [map_cons,sum_cons]at z0;omega
        have zd:dP (xs0.drop 1)=0:=by
          have:(xs0.filter pos)=[]:=List.length_eq_zero_iff.mp z1.1;unfold dP;rw [List.length_eq_zero_iff,List.filter_eq_nil_iff];intro a ha;exact List.filter_eq_nil_iff.mp this a (mem_of_mem_drop ha)
        have zc:cO ((5::xs0.drop 1)::g')=1:=by
          have e1:dP (5::xs0.drop 1)=dP (xs0.drop 1)+1:=by unfold dP;rw [filter_cons_of_pos (by decide),length_cons]
          unfold cO;rw [map_cons,sum_cons,e1,zd];have:=z1.2;unfold cO at this;omega
        refine q tt ((5::xs0.drop 1)::g') (1+d2).toNat _ ((((st'.same s3).same s4).same s5).updL hHlr hp|>.same s6) ⟨c2::bs',aG,.cons ?_ (hG'.ext (exA.trans s6.ext))⟩ ⟨by simp,by simpa using h4,by omega,by omega,fun ys hy=> ?_,fun ys hy=> ?_,by omega,by omega⟩ (by omega) (by rw [length_cons]at h1 h4⊢;rw [length_cons]at hn;omega) (by omega)
        · exact s6 _ _ (by rw [aY hc2l];exact hc2)
        · rcases mem_cons.mp hy with z|z
          · rw [z,length_cons,length_drop];omega
          · exact hlen ys (zjS _ z)
        · rcases mem_cons.mp hy with z|z
          · rw [z]
            intro n hn';rcases mem_cons.mp hn' with z'|z'
            · omega
            · exact hnum xs0 zjR n (mem_of_mem_drop z')
          · exact hnum ys (zjS _ z)
      · refine⟨_,rfl,lr,_,rfl,.inl ⟨SqL.of hlr',fun tt htt=> ?_⟩⟩
        have s6:=aQ (o:=.tup (bs.map V.ref)) htt;have e10':mn≠0:=fun z=>e10 (by rw [z]);exact q tt g (1+d2).toNat _ (st'.same s6) ⟨bs,aG,hG.ext s6.ext⟩ ⟨h1,h4,by omega,by omega,hlen,hnum,by omega,by omega⟩ (by omega) (by omega) (by omega)
end
end M07
namespace L2
open PySem PyProof.Rows
theorem yD (he:PE X (.Name x pos) te)(hr:PAq X es t):PA X (.Name x pos::es) (cE te t):=aB he (jL hr)
theorem PenAt.same (h:PenAt H p)(s:Same H H'):PenAt H' p:=let ⟨x,y,e⟩:=h;⟨x,y,s _ _ e⟩
end L2
namespace M07
open PySem L2 PyProof.Rows Grd Wlk Cyc Srt
structure PleA (H:Hp)(p:Addr)(g:bF)(w:Nat)(cs:List Int)(cl:List C3)(od:Int):Prop where
 G:cR g w
 w4:w<=4
 g3:g.length<=3
 c6:cO g<=7
 cu:eI cs
 ck:eY cl
 un:gF cs cl
 o9:0<=od/\od<=999
 ex:∃m c a,H p=some (.tup [.ref m,.ref c,.ref a,.int od])/\GridAt H m g/\dZ H c cs/\ClT H a cl
theorem PleA.ext (h:PleA H p g w cs cl od)(e:Ext H H'):PleA H' p g w cs cl od:=
 ⟨h.G,h.w4,h.g3,h.c6,h.cu,h.ck,h.un,h.o9,let ⟨m,c,a,h1,h2,h3,h4⟩:=h.ex;⟨m,c,a,e.tup _ _ h1,h2.ext e,e.tup _ _ h3,h4.ext e⟩⟩
theorem PleA.same (h:PleA H p g w cs cl od)(s:Same H H'):PleA H' p g w cs cl od:=h.ext s.ext
def oM:Sp:=fun vs H Q _=> ∃p,vs=[.ref p,.int 7]/\PenAt H p/\∀t g w cs cl od H',Stp p H H'->PleA H' t g w cs cl od->Q (.ref t) H'
section
variable {P:Program}{w:World}{K:W.Frag}{mg:Str->Option Value}{base:Heap}
abbrev A87:List Str:=["_law_pen_here","_law_most","_law_mead_here","_law_custom_here","_law_holders_here","_law_odd"]
theorem A0t (F:D1 K mg "_law_plea" wW ["_law_pen_here","_law_most"])(T:TxC mg)(a1:A1 P w K mg base 1 "_law_draw" jE)(a2:A1 P w K mg base 2 "_law_pick" fR)(a3:A1 P w K mg base 3 "_law_mead" rZ)(a4:A1 P w K mg base 3 "_law_custom" vS)(a5:A1 P w K mg base 3 "_law_claims" yC):A1 P w K mg base 4 "_law_plea" oM:=by
 refine F.k A87 ?_;ac_nf
 ·obtain⟨p,rfl,hp,q⟩:=h;have r1:Room 1 _:=hr.mono (by decide);have r2:Room 2 _:=hr.mono (by decide);refine⟨_,aU (jH (i:=2) (j:=3) rfl nd rfl rfl (by decide) rfl rfl (bY (a3.c hr (aB (pv 0) (aB (pv 1) aA))) (bY (a4.c hr (aB (pv 0) aA)) aA)) rfl)<|
   aU (bQ (i:=4) nd rfl (Or.inl rfl) (a2.c r2 (yD (pv 0) (fH (lstq (fH (lstq (bM (bM cQ))) (fH (lstq (bM (bM cQ))) (fH (lstq (bM (bM (bM cQ)))) (fH (lstq (bM cQ)) (fH (lstq (bM (bM (bM (bM cQ))))) (fH (lstq (bM (bM cQ))) cQ))))))) cQ))))<|
   aU (bQ (i:=5) nd rfl (Or.inl rfl) (a2.c r2 (yD (pv 0) (fH (lstq (bM (bM (bM (bM (bM (bM (bM (bM (yU (a1.c r1 (aB (pv 0) (cW aO aA))) cQ)))))))))) cQ))))<|
   aM (bA (cF (aB (pv 2) (aB (pv 3) (bY (a5.c hr (aB (pv 0) (aB (pv 3) (aB (pv 4) aA)))) (aB (pv 5) aA)))))),?_⟩
  refine⟨_,rfl,_,rfl,p,rfl,hp,fun a g w' H1 st1 hA G w4 g3 c6=> ?_⟩;refine⟨_,rfl,p,rfl,st1.pen,fun c cs H2 st2 hc Gc _=> ?_⟩;refine⟨_,_,rfl,?_⟩;have st12:=st1.trans st2;refine⟨_,rfl,?_⟩;refine⟨by show 2<=sizeLine;decide,fun l1 e1=> ?_⟩;refine⟨by show 2<=sizeLine;decide,fun l2 e2=> ?_⟩;refine⟨by show 3<=sizeLine;decide,fun l3 e3=> ?_⟩;refine⟨by show 1<=sizeLine;decide,fun l4 e4=> ?_⟩;refine⟨by show 4<=sizeLine;decide,fun l5 e5=> ?_⟩;refine⟨by show 2<=sizeLine;decide,fun l6 e6=> ?_⟩;refine⟨by show 6<=sizeLine;decide,fun L eL=> ?_⟩;have s1:=aQ (o:=.lst [.int 0,.int 1]) e1;have s2:=aQ (o:=.lst [.int 0,.int 2]) e2;have s3:=aQ (o:=.lst [.int 1,.int 2,.int 3]) e3;have s4:=aQ (o:=.lst [.int 3]) e4;have s5:=aQ (o:=.lst [.int 0,.int 1,.int 2,.int 3]) e5;have s6:=aQ (o:=.lst [.int 1,.int 3]) e6;have sL:=aQ (o:=.lst [.ref l1,.ref l2,.ref l3,.ref l4,.ref l5,.ref l6]) eL;have sA:=(((((s1.trans s2).trans s3).trans s4).trans s5).trans s6).trans sL;have st3:=st12.same sA;refine⟨p,L,_,rfl,st3.pen,(st12.same (((((s1.trans s2).trans s3).trans s4).trans s5).trans s6)).pen.fresh eL,aG,by show 1<=6;decide,by show 6<=1000;decide,fun v H4 hv st4=> ?_⟩;have hold:∃(hl:Addr)(hs:List Int),v= .ref hl/\hl≠p/\H4 hl=some (.lst (hs.map V.int))/\kJ hs:=by
   have key:∀(b:Addr)(hs:List Int)(Hb:Hp)(eb:Hb b=none),PenAt Hb p->Same (upd Hb b (.lst (hs.map V.int))) (upd (upd (upd (upd (upd (upd (upd H2 l1 (.lst [.int 0,.int 1])) l2 (.lst [.int 0,.int 2])) l3 (.lst [.int 1,.int 2,.int 3])) l4 (.lst [.int 3])) l5 (.lst [.int 0,.int 1,.int 2,.int 3])) l6 (.lst [.int 1,.int 3])) L (.lst [.ref l1,.ref l2,.ref l3,.ref l4,.ref l5,.ref l6]))->kJ hs->∃(hl:Addr)(hs:List Int),V.ref b= .ref hl/\hl≠p/\H4 hl=some (.lst (hs.map V.int))/\kJ hs:=fun b hs Hb eb hpb sb G=>
    ⟨b,hs,rfl,hpb.fresh eb,st4.keep b _ (hpb.fresh eb) (sb _ _ aG),G⟩
   have hh:∀(hs:List Int),1<=hs.length->hs.length<=1000->(hs.all fun x=>decide (0<=x)&&decide (x<=3))=true->kJ hs:=fun hs a b c=> ⟨a,b,fun x hx=>by have:=all_eq_true.mp c x hx;simp only [Bool.and_eq_true,decide_eq_true_eq]at this;exact this⟩;have p0:=st12.pen;have p1:=p0.same s1;have p2:=p1.same s2;have p3:=p2.same s3;have p4:=p3.same s4;have p5:=p4.same s5;simp only [mem_cons,not_mem_nil,or_false]at hv;rcases hv with rfl|rfl|rfl|rfl|rfl|rfl
   ·exact key l1 [0,1] _ e1 p0 (((((s2.trans s3).trans s4).trans s5).trans s6).trans sL) (hh _ (by decide) (by decide) (by decide))
   ·exact key l2 [0,2] _ e2 p1 ((((s3.trans s4).trans s5).trans s6).trans sL) (hh _ (by decide) (by decide) (by decide))
   ·exact key l3 [1,2,3] _ e3 p2 (((s4.trans s5).trans s6).trans sL) (hh _ (by decide) (by decide) (by decide))
   ·exact key l4 [3] _ e4 p3 ((s5.trans s6).trans sL) (hh _ (by decide) (by decide) (by decide))
   ·exact key l5 [0,1,2,3] _ e5 p4 (s6.trans sL) (hh _ (by decide) (by decide) (by decide))
   ·exact key l6 [1,3] _ e6 p5 sL (hh _ (by decide) (by decide) (by decide))
  obtain⟨hl,hs,rfl,hlp,hhl,Gh⟩:=hold;have st5:=st3.trans st4;refine⟨_,rfl,_,rfl,p,60,rfl,st5.pen,by decide,by decide,fun d H5 d0 d1' st6=> ?_⟩;refine⟨by show 9<=sizeLine;decide,fun l hl0=> ?_⟩;have s7:=aQ (o:=.lst [.int 0,.int 1,.int 2,.int 3,.int 5,.int 9,.int 20,.int 999,.int d]) hl0;have st7:=(st5.trans st6).same s7;refine⟨p,l,_,rfl,st7.pen,(st5.trans st6).pen.fresh hl0,aG,by show 1<=9;decide,by show 9<=1000;decide,fun v H6 hv st8=> ?_⟩;obtain⟨od,rfl,n1,n2⟩:∃n,v=V.int n/\0<=n/\n<=999:=by
   simp only [mem_cons,not_mem_nil,or_false]at hv;rcases hv with rfl|rfl|rfl|rfl|rfl|rfl|rfl|rfl|rfl
   all_goals exact⟨_,rfl,by omega,by omega⟩
  have st9:=st7.trans st8;have x26:Ext H2 H6:=((sA.ext.trans (st4.ext st3.pen)).trans ((st6.ext st5.pen).trans s7.ext)).trans (st8.ext st7.pen);have hhl6:H6 hl=some (.lst (hs.map V.int)):=st8.keep hl _ hlp (s7 _ _ (st6.keep hl _ hlp hhl));have hc6:dZ H6 c cs:=x26.tup _ _ hc;refine⟨_,rfl,_,rfl,_,rfl,_,rfl,_,rfl,p,c,hl,cs,hs,rfl,st9.pen,hc6,Gc,hlp,hhl6,Gh,fun k cl H7 st10 hk Gk Un=> ?_⟩;refine⟨_,rfl,by show 4<=sizeLine;decide,fun t ht=> ?_⟩;have s11:=aQ (o:=.tup [.ref a,.ref c,.ref k,.int od]) ht;have x67:=st10.ext st9.pen;exact q t g w' cs cl od _ ((st9.trans st10).same s11) ⟨G,w4,g3,c6,Gc,Gk,Un,⟨n1,n2⟩,⟨a,c,k,aG,(hA.ext ((st2.ext st1.pen).trans (x26.trans x67))).ext s11.ext,s11 _ _ (x67.tup _ _ hc6),hk.ext s11.ext⟩⟩
end
structure TxD (mg:Str->Option Value):Prop where
 reversed:mg "reversed" =none
 repr:mg "repr" =none
 odd:∃t,mg "MOST_ODD" =some (.int 999 t)
def wV:Sp:=fun vs H Q _=> ∃i:Int,vs=[.int i]/\0<=i/\i<=999/\Q (.bl true) H
def lG (r:V):Sp:=fun vs H Q _=> ∃p g w cs cl od,vs=[.ref p]/\PleA H p g w cs cl od/\∀H',Same H H'->Q r H'
def mD:Sp:=fun vs H Q _=> ∃p g w cs cl od i,vs=[.ref p,.int i]/\PleA H p g w cs cl od/\dL cl i=true/\∀H',Same H H'->Q .non H'
def uB:Sp:=fun vs H Q _=> ∃a g w,vs=[.ref a]/\GridAt H a g/\cR g w/\∀H',Same H H'->Q (.int (bJ g)) H'
section
variable {P:Program}{w:World}{K:W.Frag}{mg:Str->Option Value}{base:Heap}
theorem A85 (F:D1 K mg "is_odd" A0e ["thing"])(T:TxD mg)(a1:A1 P w K mg base 2 "is_number_within" lB):A1 P w K mg base 3 "is_odd" wV:=by
 obtain⟨t,mO⟩:=T.odd;refine F.k ["thing"] ?_;ac_nf
 ·obtain⟨i,rfl,h0,h9,q⟩:=h;refine⟨_,aM (bA (a1.c hr (aB (pv 0) (cW aO (aB (eP (v:=.int 999) rfl mO ⟨_,rfl⟩) aA))))),?_⟩;refine⟨_,rfl,_,0,999,rfl,trivial,?_⟩;have e:dW 0 999 (.int i)=true:=by simp [dW,h0,h9]
  rw [e];exact q
abbrev nPl:List Str:=["thing","mead","custom","claims","odd"]
theorem A5p (F:D1 K mg "is_plea" wZ ["thing"])(a1:A1 P w K mg base 1 "is_tuple_within" gX)(a2:A1 P w K mg base 4 "is_mead" qE)(a3:A1 P w K mg base 3 "is_custom" oK)(a4:A1 P w K mg base 4 "are_claims" nR)(a5:A1 P w K mg base 1 "stand_under" pH)(a6:A1 P w K mg base 3 "is_odd" wV):A1 P w K mg base 5 "is_plea" (lG (.bl true)):=by
 refine F.k nPl ?_;ac_nf
 ·obtain⟨p,g,w',cs,cl,od,rfl,D,q⟩:=h;obtain⟨m,c,a,hp,hm,hc,ha⟩:=D.ex;refine⟨_,aU (bR (bZ (bP (a1.c hr (aB (pv 0) (cW aO (cW aO aA)))))) (aM (bA dA)) bU)<|
   aU (dQ (pv 0) (bV rfl (aX (nm1 1 nd) (aX (nm1 2 nd) (aX (nm1 3 nd) (aX (nm1 4 nd) bW))))))<|
   aU (bR (PW.pt (iO (bZ (bP (a2.c hr (aB (pv 1) aA)))) (iO (bZ (bP (a3.c hr (aB (pv 2) aA)))) (jS (bZ (bP (a4.c hr (aB (pv 3) aA)))))))) (aM (bA dA)) bU)<|
   aM (bA (fC (a5.c hr (aB (pv 2) (aB (pv 3) aA))) (eZ (a6.c hr (aB (pv 4) aA))))),?_⟩
  have e4:cZ H 4 4 (.ref p)=true:=by unfold cZ;rw [iB hp];rfl
  have kp:Kn H 1 (.ref p):=.inr (.inr ⟨_,hp,by show 4<=1000;decide,fun _ _=>trivial⟩);refine⟨_,rfl,_,4,4,rfl,kp,_,rfl,?_⟩;rw [e4];refine bT ?_;refine⟨_,rfl,p,_,rfl,SqT.of hp,rfl,_,_,rfl,_,_,rfl,_,_,rfl,_,_,rfl,rfl,?_⟩;refine⟨_,rfl,m,g,w',rfl,hm,D.G,fun H1 s1=> ⟨_,rfl,?_⟩⟩;refine bT ⟨_,rfl,c,cs,rfl,s1 _ _ hc,D.cu,fun H2 s2=> ⟨_,rfl,bT ?_⟩⟩;have s12:=s1.trans s2;refine⟨_,rfl,a,cl,rfl,ha.ext s12.ext,D.ck,fun H3 s3=> ⟨_,rfl,bT ?_⟩⟩;have s13:=s12.trans s3;refine⟨_,rfl,_,rfl,c,a,cs,cl,rfl,s13 _ _ hc,ha.ext s13.ext,D.ck.l12,D.un,fun H4 s4=> ⟨_,rfl,gB ?_⟩⟩;exact⟨_,rfl,od,rfl,D.o9.1,D.o9.2,q H4 (s13.trans s4)⟩
theorem A6u (F:D1 K mg "check_plea" wQ ["plea"])(a1:A1 P w K mg base 5 "is_plea" (lG (.bl true))):A1 P w K mg base 6 "check_plea" (lG .non):=by
 refine F.k ["plea"] ?_;ac_nf
 ·obtain⟨p,g,w',cs,cl,od,rfl,D,q⟩:=h;refine⟨_,aM (bR (bZ (bP (a1.c hr (aB (pv 0) aA)))) fJ bU),?_⟩;exact⟨_,rfl,p,g,w',cs,cl,od,rfl,D,fun H1 s1=> ⟨_,rfl,bT (q H1 s1)⟩⟩
theorem A59 (F:D1 K mg "check_plea_and_holder" zV ["plea","holder"])(a1:A1 P w K mg base 6 "check_plea" (lG .non))(a2:A1 P w K mg base 3 "check_holder" rR):A1 P w K mg base 7 "check_plea_and_holder" mD:=by
 refine F.k ["plea","holder","mead","custom","claims","odd"] ?_;ac_nf
 ·obtain⟨p,g,w',cs,cl,od,i,rfl,D,hh,q⟩:=h;refine⟨_,aU (dE (a1.c hr (aB (pv 0) aA)))<|
   aU (dQ (pv 0) (bV rfl (aX (nm1 2 nd) (aX (nm1 3 nd) (aX (nm1 4 nd) (aX (nm1 5 nd) bW))))))<|
   aM (dE (a2.c hr (aB (pv 4) (aB (pv 1) aA)))),?_⟩
  refine⟨_,rfl,p,g,w',cs,cl,od,rfl,D,fun H1 s1=> ?_⟩;obtain⟨m,c,a,hp,hm,hc,ha⟩:=(D.same s1).ex;refine⟨_,rfl,p,_,rfl,SqT.of hp,rfl,_,_,rfl,_,_,rfl,_,_,rfl,_,_,rfl,rfl,?_⟩;exact⟨_,rfl,_,rfl,a,cl,i,rfl,ha,D.ck.l12,hh,fun H2 s2=>q H2 (s1.trans s2)⟩
theorem A78 (F:D1 K mg "whole_worth" vW ["mead"])(a1:A1 P w K mg base 1 "worth_together" wD)(a2:A1 P w K mg base 6 "cells_of" (eE pos)):A1 P w K mg base 7 "whole_worth" uB:=by
 refine F.k ["mead"] ?_;ac_nf
 ·obtain⟨a,g,w',rfl,hA,G,q⟩:=h;refine⟨_,aM (bA (a1.c hr (aB (pv 0) (bY (a2.c hr (aB (pv 0) aA)) aA)))),?_⟩;refine⟨_,rfl,_,rfl,a,g,w',rfl,hA,G,fun H1 l ps hl s1 hl1 hP=> ?_⟩;exact⟨a,l,g,w',ps,rfl,hA.same s1,G,hl1,hP,fun H2 s2=>q H2 (s1.trans s2)⟩
abbrev shT (cs:List Int)(cl:List C3)(i:Int):Int:=frTop (bI cs cl i) (bG cs cl)
abbrev shB (cs:List Int)(cl:List C3)(i:Int):Int:=frBot (bI cs cl i) (bG cs cl)
def kR (g:bF)(cs:List Int)(cl:List C3)(i:Int):Int:=frTop (bJ g*shT cs cl i) (shB cs cl i)
def iW (g:bF)(cs:List Int)(cl:List C3)(i:Int):Int:=frBot (bJ g*shT cs cl i) (shB cs cl i)
def qZ:Sp:=fun vs H Q _=> ∃p g w cs cl od i,vs=[.ref p,.int i]/\PleA H p g w cs cl od/\dL cl i=true/\∀q H',Same H H'->H' q=some (.tup [.int (kR g cs cl i),.int (iW g cs cl i)])->Q (.ref q) H'
theorem oS (h0:0<=t)(h1:1<=b):0<=frTop t b/\1<=frBot t b/\frTop t b<=t/\frBot t b<=b/\frTop t b*b=t*frBot t b:=by
 unfold frTop frBot;obtain⟨tn,rfl⟩:=Int.eq_ofNat_of_zero_le h0;obtain⟨bn,rfl⟩:=Int.eq_ofNat_of_zero_le (show 0<=b by omega);have hb:0<bn:=by omega
 rw [Int.toNat_natCast,Int.toNat_natCast];have hg:0<Nat.gcd tn bn:=Nat.gcd_pos_of_pos_right _ hb;obtain⟨x,ex⟩:=Nat.gcd_dvd_left tn bn;obtain⟨y,ey⟩:=Nat.gcd_dvd_right tn bn;generalize Nat.gcd tn bn=d at*;have e1:tn/d=x:=by rw [ex];exact Nat.mul_div_cancel_left x hg
 have e2:bn/d=y:=by rw [ey];exact Nat.mul_div_cancel_left y hg
 rw [←Int.natCast_ediv,←Int.natCast_ediv,e1,e2];have hy:0<y:=Nat.pos_of_ne_zero fun z=>by rw [z,Nat.mul_zero]at ey;omega
 have hx:x<=tn:=by rw [ex];exact Nat.le_mul_of_pos_left x hg
 have hy2:y<=bn:=by rw [ey];exact Nat.le_mul_of_pos_left y hg
 refine⟨Int.natCast_nonneg _,by omega,by omega,by omega,?_⟩;have:x*bn=tn*y:=by
  have z1:x*bn=x*(d*y):=by rw [←ey]
  have z2:tn*y=(d*x)*y:=by rw [←ex]
  rw [z1,z2,Nat.mul_comm d x,Nat.mul_assoc]
 exact_mod_cast this
theorem xM {g:bF}{w:Nat}(G:cR g w)(h6:cO g<=7):0<=bJ g/\bJ g<=693:=by
 have row:∀xs:List Int,(∀n∈xs,-2<=n/\n<=99)->0<=gQ xs/\gQ xs<=99*dP xs:=fun xs h=>by
  induction xs with
  |nil=>exact⟨by simp [gQ],by simp [gQ,dP]⟩
  |cons x xs ih=>
   have:=ih fun n hn=>h n (zjS _ hn);have hx:=h x zjR;unfold gQ dP at this⊢;rw [map_cons,sum_cons,List.filter_cons];by_cases z:0<=x
   ·rw [if_pos (show Grd.pos x=true from zjV z),length_cons]
    split<;>omega
   ·have zp:Grd.pos x=false:=zjU z;have z2:¬x>0:=by omega
    simp only [zp,z2,Bool.false_eq_true,↓reduceIte];omega
 have all:∀g:bF,(∀xs∈g,∀n∈xs,-2<=n/\n<=99)->0<=bJ g/\bJ g<=99*cO g:=fun g h=>by
  induction g with
  |nil=>exact⟨by simp [bJ],by simp [bJ,cO]⟩
  |cons x g ih=>
   have:=ih fun n hn=>h n (zjS _ hn);have r:=row x (h x zjR);unfold bJ cO at this⊢;rw [map_cons,sum_cons,map_cons,sum_cons];omega
 have:=all g G.num;omega
abbrev nDu:List Str:=["plea","holder","mead","custom","claims","odd","top","bottom"]
theorem A1l (F:D1 K mg "due_of" zF ["plea","holder"])(a1:A1 P w K mg base 7 "check_plea_and_holder" mD)(a2:A1 P w K mg base 8 "share_of" tQ)(a3:A1 P w K mg base 1 "fraction" lE)(a4:A1 P w K mg base 7 "whole_worth" uB):A1 P w K mg base 9 "due_of" qZ:=by
 refine F.k nDu ?_;ac_nf
 ·obtain⟨p,g,w',cs,cl,od,i,rfl,D,hh,q⟩:=h;refine⟨_,aU (dE (a1.c hr (aB (pv 0) (aB (pv 1) aA))))<|
   aU (dQ (pv 0) (bV rfl (aX (nm1 2 nd) (aX (nm1 3 nd) (aX (nm1 4 nd) (aX (nm1 5 nd) bW))))))<|
   aU (dQ (a2.c hr (aB (pv 3) (aB (pv 4) (aB (pv 1) aA)))) (bV rfl (aX (nm1 6 nd) (aX (nm1 7 nd) bW))))<|
   aM (bA (a3.c hr (dM (bD eG (a4.c hr (aB (pv 2) aA)) (pv 6)) (aB (pv 7) aA)))),?_⟩
  refine⟨_,rfl,_,rfl,p,g,w',cs,cl,od,i,rfl,D,hh,fun H1 s1=> ?_⟩;obtain⟨m,c,a,hp,hm,hc,ha⟩:=(D.same s1).ex;refine⟨_,rfl,p,_,rfl,SqT.of hp,rfl,_,_,rfl,_,_,rfl,_,_,rfl,_,_,rfl,rfl,?_⟩;refine⟨_,rfl,_,rfl,_,rfl,c,a,cs,cl,i,rfl,hc,D.cu,ha,D.ck,D.un,hh,fun t H2 s2 ht=> ?_⟩;refine⟨t,_,rfl,SqT.of ht,rfl,_,_,rfl,_,_,rfl,rfl,?_⟩;have hb:=oN D.cu D.ck D.un i;have fr:=oS hb.1.1 hb.2.1;have tb:=xM D.G D.c6;refine⟨_,rfl,m,g,w',rfl,hm.same s2,D.G,fun H3 s3=> ?_⟩;refine⟨_,rfl,_,_,rfl,rfl,.inl ⟨by omega,by omega⟩,_,rfl,_,_,rfl,⟨Int.mul_nonneg tb.1 fr.1,?_⟩,⟨fr.2.1,by omega⟩,fun r hr'=>q r _ (((s1.trans s2).trans s3).trans (aQ hr')) aG⟩;have h1:bJ g*frTop (bI cs cl i) (bG cs cl)<=693*frTop (bI cs cl i) (bG cs cl):=Int.mul_le_mul_of_nonneg_right (by omega) fr.1;show bJ g*frTop (bI cs cl i) (bG cs cl)<_;omega
end
end M07
namespace L2
open PySem PySem.Spec PyProof.Rows
def Itv (K:W.Frag)(a:Addr)(n:Nat):It:=
 ⟨fun i H=>i<n/\∃xs,SqL K H a xs/\xs.length=n,fun i H x H'=>H'=H/\∀xs,SqL K H a xs->xs[n - 1 - i]?=some x,fun i _=>i=n⟩
theorem A08 {P:Program}{w:World}{K:W.Frag}{tg:Expr}(a it:Addr)(n:Nat):fQ P w K tg (Itv K a n) [it] it (fun i h=>h.IsRevIter it a ((n:Int) - 1 - i))where
 mem:=by simp
 obj:=fun i h st b hb=>by
  have e:b=it:=by simpa using hb
  subst e;obtain⟨o,e,c,d⟩:=st;exact⟨o,e,fun v z=>by rw [d]at z;cases z⟩
 keep:=fun i h h' st k=>st.at fun o e=>k it (by simp) o e
 item:=by
  intro X hP hw hK hc i pins s σ H E I hf st hg;subst hP hw hK;obtain⟨hi,xs,hq,hn⟩:=hg;obtain⟨its,rv,p,hz⟩:=I.list hq;have hlt:n - 1 - i<xs.length:=by omega
  obtain⟨u,hu,ru⟩:=rv.get (getElem?_eq_getElem hlt);obtain⟨f0,f1,f2,f3,f4,f5⟩:=hf it (by simp);have st':s.heap.IsRevIter it a ((n - 1 - i:Nat):Int):=by
   have e:((n - 1 - i:Nat):Int)=(n:Int) - 1 - i:=by omega
   rw [e];exact st
  refine wpAny_pyNext_rev_item st' p.isList (x:=u) (by simpa using hu) fun h' st2 sb=> ?_;have I1:Inv X pins σ H {s with heap:=h'}:=I.turned (t':=s.toks) (fun b o hb e=>(sb.2 b hb).trans e) f0 f1 f3 f4 f5;obtain⟨o,e,c,d⟩:=id st2;refine⟨u,rfl,mQ (s:={s with heap:=h'}) e c d (by decide) ⟨xs[n - 1 - i],H,I1,ru,⟨rfl,fun ys hy=>by rw [I.list_inj hy hq];exact getElem?_eq_getElem hlt⟩,?_,fun b hb=>(hf b hb).1⟩⟩;have e2:((n:Int) - 1 -((i+1:Nat):Int))=((n - 1 - i:Nat):Int) - 1:=by omega
  rw [e2];exact st2
 done:=by
  intro X hP hw hK hc i pins s σ H E I hf st hg;subst hP hw hK;obtain⟨f0,f1,f2,f3,f4,f5⟩:=hf it (by simp);have st':s.heap.IsRevIter it a (-1):=by
   have e:((n:Int) - 1 - i)= -1:=by have:i=n:=hg;omega
   rw [←e];exact st
  exact wpAny_pyNext_rev_end (I.ok.hd hc) st' fun h' eb=> ⟨rfl,I.turned (t':=s.toks) (fun b o hb e=>eb b o hb e) f0 f1 f3 f4 f5⟩
 self:=fun _ _ _ _ _ st h=>wpAny_pyIter_revIter st h
section
def A66 (K:W.Frag)(ta:TA):TI:=fun σ H R=>ta σ H fun xs H1=> ∃a ys,xs=[.ref a]/\SqL K H1 a ys/\R (Itv K a ys.length) H1
theorem A75 {e:Expr}{ta:TA}{p pos:Pos}(hg:Gl X "reversed")(hm:X.mg "reversed" =none)(ha:PA X [e] ta)(he:starEach [e] X.env=[(false,eval e X.env)]:=by rfl):PI X tg (.Call (.Name "reversed" p) [e] [] pos) (A66 X.K ta):=by
 intro pins s σ H R I h;refine wpAny_Call_Name_kw (iH I hg hm boot_reversed ?_ (by decide) (by decide));refine PyProof.Rows.callWith_type1 (thn (ha pos pins s σ H _ I h) fun us s1 ⟨vs,H1,I1,r1,q1⟩=> ?_) he rfl;obtain⟨a,ys,rfl,hq,q⟩:=q1;obtain⟨u,rfl,rx⟩:=dJ r1;cases rx;obtain⟨its,rv,pl,hz⟩:=I1.list hq;refine call_reversed_list pl.isList ?_;have hl:=rv.length;refine wpAny_pyIter_revIter (l:=a) (i:=((its.toArray.size:Int) - 1)) ⟨_,get?_push_size _ rfl,rfl,rfl⟩ ?_;refine⟨s1.heap.objs.size,[s1.heap.objs.size],_,_,H1,rfl,I1.kept (t':=s1.toks) fun b o e=>zjX _ e,A08 a _ ys.length,⟨_,get?_push_size _ rfl,rfl,?_⟩,fun b hb=> ?_,q⟩
 ·show Data.fields #[Value.ref a,rawInt _]=_;have e:((its.toArray.size:Int) - 1)=(ys.length:Int) - 1 -((0:Nat):Int):=by rw [size_toArray,←hl];simp
  rw [e]
 ·have e:b=s1.heap.objs.size:=by simpa using hb
  subst e;exact I1.fpOk (zjQ _) (I1.hok.fresh (zjQ _))
theorem A7u {K:W.Frag}{a:Addr}{xs:List V}{g:TG}{tb:TS}{D:dH}{σ:St}{H:Hp}(Pv:Nat->St->Hp->Prop)(h0:Pv 0 σ H)(hl:∀i σ H,i<=xs.length->Pv i σ H->SqL K H a xs)
  (hs:∀i x σ H,xs[xs.length - 1 - i]?=some x->i<xs.length->Pv i σ H->g x σ H fun σ2 H2=>tb {D with nx:=Pv (i+1),ct:=Pv (i+1),bk:=D.nx} σ2 H2)(hd:∀σ H,Pv xs.length σ H->D.nx σ H):cP (Itv K a xs.length) g tb D σ H:=by
 refine⟨fun i m σ H=>m=xs.length - i/\i<=xs.length/\Pv i σ H,⟨xs.length,by simp,zero_le _,h0⟩,?_⟩;rintro i m σ H ⟨rfl,hi,p⟩;by_cases hlt:i<xs.length
 ·refine .inr ⟨⟨hlt,xs,hl i σ H hi p,rfl⟩,Pv (i+1),fun σ' H' q=> ⟨xs.length -(i+1),by omega,rfl,hlt,q⟩,?_⟩;rintro x H' ⟨rfl,hx⟩;exact hs i x σ _ (hx xs (hl i σ _ hi p)) hlt p
 ·have e:i=xs.length:=by omega
  subst e;exact .inl ⟨rfl,hd σ H p⟩
end
end L2
namespace L2
open PySem PyProof.Rows
theorem zZ (xs:List V)(h:1<=xs.length):cutV xs (some 1) none=xs.drop 1:=by have e1:HT.sIx xs.length 0 (some 1)=min 1 xs.length:=HT.sIx_nat _ _ 1;have e2:HT.sIx xs.length xs.length none=xs.length:=rfl;unfold cutV;rw [e1,e2,show min 1 xs.length=1 by omega,take_of_length_le (by rw [length_drop];omega)]
def TusAt (H:Hp)(qs:List Addr)(ts:List (List V)):Prop:=Paired (fun q ys=>H q=some (.tup ys)) qs ts
theorem TusAt.same (h:TusAt H qs ts)(s:Same H H'):TusAt H' qs ts:=Paired.mapP h fun _ _ e=>s _ _ e
theorem iM (h1:Paired F l1 m1)(h2:Paired F l2 m2):Paired F (l1++l2) (m1++m2):=by
 induction h1 with
 |nil=>exact h2
 |cons r t ih=>exact .cons r ih
theorem A04 (h1:Paired F l1 m1):Paired F (l1.drop 1) m1.tail:=by
 cases h1 with
 |nil=>exact .nil
 |cons r t=>exact t
theorem yQ {J:It}{S:Hp->Prop}{l:Addr}{qs:List Addr}{ts:List (List V)}{H0:Hp}{rest:St}{Q:St->Hp->Prop}{te:TE}(f:List V->List V)(W:Wk J (qs.map V.ref) S)(hS:∀H',Same H0 H'->S H')(hC:TusAt H0 qs ts)(hl:H0 l=none)(hz:qs.length<=999)
  (ev:∀q ys H' Q',ys∈ts->H' q=some (.tup ys)->Same H0 H'->(∀t H2,Same H' H2->H2 t=some (.tup (f ys))->Q' (.ref t) H2)->te (some (.ref q)::rest) H' Q')
  (hQ:∀σ H' qs',Same H0 H'->H' l=some (.lst ((qs':List Addr).map V.ref))->TusAt H' qs' (ts.map f)->Q σ H'):
  cP J (cJ 0) (cK fL (dO l te)) (eC Q) (none::rest) (upd H0 l (.lst [])):=by
 have hlen:qs.length=ts.length:=Paired.length hC;refine W (fun i σ H'=>(∃x,σ=x::rest)/\Same H0 H'/\∃bs':List Addr,H' l=some (.lst (bs'.map V.ref))/\TusAt H' bs' ((ts.take i).map f)) ⟨⟨_,rfl⟩,aQ hl,[],by rw [aG];rfl,.nil⟩ (fun i σ H' _ h=>hS _ h.2.1) ?_ ?_
 ·rintro i x σ H' hx ⟨⟨x0,rfl⟩,hs,bs',hl',hP⟩;rw [getElem?_map]at hx;cases hb:qs[i]? with
  |none=>rw [hb]at hx;cases hx
  |some b=>
   rw [hb]at hx;cases hx;have hi:i<qs.length:=(zjW.mp hb).1;have hc:ts[i]?=some ts[i]:=getElem?_eq_getElem (by omega);have he:H0 b=some (.tup ts[i]):=by
    have:∀{qs:List Addr}{ts:List (List V)}{i:Nat}{b:Addr}{y:List V},TusAt H0 qs ts->qs[i]?=some b->ts[i]?=some y->H0 b=some (.tup y):=by
     intro qs ts i b y h
     induction h generalizing i with
     |nil=>intro z;cases z
     |cons r t ih=>
      cases i with
      |zero=>intro z1 z2;cases z1;cases z2;exact r
      |succ i=>intro z1 z2;exact ih (by simpa using z1) (by simpa using z2)
    exact this hC hb hc
   have et:(ts.take (i+1)).map f=(ts.take i).map f++[f ts[i]]:=by rw [take_succ,hc,map_append];rfl
   have hbl:bs'.length=_:=Paired.length hP;rw [length_map,length_take]at hbl;refine mL ?_;refine ev b ts[i] H' _ (getElem_mem _) (hs _ _ he) hs fun t H2 s2 ht=> ?_;have hl2:=s2 _ _ hl';refine⟨_,hl2,cH (by rw [length_map];omega),⟨_,rfl⟩,fun b2 u e=> ?_,bs'++[t],?_,?_⟩
   ·rw [aY (bL e hl)];exact s2 _ _ (hs _ _ e)
   ·rw [aG,map_append];rfl
   ·rw [et];have up:∀b xs,H2 b=some (.tup xs)->(upd H2 l (.lst (bs'.map V.ref++[.ref t]))) b=some (.tup xs):=fun b xs e=>by rw [aY (fun z=>by rw [z,hl2]at e;cases e)];exact e
    exact Paired.snoc (Paired.mapP (hP.same s2) fun _ _ e=>up _ _ e) (up _ _ ht)
 ·rintro σ H' ⟨_,hs,bs',hl',hP⟩;rw [length_map,hlen,take_of_length_le (zjQ _)]at hP;exact hQ σ H' bs' hs hl' hP
end L2
namespace M07
open PySem L2 PyProof.Rows Grd Wlk Cyc Srt
def rtV {α:Type}:List α->List (List α)
 | []=> [[]]
 |x::xs=> []::((rtV xs).map (x:: ·)++(rtV xs).tail)
theorem mX (xs:List α):∃t,rtV xs=[]::t:=by cases xs<;>exact⟨_,rfl⟩
theorem qL:∀xs:List α,(rtV xs).length=2^xs.length
 | []=>rfl
 |x::xs=>by
  have ih:=qL xs;unfold rtV;obtain⟨t,e⟩:=mX xs;rw [length_cons,length_append,length_map,List.length_tail,ih,length_cons,Nat.pow_succ];have:0<2^xs.length:=Nat.pos_of_ne_zero (by simp);omega
theorem iL:∀{xs ys:List α},ys∈rtV xs->ys.Sublist xs
 | [],ys,h=>by rw [mem_singleton.mp h];exact List.Sublist.slnil
 |x::xs,ys,h=>by
  unfold rtV at h;rcases mem_cons.mp h with rfl|h
  ·exact List.nil_sublist _
  ·rcases mem_append.mp h with h|h
   ·obtain⟨zs,hz,rfl⟩:=mem_map.mp h;exact(iL hz).cons_cons x
   ·exact(iL (List.mem_of_mem_tail h)).cons x
theorem pR:∀{xs ys:List α},ys.Sublist xs->ys∈rtV xs
 |_,_,.slnil=>mem_singleton.mpr rfl
 |x::xs,ys,.cons _ h=>by
  unfold rtV;have:=pR h;obtain⟨t,e⟩:=mX xs;rw [e]at this;rcases mem_cons.mp this with rfl|h'
  ·exact zjR
  ·refine zjS _ (mem_append.mpr (.inr ?_));rw [e];exact h'
 |x::xs,_::ys,.cons₂ _ h=>by
  unfold rtV;exact zjS _ (mem_append.mpr (.inl (mem_map_of_mem (pR h))))
def tN:Sp:=fun vs H Q _=> ∃l xs,vs=[.ref l]/\H l=some (.lst xs)/\xs.length<=7/\∀l' qs H',H l'=none->Same H H'->H' l'=some (.lst ((qs:List Addr).map V.ref))->TusAt H' qs (rtV xs)->Q (.ref l') H'
section
variable {P:Program}{w:World}{K:W.Frag}{mg:Str->Option Value}{base:Heap}
abbrev nRT:List Str:=["things","tuples","thing"]
theorem A56:(["some","thing"]:List Str).Nodup:=by decide +kernel
theorem A7f (F:D1 K mg "rising_tuples" nM ["things"])(T:TxD mg):A1 P w K mg base 1 "rising_tuples" tN:=by
 refine F.k nRT ?_;ac_nf
 ·obtain⟨l,xs,rfl,hl,h6,q⟩:=h;refine⟨_,aU (bQ (i:=1) nd rfl (Or.inl rfl) (dS (gW (cF aA) aA)))<|
   aU (eF PassesOwn.never rfl (A75 rfl T.reversed (aB (pv 0) aA)) (aJ (i:=2) nd rfl (Or.inr rfl))
    (aM (bQ (i:=1) nd rfl (Or.inl rfl) (bD iS (bD iS (dS (gW (cF aA) aA)) (bN (bE nM).names nRT ["some"] [("thing",2)] rfl (dN (pv 1)) rfl rfl rfl (by decide +kernel)
     (fun Z=>nm1 0 A56) (fun Z=>cB) (fun Z=>bD mI (cF (aB (pv 1) aA)) (pv 0)))) (gJ lA (pv 1) (gC aO) iT)))))<|
   aM (bA (pv 1)),?_⟩
  refine⟨by show 0<=sizeLine;decide,fun t0 ht0=> ⟨by show 1<=sizeLine;decide,fun l0 hl0=> ?_⟩⟩;have s0:=aQ (o:=.tup []) ht0;have s1:=aQ (o:=.lst [.ref t0]) hl0;have s01:=s0.trans s1;have el0:(upd (upd H t0 (.tup [])) l0 (.lst [.ref t0])) l0=some (.lst [.ref t0]):=aG;have et0:(upd (upd H t0 (.tup [])) l0 (.lst [.ref t0])) t0=some (.tup []):=s1 _ _ aG;have n0:H l0=none:=s0.free hl0;generalize upd (upd H t0 (.tup [])) l0 (.lst [.ref t0])=H1 at s01 el0 et0⊢;refine⟨_,rfl,l,xs,rfl,SqL.of (s01 _ _ hl),?_⟩;refine A7u (K:=K) (a:=l) (xs:=xs) (fun i σ H'=>Same H H'/\∃lt qs o,σ=[some (.ref l),some (.ref lt),o]/\H lt=none/\H' lt=some (.lst ((qs:List Addr).map V.ref))/\TusAt H' qs (rtV (xs.drop (xs.length - i))))
   ⟨s01,l0,[t0],_,rfl,n0,el0,by rw [sub_zero,List.drop_length];exact .cons et0 .nil⟩ (fun i σ H' _ h=>SqL.of (h.1 _ _ hl)) ?_ ?_
  ·rintro i x σ H' hx hi ⟨hs,lt,qs,o,rfl,nlt,elt,hT⟩;have ed:xs.drop (xs.length -(i+1))=x::xs.drop (xs.length - i):=by
    have e1:xs.length -(i+1)=xs.length - 1 - i:=by omega
    have e2:xs.length - i=xs.length - 1 - i+1:=by omega
    rw [e1,e2];exact List.drop_eq_getElem?_toList_append ..|>.trans (by rw [hx];rfl)
   generalize hR:rtV (xs.drop (xs.length - i))=R at hT;have hRl:R.length<=128:=by
    rw [←hR,qL,length_drop];exact le_trans (pow_le_pow_right (by decide) (show xs.length -(xs.length - i)<=7 by omega)) (by decide)
   have hql:qs.length=R.length:=Paired.length hT;obtain⟨R',eR⟩:∃R',R=[]::R':=by rw [←hR];exact mX _
   show iP _ _ _ [some (.ref l),some (.ref lt),some x] H';refine⟨by show 0<=sizeLine;decide,fun t1 ht1=> ⟨by show 1<=sizeLine;decide,fun l1 hl1=> ?_⟩⟩;have u1:=aQ (o:=.tup []) ht1;have u2:=aQ (o:=.lst [.ref t1]) hl1;have u12:=u1.trans u2;have el1:(upd (upd H' t1 (.tup [])) l1 (.lst [.ref t1])) l1=some (.lst [.ref t1]):=aG;have et1:(upd (upd H' t1 (.tup [])) l1 (.lst [.ref t1])) t1=some (.tup []):=u2 _ _ aG;generalize upd (upd H' t1 (.tup [])) l1 (.lst [.ref t1])=H2 at u12 el1 et1⊢;have hT2:=hT.same u12;refine⟨_,rfl,lt,rfl,⟨_,SqL.of (u12 _ _ elt)⟩,fun Z lc hlc=> ?_⟩;refine yQ (rest:=[some x]) (fun ys=>x::ys) fN (fun H3 s3=>SqL.of (s3 _ _ (u12 _ _ elt))) hT2 hlc (by omega) (fun qq ys H3 Q' hy hq s3 k=> ?_) fun σ3 H3 qs' s3 hc3 hT3=> ?_
   ·refine⟨_,rfl,by show 1<=sizeLine;decide,fun tx htx=> ?_⟩;have v1:=aQ (o:=.tup [x]) htx;refine⟨_,rfl,tx,qq,_,_,rfl,rfl,aG,v1 _ _ hq,?_,fun c H5 s5 e5=>k c H5 (v1.trans s5) e5⟩;rw [←hR]at hy;have:=(iL hy).length_le;rw [length_drop]at this;rw [sizeLine_eq];show 1+_<=_;omega
   ·have hT23:=hT2.same s3;have el1':=s3 _ _ el1;refine⟨l1,lc,_,_,rfl,rfl,el1',hc3,?_,fun la hla=> ?_⟩
    ·have:qs'.length=_:=Paired.length hT3;rw [length_map]at this;rw [sizeLine_eq,length_map];show 1+_<=_;omega
    have v1:=aQ (o:=.lst ([.ref t1]++qs'.map V.ref)) hla;refine⟨_,rfl,_,rfl,lt,_,rfl,SqL.of (v1 _ _ (s3 _ _ (u12 _ _ elt))),fun lb hlb=> ?_⟩;have v2:=aQ (o:=.lst (cutV (qs.map V.ref) (some 1) none)) hlb;have ec:cutV (qs.map V.ref) (some 1) none=(qs.drop 1).map V.ref:=by
     rw [zZ _ (by rw [length_map,hql,eR];simp),map_drop]
    refine⟨la,lb,_,_,rfl,rfl,v2 _ _ aG,aG,?_,fun lz hlz=> ?_⟩
    ·have:qs'.length=_:=Paired.length hT3;rw [length_map]at this;rw [ec,sizeLine_eq,length_append,length_map,length_map,length_drop];show 1+_+_<=_;omega
    have v3:=aQ (o:=.lst ([.ref t1]++qs'.map V.ref++cutV (qs.map V.ref) (some 1) none)) hlz;have vA:=(v1.trans v2).trans v3;have sA:=((hs.trans u12).trans s3).trans vA;refine⟨sA,lz,t1::(qs'++qs.drop 1),_,rfl,((hs.trans u12).trans s3).free (((v1.trans v2)).free hlz),?_,?_⟩
    ·rw [aG,ec];simp [map_append]
    ·rw [ed];show TusAt _ (t1::(qs'++qs.drop 1)) ([]::((rtV (xs.drop (xs.length - i))).map (x:: ·)++(rtV (xs.drop (xs.length - i))).tail));rw [hR];exact .cons (vA _ _ (s3 _ _ et1)) (iM (hT3.same vA) (A04 (hT23.same vA)))
  ·rintro σ H' ⟨hs,lt,qs,o,rfl,nlt,elt,hT⟩;rw [Nat.sub_self,drop_zero]at hT;exact⟨_,rfl,q lt qs H' nlt hs elt hT⟩
end
end M07
namespace Wlk
open PySem PyProof.Rows Srt Cyc Grd
def qC (cs:List Pl):Prop:=cs≠[]/\∀C:List Pl,gD cs C->(∃x∈cs,x∈C)->∀y∈cs,y∈C
open Classical in
noncomputable def kB (cs:List Pl):Bool:=decide (qC cs)
theorem sU (h:gD cs C):gD cs (cs.filter fun x=> !decide (x∈C)):=fun x hx y hy hcs=>by
 have hx':=mem_filter.mp hx;refine mem_filter.mpr ⟨hcs,?_⟩;have hn:x∉C:=by simpa using hx'.2
 have:y∉C:=fun hyC=>hn (h y hyC x (jZ hy) hx'.1);simpa using this
theorem sM (h0:c0∈cs)(h:∀C,gD cs C->c0∈C->∀y∈cs,y∈C):qC cs:=by
 refine⟨fun z=> ?_,fun C hC hx0=> ?_⟩
 ·rw [z]at h0;cases h0
 obtain⟨x,hx,hxC⟩:=hx0;by_cases z:c0∈C
 ·exact h C hC z
 ·have:=h _ (sU hC) (mem_filter.mpr ⟨h0,by simpa using z⟩) x hx;have:=(mem_filter.mp this).2;simp [hxC]at this
open Classical in
theorem A6b (hu:cs.Pairwise ltP)(h:xE cs b):b=kB cs:=by
 unfold kB;rcases h with⟨rfl,rfl⟩| ⟨c0,tl,P0,rfl,hP,rfl⟩
 ·exact(zjU fun z=>z.1 rfl).symm
 ·rw [Bool.eq_iff_iff,decide_eq_true_eq,decide_eq_true_eq];constructor
  ·intro e;refine sM zjR fun C hC h0 y hy=> ?_;by_cases z:y∈C
   ·exact z
   ·have:=hP.min _ (sU hC) ⟨y,by rw [e];exact hy,mem_filter.mpr ⟨hy,by simpa using z⟩⟩;have:=(mem_filter.mp this).2;simp [h0]at this
  ·intro hc;refine A5s hP.up hu fun x=> ⟨fun hx=>hP.sub x hx,fun hx=> ?_⟩;exact hc.2 P0 hP.cl ⟨c0,zjR,hP.st⟩ x hx
def dU (met rest:List Pl):List Pl:=rest.filter fun p=>met.any fun o=>dI o p
def hstep (mr:List Pl×List Pl):List Pl×List Pl:=(mr.1++dU mr.1 mr.2,mr.2.filter fun p=> !decide (p∈dU mr.1 mr.2))
def hit:Nat->List Pl×List Pl->List Pl×List Pl
 |0,mr=>mr
 |n+1,mr=>hstep (hit n mr)
structure HInv (cs:List Pl)(c0:Pl)(mr:List Pl×List Pl):Prop where
 all:∀x,x∈cs↔x∈mr.1\/x∈mr.2
 re:∀C,gD cs C->c0∈C->∀x∈mr.1,x∈C
 st:c0∈mr.1
 dj:∀x∈mr.2,x∉mr.1
theorem mem_more:x∈dU met rest↔x∈rest/\∃o∈met,x∈beside o:=by unfold dU;rw [mem_filter,any_eq_true];refine and_congr_right fun _=>exists_congr fun o=>and_congr_right fun _=> ?_;exact next_iff.trans ⟨jZ,jZ⟩
theorem HInv.step (h:HInv cs c0 mr):HInv cs c0 (hstep mr):=by
 obtain⟨met,rest⟩:=mr;refine⟨fun x=> ?_,fun C hC h0 x hx=> ?_,mem_append.mpr (.inl h.st),fun x hx hm=> ?_⟩
 ·rw [h.all x];show _↔x∈met++dU met rest\/x∈rest.filter _;rw [mem_append,mem_filter];constructor
  ·rintro(z|z)
   ·exact .inl (.inl z)
   ·by_cases y:x∈dU met rest
    ·exact .inl (.inr y)
    ·exact .inr ⟨z,by simpa using y⟩
  ·rintro((z|z)|z)
   ·exact .inl z
   ·exact .inr (mem_more.mp z).1
   ·exact .inr z.1
 ·rcases mem_append.mp hx with z|z
  ·exact h.re C hC h0 x z
  ·obtain⟨z1,o,ho,hb⟩:=mem_more.mp z;exact hC o (h.re C hC h0 o ho) x hb ((h.all x).mpr (.inr z1))
 ·have hx':=mem_filter.mp hx;rcases mem_append.mp hm with z|z
  ·exact h.dj x hx'.1 z
  ·have:=hx'.2;rw [zjV z]at this;cases this
theorem sX (h:HInv cs c0 mr):∀n,HInv cs c0 (hit n mr)
 |0=>h
 |n+1=>(sX h n).step
theorem nI:∀{l:List α}{x:α},x∈l->p x=false->(l.filter p).length<l.length
 |y::l,x,h,hp=>by
  rcases mem_cons.mp h with rfl|h
  ·rw [filter_cons_of_neg (by rw [hp];decide),length_cons];exact Nat.lt_succ_of_le (length_filter_le _ _)
  ·have:=nI h hp;have h2:=length_filter_le p l;rw [List.filter_cons]
   split<;>simp only [length_cons]<;>omega
theorem hit_stop (mr:List Pl×List Pl):∀n,(hit n mr).2=[]\/dU (hit n mr).1 (hit n mr).2=[]\/(hit n mr).2.length+n<=mr.2.length
 |0=> .inr (.inr (zjQ _))
 |n+1=>by
  show(hstep (hit n mr)).2=[]\/dU (hstep (hit n mr)).1 (hstep (hit n mr)).2=[]\/(hstep (hit n mr)).2.length+(n+1)<=mr.2.length;rcases hit_stop mr n with h|h|h
  ·left
   show filter _ _=[];rw [h];rfl
  ·right;left
   unfold hstep;rw [h,append_nil];have ef:(hit n mr).2.filter (fun p=> !decide (p∈([]:List Pl)))=(hit n mr).2:=List.filter_eq_self.mpr fun a _=>by simp
   rw [ef];exact h
  ·by_cases z:dU (hit n mr).1 (hit n mr).2=[]
   ·right;left
    unfold hstep;rw [z,append_nil];have ef:(hit n mr).2.filter (fun p=> !decide (p∈([]:List Pl)))=(hit n mr).2:=List.filter_eq_self.mpr fun a _=>by simp
    rw [ef];exact z
   ·right;right
    obtain⟨x,xs,e⟩:=exists_cons_of_ne_nil z;have hx:x∈dU (hit n mr).1 (hit n mr).2:=by rw [e];exact zjR
    have:=nI (p:=fun p=> !decide (p∈dU (hit n mr).1 (hit n mr).2)) (mem_more.mp hx).1 (by rw [zjV hx];rfl);show(filter _ _).length+(n+1)<=_;omega
open Classical in
theorem A7m (nd:(c0::tl).Nodup):((hit (tl.length+1) ([c0],tl)).2=[])↔qC (c0::tl):=by
 have h0:HInv (c0::tl) c0 ([c0],tl):=⟨fun x=>by simp,fun C _ hc x hx=>by rw [mem_singleton.mp hx];exact hc,zjR,fun x hx hm=>by
  rw [mem_singleton.mp hm]at hx;exact(nodup_cons.mp nd).1 hx⟩
 have h:=sX h0 (tl.length+1);have hs:=hit_stop ([c0],tl) (tl.length+1);generalize hit (tl.length+1) ([c0],tl)=mr at h hs;constructor
 ·intro e;refine sM zjR fun C hC hc y hy=> ?_;rcases(h.all y).mp hy with z|z
  ·exact h.re C hC hc y z
  ·rw [e]at z;cases z
 ·intro hc;rcases hs with z|z|z
  ·exact z
  ·have hcl:gD (c0::tl) mr.1:=fun x hx y hy hcs=>by
    rcases(h.all y).mp hcs with u|u
    ·exact u
    ·have:y∈dU mr.1 mr.2:=mem_more.mpr ⟨u,x,hx,hy⟩;rw [z]at this;cases this
   have:=hc.2 mr.1 hcl ⟨c0,zjR,h.st⟩;cases e:mr.2 with
   |nil=>rfl
   |cons x xs=>
    have hx:x∈mr.2:=by rw [e];exact zjR
    exact absurd (this x ((h.all x).mpr (.inr hx))) (h.dj x hx)
  ·have:tl.length+1<=tl.length:=le_trans (Nat.le_add_left _ _) z;omega
end Wlk
namespace L2
open PySem PyProof.Rows Wlk
theorem iE {α:Type}{R:Hp->Addr->α->Prop}(rx:∀{H H' q a},Ext H H'->R H q a->R H' q a){J:It}{S:Hp->Prop}{l:Addr}{qs:List Addr}{ts:List α}{H0:Hp}{rest:St}{Q:St->Hp->Prop}{tt:TT}(p:α->Bool)(W:Wk J (qs.map V.ref) S)(hS:∀H',Same H0 H'->S H')(hC:Paired (R H0) qs ts)(hl:H0 l=none)(hz:qs.length<=999)
  (tst:∀b c H' Q',c∈ts->R H' b c->Same H0 H'->(∀H2,Same H' H2->Q' (p c) H2)->tt (some (.ref b)::rest) H' Q')
  (hQ:∀σ H' qs',Same H0 H'->H' l=some (.lst ((qs':List Addr).map V.ref))->Paired (R H') qs' (ts.filter p)->Q σ H'):
  cP J (cJ 0) (cK tt (dO l (cS 0))) (eC Q) (none::rest) (upd H0 l (.lst [])):=by
 have hlen:qs.length=ts.length:=Paired.length hC;refine W (fun i σ H'=>(∃x,σ=x::rest)/\Same H0 H'/\∃bs':List Addr,H' l=some (.lst (bs'.map V.ref))/\Paired (R H') bs' ((ts.take i).filter p)) ⟨⟨_,rfl⟩,aQ hl,[],by rw [aG];rfl,.nil⟩ (fun i σ H' _ h=>hS _ h.2.1) ?_ ?_
 ·rintro i x σ H' hx ⟨⟨x0,rfl⟩,hs,bs',hl',hP⟩;rw [getElem?_map]at hx;cases hb:qs[i]? with
  |none=>rw [hb]at hx;cases hx
  |some b=>
   rw [hb]at hx;cases hx;obtain⟨c,hc,he⟩:=gN hC hb;have hi:i<qs.length:=(zjW.mp hb).1;have et:(ts.take (i+1)).filter p=(ts.take i).filter p++(if p c=true then [c]else []):=by
    rw [take_succ,hc,filter_append]
    congr 1
    by_cases z:p c=true
    ·simp [z]
    ·simp [z]
   have hfl:=length_filter_le p (ts.take i);rw [length_take]at hfl;have hbl:bs'.length=_:=Paired.length hP;refine tst b c H' _ (mem_of_getElem? hc) (rx hs.ext he) hs fun H2 h2=> ?_;have hl2:=h2 _ _ hl';refine dC (fun hz'=> ?_) fun hz'=> ?_
   ·have x2:Ext H2 (upd H2 l (.lst (bs'.map V.ref++[.ref b]))):=Ext.updL hl2;refine⟨_,rfl,_,hl2,cH (by rw [length_map];omega),⟨_,rfl⟩,fun b2 u e=> ?_,bs'++[b],?_,?_⟩
    ·rw [aY (bL e hl)];exact h2 _ _ (hs _ _ e)
    ·rw [aG,map_append];rfl
    ·rw [et,if_pos hz'];exact Paired.snoc (Paired.mapP hP fun _ _ e=>rx x2 (rx h2.ext e)) (rx x2 (rx (hs.ext.trans h2.ext) he))
   ·refine⟨⟨_,rfl⟩,hs.trans h2,bs',hl2,?_⟩;rw [et,if_neg (by rw [hz'];decide),append_nil];exact Paired.mapP hP fun _ _ e=>rx h2.ext e
 ·rintro σ H' ⟨_,hs,bs',hl',hP⟩;rw [length_map,hlen,take_of_length_le (zjQ _)]at hP;exact hQ σ H' bs' hs hl' hP
end L2
namespace M07
open PySem L2 PyProof.Rows Grd Wlk Cyc Srt
theorem SqA.ext (h:SqA H a cs)(e:Ext H H'):SqA H' a cs:=let ⟨ps,h1,h2⟩:=h;⟨ps,e.tup _ _ h1,Paired.mapP h2 fun _ _ z=>e.tup _ _ z⟩
def LansAt (H:Hp)(qs:List Addr)(ts:List (List Pl)):Prop:=Paired (fun q cs=>SqA H q cs) qs ts
theorem LansAt.ext (h:LansAt H qs ts)(e:Ext H H'):LansAt H' qs ts:=Paired.mapP h fun _ _ x=>SqA.ext x e
theorem A9m (h:PlAt H ps A):Paired (fun p c=>PlAt H p c) (rtV ps) (rtV A):=by
 induction h with
 |nil=>exact .cons .nil .nil
 | @cons p0 c0 _ _ r t ih=>
  unfold rtV;refine .cons .nil (iM ?_ ?_)
  ·have:∀{l:List (List Addr)}{m:List (List Pl)},Paired (fun p c=>PlAt H p c) l m->Paired (fun p c=>PlAt H p c) (l.map (p0:: ·)) (m.map (c0:: ·)):=by
    intro l m h
    induction h with
    |nil=>exact .nil
    |cons r2 t2 ih2=>exact .cons (.cons r r2) ih2
   exact this ih
  ·have:∀{l:List (List Addr)}{m:List (List Pl)},Paired (fun p c=>PlAt H p c) l m->Paired (fun p c=>PlAt H p c) l.tail m.tail:=by
    intro l m h;cases h with
    |nil=>exact .nil
    |cons r2 t2=>exact t2
   exact this ih
theorem vZ (f:α->β):∀xs:List α,rtV (xs.map f)=(rtV xs).map (List.map f)
 | []=>rfl
 |x::xs=>by
  have ih:=vZ f xs;show []::((rtV (xs.map f)).map (f x:: ·)++(rtV (xs.map f)).tail)=[]::((rtV xs).map (x:: ·)++(rtV xs).tail).map (List.map f);rw [ih,map_append,map_map,map_map,List.map_tail];rfl
theorem A71 (h:TusAt H qs (rtV (ps.map V.ref)))(hP:PlAt H ps A):LansAt H qs (rtV A):=by
 rw [vZ]at h;have key:∀{qs:List Addr}{l:List (List Addr)}{m:List (List Pl)},TusAt H qs (l.map (List.map V.ref))->Paired (fun p c=>PlAt H p c) l m->LansAt H qs m:=by
  intro qs l m h1 h2
  induction h2 generalizing qs with
  |nil=>cases h1;exact .nil
  |cons r t ih=>
   cases h1 with
   |cons r1 t1=>exact .cons ⟨_,r1,r⟩ (ih t1)
 exact key h (A9m hP)
noncomputable def fW (g:bF)(cs:List Pl):Bool:=(cs.any fun c=>decide (c∈(bB pos g).filter (eQ g)))&&kB cs
noncomputable def pO (g:bF):List (List Pl):=(rtV (bB pos g)).filter (fW g)
def ab (i:Int):Int:=if i<0 then -i else i
def fT (g:bF)(cs:List Int)(cl:List C3)(od i:Int)(L:List Pl):Bool:=decide (ab (cG g L*iW g cs cl i - kR g cs cl i)<=od*iW g cs cl i)
def oJ:Sp:=fun vs H Q _=> ∃t l g w cs ps,vs=[.ref t,.ref l]/\SqA H t cs/\cR g w/\LandOf g cs/\H l=some (.lst ((ps:List Addr).map V.ref))/\PlAt H ps ((bB pos g).filter (eQ g))/\∀H',Same H H'->Q (.bl (fW g cs)) H'
def tZ:Sp:=fun vs H Q _=> ∃a g w,vs=[.ref a]/\GridAt H a g/\cR g w/\cO g<=7/\∀l qs H',H l=none->Same H H'->H' l=some (.lst ((qs:List Addr).map V.ref))->LansAt H' qs (pO g)->Q (.ref l) H'
section
variable {P:Program}{w:World}{K:W.Frag}{mg:Str->Option Value}{base:Heap}
theorem LandOf.up (h:LandOf g cs):cs.Pairwise ltP:=(qD pos g).sublist h
theorem A2l (F:D1 K mg "is_sound" tV ["land","roadside"])(a1:A1 P w K mg base 1 "has_some_of" yW)(a2:A1 P w K mg base 3 "is_one_piece" yN):A1 P w K mg base 4 "is_sound" oJ:=by
 refine F.k ["land","roadside"] ?_;ac_nf
 ·obtain⟨t,l,g,w',cs,ps,rfl,ht,G,hL,hl,hP,q⟩:=h;have h10:=LandOf.len G hL;refine⟨_,aM (bA (fC (a1.c hr (aB (pv 0) (aB (pv 1) aA))) (eZ (a2.c hr (aB (pv 0) aA))))),?_⟩;refine⟨_,rfl,_,rfl,t,l,cs,ps,_,rfl,ht,by omega,hl,hP,fun H1 s1=> ⟨_,rfl,dC (fun e=> ?_) fun e=> ?_⟩⟩
  ·refine⟨_,rfl,t,cs,rfl,SqA.ext ht s1.ext,h10,fun b H2 s2 hb=> ?_⟩;have:=q H2 (s1.trans s2);unfold fW at this;rw [e,Bool.true_and,←A6b (LandOf.up hL) hb]at this;exact this
  ·have:=q H1 s1;unfold fW at this;rw [e,Bool.false_and]at this;exact this
end
theorem lY (h6:cO g<=7):(rtV (bB pos g)).length<=128:=by rw [qL,fS];exact le_trans (pow_le_pow_right (by decide) h6) (by decide)
section
variable {P:Program}{w:World}{K:W.Frag}{mg:Str->Option Value}{base:Heap}
theorem A6q:(["land","roadside"]:List Str).Nodup:=by decide +kernel
theorem A65 (F:D1 K mg "sound_lands" oE ["mead"])(a1:A1 P w K mg base 7 "cells_at_road" rC)(a2:A1 P w K mg base 1 "rising_tuples" tN)(a3:A1 P w K mg base 6 "cells_of" (eE pos))(a4:A1 P w K mg base 4 "is_sound" oJ):A1 P w K mg base 8 "sound_lands" tZ:=by
 refine F.k ["mead","roadside"] ?_;ac_nf
 ·obtain⟨a,g,w',rfl,hA,G,c6,q⟩:=h;refine⟨_,aU (bQ (i:=1) nd rfl (Or.inr rfl) (a1.c hr (aB (pv 0) aA)))<|
   aM (bA (bN (bE oE).names ["mead","roadside"] ["land"] [("roadside",1)] rfl (dN (a2.c hr (bY (a3.c hr (aB (pv 0) aA)) aA))) rfl rfl rfl (by decide +kernel)
    (fun Z=>nm1 0 A6q) (fun Z=>eT (bP (a4.c hr (aB (pv 0) (aB (pv 1) aA))))) (fun Z=>pv 0))),?_⟩
  refine⟨_,rfl,a,g,w',rfl,hA,G,fun H1 lr pr hlr s1 elr hR=> ?_⟩;refine⟨_,rfl,a,g,w',rfl,hA.same s1,G,fun H2 lc pc hlc s2 elc hP=> ?_⟩;have hpl:pc.length=(bB pos g).length:=Paired.length hP;refine⟨lc,_,rfl,elc,by rw [length_map,hpl,fS];exact c6,fun lt qs H3 hlt s3 elt hT=> ?_⟩;have hL:=A71 hT (hP.same s3);have hql:qs.length=_:=Paired.length hL;have h64:=lY c6;have s23:=s2.trans s3;refine⟨lt,rfl,⟨_,SqL.of elt⟩,fun Z l hl=> ?_⟩;refine iE (R:=fun H q cs=>SqA H q cs) (fun e h=>SqA.ext h e) (rest:=[some (.ref lr)]) (fW g) fN (fun H' hs=>SqL.of (hs _ _ elt)) hL hl (by omega) (fun b c H' Q' hc hb hs k=> ?_) fun σ H' qs' hs el' hP'=> ?_
  ·exact⟨_,rfl,_,rfl,b,lr,g,w',c,pr,rfl,hb,G,iL hc,hs _ _ (s23 _ _ elr),(hR.same s23).same hs,fun H2' s2'=> ⟨_,rfl,k H2' s2'⟩⟩
  ·have sA:=(s1.trans s23).trans hs;exact q l qs' H' ((s1.trans s23).free hl) sA el' hP'
theorem mT:bootBuiltins "abs" =some (.builtin "abs"):=by decide +kernel
def qO:Sp:=fun vs H Q _=> ∃p g w cs cl od i l qs Ls,vs=[.ref p,.int i,.ref l]/\PleA H p g w cs cl od/\dL cl i=true/\H l=some (.lst ((qs:List Addr).map V.ref))/\LansAt H qs Ls/\Ls.length<=128/\(∀L∈Ls,LandOf g L)/\∀l' qs' H',H l'=none->Same H H'->H' l'=some (.lst ((qs':List Addr).map V.ref))->LansAt H' qs' (Ls.filter (fT g cs cl od i))->Q (.ref l') H'
theorem A2r {g:bF}{w:Nat}(G:cR g w){c:Pl}(hc:c∈bB pos g):0<=atG g c/\atG g c<=99:=by obtain⟨i,j,xs,x,rfl,hx,hj,hp⟩:=mem_gridF.mp hc;rw [jJ hx hj];exact⟨of_decide_eq_true hp,(G.num xs (mem_of_getElem? hx) x (mem_of_getElem? hj)).2⟩
theorem rM {g:bF}{w:Nat}(G:cR g w){L:List Pl}(h:∀c∈L,c∈bB pos g)(h10:L.length<=10):0<=cG g L/\cG g L<=990:=by
 have hv:∀c∈bB pos g,0<=atG g c/\atG g c<=99:=fun c hc=>A2r G hc;have:0<=cG g L/\cG g L<=99*L.length:=by
  unfold cG;clear h10
  induction L with
  |nil=>exact⟨by simp,by simp⟩
  |cons c L ih=>
   have i:=ih fun d hd=>h d (zjS _ hd);have hc:=hv c (h c zjR);rw [map_cons,sum_cons,length_cons];omega
 omega
abbrev nWD:List Str:=["plea","holder","lands","mead","custom","claims","odd","top","bottom"]
theorem A8j:(["land","mead","bottom","top","odd"]:List Str).Nodup:=by decide +kernel
theorem A4q (F:D1 K mg "worth_the_due" pF ["plea","holder","lands"])(T2:dY mg)(a1:A1 P w K mg base 9 "due_of" qZ)(a2:A1 P w K mg base 1 "worth_together" yX):A1 P w K mg base 10 "worth_the_due" qO:=by
 refine F.k nWD ?_;ac_nf
 ·obtain⟨p,g,w',cs,cl,od,i,l,qs,Ls,rfl,D,hh,hl,hL,h64,hLs,q⟩:=h;obtain⟨m,c,a,hp,hm,hc,ha⟩:=D.ex;refine⟨_,aU (dQ (pv 0) (bV rfl (aX (aJ (i:=3) nd rfl (Or.inr rfl)) (aX (nm1 4 nd) (aX (nm1 5 nd) (aX (aJ (i:=6) nd rfl (Or.inr rfl)) bW))))))<|
   aU (dQ (a1.c hr (aB (pv 0) (aB (pv 1) aA))) (bV rfl (aX (aJ (i:=7) nd rfl (Or.inr rfl)) (aX (aJ (i:=8) nd rfl (Or.inr rfl)) bW))))<|
   aM (bA (bN (bE pF).names nWD ["land"] [("mead",3),("bottom",8),("top",7),("odd",6)] rfl (dN (pv 2)) rfl rfl rfl (by decide +kernel)
    (fun Z=>nm1 0 A8j) (fun Z=>eT (cI iG (bH lN rfl T2.abs mT (dM (bD gZ (bD eG (a2.c hr (aB (pv 1) (aB (pv 0) aA))) (pv 2)) (pv 3)) aA)) (bD eG (pv 4) (pv 2)) (nomark _))) (fun Z=>pv 0))),?_⟩
  refine⟨_,rfl,p,_,rfl,SqT.of hp,rfl,_,_,rfl,_,_,rfl,_,_,rfl,_,_,rfl,rfl,?_⟩;refine⟨_,rfl,_,rfl,p,g,w',cs,cl,od,i,rfl,D,hh,fun t H1 s1 ht=> ?_⟩;refine⟨t,_,rfl,SqT.of ht,rfl,_,_,rfl,_,_,rfl,rfl,?_⟩;have hql:qs.length=_:=Paired.length hL;refine⟨_,rfl,l,rfl,⟨_,SqL.of (s1 _ _ hl)⟩,fun Z lz hlz=> ?_⟩;refine iE (R:=fun H q cs=>SqA H q cs) (fun e h=>SqA.ext h e) (rest:=[some (.ref m),some (.int (iW g cs cl i)),some (.int (kR g cs cl i)),some (.int od)]) (fT g cs cl od i) fN (fun H' hs=>SqL.of (hs _ _ (s1 _ _ hl))) (hL.ext s1.ext) hlz (by omega) (fun b L H' Q' hc hb hs k=> ?_) fun σ H' qs' hs el' hP'=> ?_
  ·have hLL:=hLs L hc;refine⟨_,rfl,_,rfl,m,b,g,w',L,rfl,(hm.same s1).same hs,D.G,hb,hLL,fun H2 s2=> ?_⟩;have wb:=rM D.G (fun c hc=>hLL.subset hc) (LandOf.len D.G hLL);refine⟨_,rfl,_,_,rfl,rfl,.inl ⟨by omega,by omega⟩,_,rfl,_,_,rfl,rfl,_,rfl,_,rfl,_,rfl,_,_,rfl,rfl,.inl ⟨by have:=D.o9;omega,by have:=D.o9;omega⟩,_,_,rfl,rfl,_,rfl,?_⟩;exact k H2 s2
  ·exact q lz qs' H' (s1.free hlz) (s1.trans hs) el' hP'
end
end M07
namespace M07
open PySem L2 PyProof.Rows Grd Wlk Cyc Srt Set4
def oT:Sp:=fun vs H Q _=> ∃p q c d,vs=[.ref p,.ref q]/\PlA H p c/\PlA H q d/\Q (.bl (dI c d)) H
section
variable {P:Program}{w:World}{K:W.Frag}{mg:Str->Option Value}{base:Heap}
theorem A6v (F:D1 K mg "_law_next_to" sP ["_law_one","_law_other"])(T2:dY mg):A1 P w K mg base 1 "_law_next_to" oT:=by
 refine F.k ["_law_one","_law_other"] ?_;ac_nf
 ·obtain⟨p,q,c,d,rfl,hp,hq,k⟩:=h;refine⟨_,aM (bA (dD eX (bD eJ (bH lN rfl T2.abs mT (dM (bD gZ (bK cA (pv 0) aO (fun _ _=>rfl)) (bK cA (pv 1) aO (fun _ _=>rfl))) aA)) (bH lN rfl T2.abs mT (dM (bD gZ (bK cA (pv 0) aO (fun _ _=>rfl)) (bK cA (pv 1) aO (fun _ _=>rfl))) aA))) aO (nomark _))),?_⟩;refine⟨_,rfl,p,_,0,_,rfl,rfl,SqT.of hp,cC (j:=0) rfl,_,rfl,q,_,0,_,rfl,rfl,SqT.of hq,cC (j:=0) rfl,_,_,rfl,rfl,_,rfl,?_⟩;refine⟨_,rfl,p,_,1,_,rfl,rfl,SqT.of hp,cC (j:=1) rfl,_,rfl,q,_,1,_,rfl,rfl,SqT.of hq,cC (j:=1) rfl,_,_,rfl,rfl,_,rfl,_,_,rfl,rfl,rfl,?_⟩;have e:decide (V.int ((if c.1 - d.1<0 then -(c.1 - d.1)else c.1 - d.1)+(if c.2 - d.2<0 then -(c.2 - d.2)else c.2 - d.2))=V.int 1)=dI c d:=by
   unfold dI;rw [decide_eq_decide];constructor
   ·intro z;have:=V.int.inj z;split at this<;>split at this<;>omega
   ·intro z;congr 1;split<;>split<;>omega
  rw [e];exact k
end
def lhangs (cs:List Pl):Bool:=match cs with| []=>false|c0::tl=>decide ((hit (tl.length+1) ([c0],tl)).2=[])
def wH:Sp:=fun vs H Q _=> ∃t cs,vs=[.ref t]/\SqA H t cs/\cs.length<=10/\∀H',Same H H'->Q (.bl (lhangs cs)) H'
theorem vU (c0:Pl)(tl:List Pl):∀i,(hit i ([c0],tl)).1.length<=1+tl.length*i/\(hit i ([c0],tl)).2.length<=tl.length
 |0=> ⟨by simp [hit],by simp [hit]⟩
 |i+1=>by
  have ih:=vU c0 tl i;have h1:(dU (hit i ([c0],tl)).1 (hit i ([c0],tl)).2).length<=(hit i ([c0],tl)).2.length:=length_filter_le _ _;refine⟨?_,le_trans (length_filter_le _ _) ih.2⟩;show((hit i ([c0],tl)).1++dU (hit i ([c0],tl)).1 (hit i ([c0],tl)).2).length<=_;rw [length_append,Nat.mul_succ];omega
section
variable {P:Program}{w:World}{K:W.Frag}{mg:Str->Option Value}{base:Heap}
abbrev nLH:List Str:=["_law_land","_law_met","_law_rest","_law_turn","_law_more"]
theorem A7b:(["_law_place","_law_met"]:List Str).Nodup:=by decide +kernel
theorem A1m:(["_law_one","_law_place"]:List Str).Nodup:=by decide +kernel
theorem A7n:(["_law_place","_law_more"]:List Str).Nodup:=by decide +kernel
theorem A19 (F:D1 K mg "_law_hangs" mJ ["_law_land"])(T3:TxC mg)(a1:A1 P w K mg base 1 "_law_next_to" oT):A1 P w K mg base 2 "_law_hangs" wH:=by
  refine F.k nLH ?_;ac_nf
  · obtain⟨t,cs,rfl,hA,h10,q⟩:=h
    refine⟨_,aU (bR (cI (vY (fB hr)) (pv 0) (cF aA) (nomark _)) (aM (bA dA)) bU)<|
      aU (dQ (cF (lR (dS (fF (bK cA (pv 0) aO (fun _ _=>rfl)) aA)) (bY (fO A4j rfl T3.list boot_list (fF (gJ nG (pv 0) (gC aO) iT) aA)) aA))) (bV rfl (aX (aJ (i:=1) nd rfl (Or.inr rfl)) (aX (nm1 2 nd) bW))))<|
      aU (eF PassesOwn.never rfl (cY (pv 0)) (nm1 3 nd)
        (aU (bQ (i:=4) nd rfl (Or.inr rfl) (bN (bE mJ).names nLH ["_law_place"] [("_law_met",1)] rfl (dN (pv 2)) rfl rfl rfl (by decide +kernel)
          (fun Z=>aJ (i:=0) A7b rfl (Or.inr rfl)) (fun Z=>eT (cI (wC 1 (fB hr)) (bN [(".0",.local),("_law_place",.cell),("_law_met",.cell)] ["_law_place","_law_met"] ["_law_one"] [("_law_place",0)] rfl (dN (pv 1)) rfl rfl rfl (by decide +kernel)
            (fun Z=>nm1 0 A1m) (fun Z=>eT (bP (a1.c hr (aB (pv 0) (aB (pv 1) aA))))) (fun Z=>pv 0)) (dS aA) (nomark _))) (fun Z=>pv 0)))<|
         aM (dQ (cF (dM (bD iS (pv 1) (pv 4)) (cM (bN (bE mJ).names nLH ["_law_place"] [("_law_more",4)] rfl (dN (pv 2)) rfl rfl rfl (by decide +kernel)
          (fun Z=>nm1 0 A7n) (fun Z=>eT (cI (vJ 1 (fB hr)) (pv 0) (pv 1) rfl)) (fun Z=>pv 0)) aA))) (bV rfl (aX (aJ (i:=1) nd rfl (Or.inr rfl)) (aX (nm1 2 nd) bW))))))<|
      aM (bA (dD (A5d 1 (fB hr)) (pv 2) (dS aA) (nomark _))),?_⟩
    refine⟨_,rfl,by show 0<=sizeLine;decide,fun t0 ht0=> ?_⟩;have u0:=aQ (o:=.tup []) ht0;refine⟨t,t0,cs,[],rfl,rfl,SqA.ext hA u0.ext,⟨[],aG,.nil⟩,_,rfl,eW (fun z=> ?_) fun z=> ?_⟩
    · subst z
      exact q _ u0
    generalize upd H t0 (.tup [])=H1 at u0⊢;obtain⟨c0,tl,rfl⟩:=exists_cons_of_ne_nil z;obtain⟨ps,ht,hP⟩:=SqA.ext hA u0.ext;obtain⟨p0,pt,rfl,hp0,hpt⟩:∃p0 pt,ps=p0::pt/\PlA H1 p0 c0/\PlAt H1 pt tl:=by
      cases hP with
      |cons r t=>exact⟨_,_,rfl,r,t⟩
    have hptl:pt.length=tl.length:=Paired.length hpt;have htl:tl.length+1<=10:=h10;refine⟨_,rfl,t,_,0,_,rfl,rfl,SqT.of ht,cC (j:=0) rfl,by show 1<=sizeLine;decide,fun lm hlm=> ?_⟩;have u1:=aQ (o:=.lst [.ref p0]) hlm;refine⟨_,rfl,_,rfl,t,_,rfl,u1 _ _ ht,fun ts H2 s2 ets=> ?_⟩;rw [zZ _ (by simp)]at ets;have ets':H2 ts=some (.tup (pt.map V.ref)):=ets;have elm:=s2 _ _ (aG (H:=H1) (a:=lm) (o:=.lst [.ref p0]));have s12:=u1.trans s2;generalize upd H1 lm (.lst [.ref p0])=H1' at*;refine⟨ts,_,rfl,.inr (SqT.of ets),fun lr hlr=> ?_⟩;have u3:=aQ (o:=.lst (List.drop 1 (List.map V.ref (p0::pt)))) hlr;have elr:(upd H2 lr (.lst (List.drop 1 (List.map V.ref (p0::pt))))) lr=some (.lst (pt.map V.ref)):=by rw [aG];rfl
    generalize upd H2 lr (.lst (List.drop 1 (List.map V.ref (p0::pt))))=H3 at u3 elr⊢;refine⟨by show 2<=sizeLine;decide,fun tt htt=> ?_⟩;have u4:=aQ (o:=.tup [V.ref lm,V.ref lr]) htt;refine⟨tt,_,rfl,SqT.of aG,rfl,_,_,rfl,_,_,rfl,rfl,?_⟩;generalize upd H3 tt (.tup [V.ref lm,V.ref lr])=H4 at u4⊢;have s14:=(s12.trans u3).trans u4;have s04:=u0.trans s14;refine⟨_,rfl,t,rfl,⟨_,SqT.of (s14 _ _ ht)⟩,?_⟩;refine gE (K:=K) (a:=t) (xs:=(p0::pt).map V.ref) (fun i σ H'=>Same H4 H'/\∃lm lr o3 o4 pm pr,σ=[some (.ref t),some (.ref lm),some (.ref lr),o3,o4]/\H' lm=some (.lst ((pm:List Addr).map V.ref))/\PlAt H' pm (hit i ([c0],tl)).1/\H' lr=some (.lst ((pr:List Addr).map V.ref))/\PlAt H' pr (hit i ([c0],tl)).2)
      ⟨Same.refl _,lm,lr,_,_,[p0],pt,rfl,u4 _ _ (u3 _ _ elm),.cons (s14 _ _ hp0) .nil,u4 _ _ elr,hpt.same s14⟩ (fun i σ H' _ h=>SqT.of (h.1 _ _ (s14 _ _ ht))) ?_ ?_
    · rintro i x σ H' hx ⟨hs,lm,lr,o3,o4,pm,pr,rfl,elm,hM,elr,hR⟩
      have hi:i<(p0::pt).length:=by
        have:=(zjW.mp hx).1;rw [length_map]at this;exact this
      have hi10:i<10:=by rw [length_cons]at hi;omega
      have hl:=vU c0 tl i;have hm1:(hit i ([c0],tl)).1.length<=100:=by
        have:tl.length*i<=9*9:=Nat.mul_le_mul (by omega) (by omega);omega
      have hpm:pm.length=_:=Paired.length hM;have hpr:pr.length=_:=Paired.length hR;have e1:hit (i+1) ([c0],tl)=hstep (hit i ([c0],tl)):=rfl;rw [e1];generalize hit i ([c0],tl)=mr at*;obtain⟨met,rst⟩:=mr;show nY _ _ _ [some (.ref t),some (.ref lm),some (.ref lr),some x,o4] H';refine⟨_,rfl,lr,rfl,⟨_,SqL.of elr⟩,fun Z l hl'=> ?_⟩;refine iE (R:=fun H q c=>PlA H q c) (fun e h=>e.tup _ _ h) (rest:=[some (.ref lm)]) (fun p=>met.any fun o=>dI o p) fN (fun H' hs'=>SqL.of (hs' _ _ elr)) hR hl' (by omega) (fun b c H5 Q' hc hbc hs5 k=> ?_) fun σ H5 qm hs5 el5 hP5=> ?_
      · refine⟨_,rfl,lm,rfl,⟨_,SqL.of (hs5 _ _ elm)⟩,fun Z3 l3 hl3=> ?_⟩
        refine iE (R:=fun H q c=>PlA H q c) (fun e h=>e.tup _ _ h) (rest:=[some (.ref b)]) (fun o=>dI o c) fN (fun H' hs'=>SqL.of (hs' _ _ (hs5 _ _ elm))) (hM.same hs5) hl3 (by omega) (fun b2 c2 H6 Q2 hc2 hb2 hs6 k2=> ?_) fun σ H6 q6 hs6 el6 hP6=> ?_
        · exact⟨_,rfl,_,rfl,b2,b,c2,c,rfl,hb2,hs6.ext.tup _ _ hbc,_,rfl,k2 _ (Same.refl _)⟩
        · refine⟨by show 0<=sizeLine;decide,fun l0 hl0=> ?_⟩
          have u6:=aQ (o:=.lst []) hl0;have hq6:q6.length=_:=Paired.length hP6;refine⟨l3,l0,_,[],rfl,rfl,u6 _ _ el6,aG,?_⟩;have kk:=k _ (hs6.trans u6);by_cases ze:met.filter (fun o=>dI o c)=[]
          · right
            rw [ze]at hq6;have:q6=[]:=eq_nil_of_length_eq_zero hq6;subst this;have ea:(met.any fun o=>dI o c)=false:=by
              rw [any_eq_false];intro o ho z;have:o∈met.filter (fun o=>dI o c):=mem_filter.mpr ⟨ho,z⟩;rw [ze]at this;cases this
            rw [ea]at kk;exact⟨[],trivial,_,rfl,kk⟩
          · left
            have ea:(met.any fun o=>dI o c)=true:=by
              obtain⟨o,os,eo⟩:=exists_cons_of_ne_nil ze;have:o∈met.filter (fun o=>dI o c):=by rw [eo];exact zjR
              exact any_eq_true.mpr ⟨o,(mem_filter.mp this).1,(mem_filter.mp this).2⟩
            rw [ea]at kk;refine⟨?_,_,rfl,kk⟩;rw [length_map,hq6];intro z0;exact ze (eq_nil_of_length_eq_zero z0)
      · have hq5:qm.length<=rst.length:=by have:qm.length=_:=Paired.length hP5;rw [this];exact length_filter_le _ _
        have hP5':PlAt H5 qm (dU met rst):=hP5;dsimp only at hl hm1 hpm hpr;refine⟨_,rfl,_,rfl,lm,l,_,_,rfl,rfl,hs5 _ _ elm,el5,?_,fun la hla=> ?_⟩
        · rw [length_map,length_map,sizeLine_eq];omega
        have u7:=aQ (o:=.lst (pm.map V.ref++qm.map V.ref)) hla;have ela:(upd H5 la (.lst (pm.map V.ref++qm.map V.ref))) la=some (.lst ((pm++qm).map V.ref)):=by rw [aG,map_append]
        generalize upd H5 la (.lst (pm.map V.ref++qm.map V.ref))=H7 at u7 ela⊢;have s57:=hs5.trans u7;refine⟨_,rfl,lr,rfl,⟨_,SqL.of (s57 _ _ elr)⟩,fun Z2 l2 hl2=> ?_⟩;refine iE (R:=fun H q c=>PlA H q c) (fun e h=>e.tup _ _ h) (rest:=[some (.ref l)]) (fun p=> !decide (p∈dU met rst)) fN (fun H' hs'=>SqL.of (hs' _ _ (s57 _ _ elr))) (hR.same s57) hl2 (by omega) (fun b2 c2 H8 Q2 hc2 hb2 hs8 k2=> ?_) fun σ H8 q8 hs8 el8 hP8=> ?_
        · refine⟨_,rfl,_,rfl,l,_,_,rfl,.inr (hs8 _ _ (u7 _ _ el5)),jP hb2 ((hP5'.same u7).same hs8),_,rfl,?_⟩
          rw [rS];exact k2 _ (Same.refl _)
        · refine⟨by show 2<=sizeLine;decide,fun tt htt=> ?_⟩
          have u9:=aQ (o:=.tup [V.ref la,V.ref l2]) htt;refine⟨tt,_,rfl,SqT.of aG,rfl,_,_,rfl,_,_,rfl,rfl,?_⟩;generalize upd H8 tt (.tup [V.ref la,V.ref l2])=H9 at u9⊢;have s79:=hs8.trans u9;refine⟨((hs.trans s57).trans s79),la,l2,_,_,pm++qm,q8,rfl,s79 _ _ ela,?_,u9 _ _ el8,?_⟩
          · exact iM ((hM.same s57).same s79) ((hP5'.same u7).same s79)
          · exact PlAt.same hP8 u9
    · rintro σ H' ⟨hs,lm,lr,o3,o4,pm,pr,rfl,elm,hM,elr,hR⟩
      rw [length_map,length_cons,hptl]at hR hM;have hpr:pr.length=_:=Paired.length hR;refine⟨_,rfl,by show 0<=sizeLine;decide,fun l0 hl0=> ?_⟩;have u6:=aQ (o:=.lst []) hl0;have qq:=q _ ((s04.trans hs).trans u6);refine⟨lr,l0,_,[],rfl,rfl,u6 _ _ elr,aG,?_⟩;have el:lhangs (c0::tl)=decide ((hit (tl.length+1) ([c0],tl)).2=[]):=rfl;by_cases ze:(hit (tl.length+1) ([c0],tl)).2=[]
      · right
        rw [el,zjV ze]at qq;rw [ze]at hpr;have:pr=[]:=eq_nil_of_length_eq_zero hpr;subst this;exact⟨[],trivial,qq⟩
      · left
        rw [el,zjU ze]at qq;refine⟨?_,qq⟩;rw [length_map,hpr];intro z0;exact ze (eq_nil_of_length_eq_zero z0)
end
def oB:Sp:=fun vs H Q _=> ∃a t g ps cs,vs=[.ref a,.ref t]/\GridAt H a g/\(H t=some (.tup ((ps:List Addr).map V.ref))\/H t=some (.lst (ps.map V.ref)))/\PlAt H ps cs/\(∀c∈cs,c∈bB pos g)/\Q (.int (cG g cs)) H
section
variable {P:Program}{w:World}{K:W.Frag}{mg:Str->Option Value}{base:Heap}
abbrev nLW:List Str:=["_law_mead_here","_law_land","_law_total_here","_law_place"]
theorem A5b (F:D1 K mg "_law_worth" uE ["_law_mead_here","_law_land"]):A1 P w K mg base 1 "_law_worth" oB:=by
 refine F.k nLW ?_;ac_nf
 ·obtain⟨a,t,g,ps,cs,rfl,hA,ht,hP,hin,q⟩:=h;refine⟨_,aU (bQ (i:=2) nd rfl (Or.inl rfl) aO)<|
   aU (eF PassesOwn.never rfl (PI.or (cY (pv 1)) (dN (pv 1))) (nm1 3 nd)
    (aM (bQ (i:=2) nd rfl (Or.inl rfl) (bD eJ (pv 2) (bK cA (bK cA (pv 0) (bK cA (pv 3) aO (fun _ _=>rfl)) (fun _ _=>rfl)) (bK cA (pv 3) aO (fun _ _=>rfl)) (fun _ _=>rfl))))))<|
   aM (bA (pv 2)),?_⟩
  have hpl:ps.length=cs.length:=Paired.length hP;have W:∀{J:It}{S:Hp->Prop}(_:Wk J (ps.map V.ref) S)(_:S H),cP J (cJ 3) (iP (tOp (rI0 fun i j=>V.int (i+j)) (cS 2) (tOp (hJ K) (tOp (hJ K) (cS 0) (tOp (hJ K) (cS 3) (tC (.int 0)))) (tOp (hJ K) (cS 3) (tC (.int 1))))) (cJ 2)) {nx:=lF (cS 2) {nx:=fun _ H'=>Q .non H',rt:=Q},rt:=Q} [some (.ref a),some (.ref t),some (.int 0),none] H:=by
   intro J S Wk0 hS;refine Wk0 (fun i σ H'=>H'=H/\∃o,σ=[some (.ref a),some (.ref t),some (.int (cG g (cs.take i))),o]) ⟨rfl,_,rfl⟩ (fun i σ H' _ h=>by rw [h.1];exact hS) ?_ ?_
   ·rintro i x σ H' hx ⟨rfl,o,rfl⟩;obtain⟨p,hpi,rfl⟩:=gA hx;obtain⟨cc,hci,hpc⟩:=hP.at hpi;obtain⟨i',j',xs,n,rfl,hg,hxx,hf⟩:=mem_gridF.mp (hin _ (mem_of_getElem? hci));obtain⟨bs,b,h1,h2,h3,h4⟩:=hA.ix hg hxx;show iP _ _ _ [some (.ref a),some (.ref t),some (.int (cG g (cs.take i))),some (.ref p)] H';refine⟨_,rfl,_,rfl,_,rfl,p,_,0,_,rfl,rfl,SqT.of hpc,cC (j:=0) rfl,a,_,_,_,rfl,rfl,SqT.of h1,h2,_,rfl,p,_,1,_,rfl,rfl,SqT.of hpc,cC (j:=1) rfl,b,_,_,_,rfl,rfl,SqT.of h3,h4,_,_,rfl,rfl,rfl,some (.ref p),?_⟩;have e:cG g (cs.take (i+1))=cG g (cs.take i)+n:=by
     unfold cG;rw [take_succ,hci,map_append,sum_append];show _+([atG g ((i':Int),(j':Int))]).sum=_;rw [jJ hg hxx];simp
    rw [e];rfl
   ·rintro σ H' ⟨rfl,o,rfl⟩;rw [length_map,hpl,take_of_length_le (zjQ _)];exact⟨_,rfl,q⟩
  rcases ht with ht|ht
  ·exact .inl ⟨_,rfl,t,rfl,⟨_,SqT.of ht⟩,W iR (SqT.of ht)⟩
  ·exact .inr ⟨_,rfl,t,rfl,⟨_,SqL.of ht⟩,W fN (SqL.of ht)⟩
end
section
variable {P:Program}{w:World}{K:W.Frag}{mg:Str->Option Value}{base:Heap}
abbrev nLC:List Str:=["_law_mead_here","_law_places","_law_row"]
theorem A4g:(["_law_column","_law_mead_here","_law_row"]:List Str).Nodup:=by decide +kernel
theorem A6i (F:D1 K mg "_law_cells" pC ["_law_mead_here"])(T:Txt mg)(T2:dY mg):A1 P w K mg base 1 "_law_cells" (eE pos):=by
 refine F.k nLC ?_;ac_nf
 ·obtain⟨a,g,w',rfl,hA,G,q⟩:=h;refine⟨_,aU (bQ (i:=1) nd rfl (Or.inl rfl) (dS aA))<|
   aU (eF PassesOwn.never rfl (gK rfl T2.range (bY (bH eU rfl T.len PySem.boot_len (aB (pv 0) aA)) aA)) (aJ (i:=2) nd rfl (Or.inr rfl))
    (aM (dE (kU PySem.F.plainAttrs_list PySem.F.slot_list_extend PySem.F.type_list_extend yF (pv 1) (cM (bN (bE pC).names nLC ["_law_column"] [("_law_mead_here",0),("_law_row",2)] rfl (gK rfl T2.range (bY (bH eU rfl T.len PySem.boot_len (fF (bK cA (pv 0) aO (fun _ _=>rfl)) aA)) aA)) rfl rfl rfl (by decide +kernel)
      (fun Z=>nm1 0 A4g) (fun Z=>eT (cI lD (bK cA (bK cA (pv 1) (pv 2) (fun _ _=>rfl)) (pv 0) (fun _ _=>rfl)) aO (nomark _))) (fun Z=>cF (aB (pv 2) (aB (pv 0) aA)))) aA)))))<|
   aM (bA (pv 1)),?_⟩
  obtain⟨bs,ha,hB⟩:=hA;have hbl:bs.length=g.length:=Paired.length hB;refine⟨by show 0<=sizeLine;decide,fun l hl=> ?_⟩;have u0:=aQ (o:=.lst []) hl;refine⟨_,rfl,a,_,rfl,.inr (SqT.of (u0 _ _ ha)),?_⟩;have hA0:GridAt H a g:=⟨bs,ha,hB⟩;have h14:g.length<=4:=G.h4;have h11:1<=g.length:=G.h1;obtain⟨xs0,hx0⟩:∃xs0,g[0]?=some xs0:=⟨g[0],getElem?_eq_getElem (by omega)⟩;have hxl0:xs0.length=w':=G.len xs0 (mem_of_getElem? hx0);have hw5:=G.w5;have hw1:=G.w1;obtain⟨b0,hb0,eb0⟩:=hB.get hx0;refine⟨((bs.map V.ref).length:Int),rfl,by omega,by rw [length_map];omega,?_⟩;refine gM (lo:=0) (n:=((bs.map V.ref).length:Int).toNat) (fun i σ H'=>(∃o,σ=[some (.ref a),some (.ref l),o])/\Same H H'/\∃ps:List Addr,H' l=some (.lst (ps.map V.ref))/\PlAt H' ps (bB pos (g.take i))/\ps.length<=6*i) ⟨⟨_,rfl⟩,u0,[],by rw [aG];rfl,.nil,zjQ _⟩ ?_ ?_
  ·rintro i σ H' hi ⟨⟨o,rfl⟩,hs,ps,el,hP,hpi⟩;rw [Int.toNat_natCast,length_map,hbl]at hi;rw [Int.zero_add];obtain⟨xs,hx⟩:∃xs,g[i]?=some xs:=⟨g[i],getElem?_eq_getElem hi⟩;have hxl:xs.length=w':=G.len xs (mem_of_getElem? hx);show wB _ _ [some (.ref a),some (.ref l),some (.int i)] H';refine⟨_,rfl,.inl ⟨rfl,_,SqL.of el⟩,?_⟩;refine⟨_,rfl,a,_,0,.ref b0,rfl,rfl,SqT.of (hs _ _ ha),cC (j:=0) (by rw [getElem?_map,hb0];rfl),b0,_,rfl,.inr (SqT.of (hs _ _ eb0)),((xs0.map V.int).length:Int),rfl,by omega,by rw [length_map];omega,fun Z l2 hl2=> ?_⟩;refine gM (lo:=0) (n:=((xs0.map V.int).length:Int).toNat) (fun j σ H5=>(∃o,σ=[o,some (.ref a),some (.int i)])/\Same H' H5/\∃ns:List Addr,H5 l2=some (.lst (ns.map V.ref))/\PlAt H5 ns (dG pos i (xs.take j))) ⟨⟨_,rfl⟩,aQ hl2,[],by rw [aG];rfl,.nil⟩ ?_ ?_
   ·rintro j σ H5 hj ⟨⟨o',rfl⟩,hs5,ns,el2,hN⟩;rw [Int.toNat_natCast,length_map,hxl0]at hj;rw [Int.zero_add];obtain⟨n,hn⟩:∃n,xs[j]?=some n:=⟨xs[j],getElem?_eq_getElem (by omega)⟩;obtain⟨bs',b,h1,h2,h3,h4⟩:=((hA0.same hs).same hs5).ix hx hn;have et:=rowF_succ pos (i:Int) xs j n hn;have hnl:ns.length<=6:=by
     have e1:ns.length=_:=Paired.length hN;have e2:(dG pos (i:Int) (xs.take j)).length<=(xs.take j).zipIdx.length:=List.length_filterMap_le _ _;rw [List.length_zipIdx,length_take]at e2;omega
    show cK _ _ _ [some (.int j),some (.ref a),some (.int i)] H5;refine⟨_,rfl,_,rfl,a,_,_,_,rfl,rfl,SqT.of h1,h2,_,rfl,b,_,_,_,rfl,rfl,SqT.of h3,h4,_,_,rfl,rfl,_,rfl,?_⟩;have ep:decide ((0:Int)<=n)=pos n:=rfl;refine dC (fun z=> ?_) fun z=> ?_
    ·refine⟨_,rfl,_,rfl,by show 2<=sizeLine;decide,fun t ht=> ?_⟩;have u5:=aQ (o:=.tup [.int (i:Int),.int (j:Int)]) ht;refine⟨_,u5 _ _ el2,cH (by rw [length_map];omega),⟨_,rfl⟩,fun b' u e'=> ?_,ns++[t],?_,?_⟩
     ·rw [aY (bL e' hl2)];exact u5 _ _ (hs5 _ _ e')
     ·rw [aG,map_append];rfl
     ·rw [et,if_pos (by rw [←ep];exact z)];exact PlAt.snoc (Paired.mapP (hN.same u5) fun _ _ z=>PlA.put (u5 _ _ el2) z) (PlA.put (u5 _ _ el2) aG)
    ·rw [et,if_neg (by rw [←ep,z];decide),append_nil];exact⟨⟨_,rfl⟩,hs5,ns,el2,hN⟩
   ·rintro σ H5 ⟨_,hs5,ns,el2,hN⟩;rw [Int.toNat_natCast,length_map,hxl0,take_of_length_le (by omega)]at hN;have hnl:ns.length<=6:=by
     have e1:ns.length=_:=Paired.length hN;have e2:(dG pos (i:Int) xs).length<=xs.zipIdx.length:=List.length_filterMap_le _ _;rw [List.length_zipIdx]at e2;omega
    have el5:=hs5 _ _ el;refine⟨l,l2,_,_,rfl,rfl,el5,el2,by rw [length_map,length_map,sizeLine_eq];omega,⟨_,rfl⟩,fun b u e=> ?_,ps++ns,?_,?_,by rw [length_append];omega⟩
    ·rw [aY (bL e hl)];exact hs5 _ _ (hs _ _ e)
    ·rw [aG,map_append]
    ·rw [gridF_succ pos g i xs hx];exact iM (Paired.mapP (hP.same hs5) fun _ _ z=>PlA.put el5 z) (Paired.mapP hN fun _ _ z=>PlA.put el5 z)
  ·rintro σ H' ⟨⟨o,rfl⟩,hs,ps,el,hP,hpi⟩;rw [Int.toNat_natCast,length_map,hbl,take_of_length_le (zjQ _)]at hP;exact⟨_,rfl,q H' l ps hl hs el hP⟩
end
def llS {α:Type}(acc:List (List α))(x:α):List (List α):=acc++acc.map (· ++[x])
def llG {α:Type}(xs:List α):List (List α):=xs.foldl llS [[]]
theorem pQ (xs:List α)(x:α):llG (xs++[x])=llG xs++(llG xs).map (· ++[x]):=by unfold llG;rw [List.foldl_append];rfl
theorem qM (xs:List α):(llG xs).length=2^xs.length:=by
 have:∀(xs:List α)(acc:List (List α)),(xs.foldl llS acc).length=acc.length*2^xs.length:=by
  intro xs
  induction xs with
  |nil=>intro acc;simp
  |cons x xs ih=>
   intro acc;rw [foldl_cons,ih,llS,length_append,length_map,length_cons,Nat.pow_succ,Nat.mul_comm (2^xs.length) 2,←Nat.mul_assoc]
   congr 1
   omega
 have h:=this xs [[]];rw [length_singleton,Nat.one_mul]at h;exact h
theorem A3o:∀{ys:List α},ys∈llG xs->ys.length<=xs.length:=by
 have:∀(xs:List α)(acc:List (List α))(n:Nat),(∀ys∈acc,ys.length<=n)->∀ys∈xs.foldl llS acc,ys.length<=n+xs.length:=by
  intro xs
  induction xs with
  |nil=>intro acc n h ys hy;exact h ys hy
  |cons x xs ih=>
   intro acc n h ys hy;have:=ih (llS acc x) (n+1) (fun zs hz=>by
    rcases mem_append.mp hz with z|z
    ·have:=h zs z;omega
    ·obtain⟨y,hy',rfl⟩:=mem_map.mp z;have:=h y hy';rw [length_append,length_singleton];omega) ys hy
   rw [length_cons];omega
 intro ys hy;have:=this xs [[]] 0 (fun ys h=>by rw [mem_singleton.mp h];exact zjQ _) ys hy;omega
theorem A6z (h:TusAt H qs (llG (ps.map V.ref)))(hP:PlAt H ps A):LansAt H qs (llG A):=by
 have em:∀(ps:List Addr)(acc:List (List Addr)),(ps.map V.ref).foldl llS (acc.map (List.map V.ref))=(ps.foldl llS acc).map (List.map V.ref):=by
  intro ps
  induction ps with
  |nil=>intro acc;rfl
  |cons p ps ih=>
   intro acc;rw [map_cons,foldl_cons,foldl_cons,←ih]
   congr 1
   unfold llS;rw [map_append,map_map,map_map]
   congr 1
   refine map_congr_left fun a _=> ?_;show _=List.map V.ref (a++[p]);rw [map_append];rfl
 have ep:∀{ps:List Addr}{A:List Pl},PlAt H ps A->∀{l:List (List Addr)}{m:List (List Pl)},Paired (fun p c=>PlAt H p c) l m->Paired (fun p c=>PlAt H p c) (ps.foldl llS l) (A.foldl llS m):=by
  intro ps A hP
  induction hP with
  |nil=>intro l m h;exact h
  |cons r t ih=>
   intro l m h;refine ih (iM h ?_);clear ih
   induction h with
   |nil=>exact .nil
   |cons r2 t2 ih2=>exact .cons (iM r2 (.cons r .nil)) ih2
 have e0:llG (ps.map V.ref)=(llG ps).map (List.map V.ref):=em ps [[]];rw [e0]at h;have key:∀{qs:List Addr}{l:List (List Addr)}{m:List (List Pl)},TusAt H qs (l.map (List.map V.ref))->Paired (fun p c=>PlAt H p c) l m->LansAt H qs m:=by
  intro qs l m h1 h2
  induction h2 generalizing qs with
  |nil=>cases h1;exact .nil
  |cons r t ih=>
   cases h1 with
   |cons r1 t1=>exact .cons ⟨_,r1,r⟩ (ih t1)
 exact key h (ep hP (.cons .nil .nil))
def xO:Sp:=fun vs H Q _=> ∃a g w,vs=[.ref a]/\GridAt H a g/\cR g w/\cO g<=7/\∀l qs H',H l=none->Same H H'->H' l=some (.lst ((qs:List Addr).map V.ref))->LansAt H' qs (llG (bB pos g))->Q (.ref l) H'
section
variable {P:Program}{w:World}{K:W.Frag}{mg:Str->Option Value}{base:Heap}
abbrev nLL:List Str:=["_law_mead_here","_law_every","_law_cell_here"]
theorem A23:(["_law_land","_law_cell_here"]:List Str).Nodup:=by decide +kernel
theorem A5o (F:D1 K mg "_law_lands" nP ["_law_mead_here"])(a1:A1 P w K mg base 1 "_law_cells" (eE pos)):A1 P w K mg base 2 "_law_lands" xO:=by
 refine F.k nLL ?_;ac_nf
 ·obtain⟨a,g,w',rfl,hA,G,c6,q⟩:=h;refine⟨_,aU (bQ (i:=1) nd rfl (Or.inl rfl) (dS (gW (cF aA) aA)))<|
   aU (eF PassesOwn.never rfl (dN (a1.c hr (aB (pv 0) aA))) (aJ (i:=2) nd rfl (Or.inr rfl))
    (aM (bQ (i:=1) nd rfl (Or.inl rfl) (bD iS (pv 1) (bN (bE nP).names nLL ["_law_land"] [("_law_cell_here",2)] rfl (dN (pv 1)) rfl rfl rfl (by decide +kernel)
     (fun Z=>nm1 0 A23) (fun Z=>cB) (fun Z=>bD mI (pv 0) (cF (aB (pv 1) aA))))))))<|
   aM (bA (pv 1)),?_⟩
  refine⟨by show 0<=sizeLine;decide,fun t0 ht0=> ⟨by show 1<=sizeLine;decide,fun l0 hl0=> ?_⟩⟩;have s0:=aQ (o:=.tup []) ht0;have s1:=aQ (o:=.lst [.ref t0]) hl0;have s01:=s0.trans s1;have el0:(upd (upd H t0 (.tup [])) l0 (.lst [.ref t0])) l0=some (.lst [.ref t0]):=aG;have et0:(upd (upd H t0 (.tup [])) l0 (.lst [.ref t0])) t0=some (.tup []):=s1 _ _ aG;have n0:H l0=none:=s0.free hl0;generalize upd (upd H t0 (.tup [])) l0 (.lst [.ref t0])=H1 at s01 el0 et0⊢;refine⟨_,rfl,a,g,w',rfl,hA.same s01,G,fun H2 lc pc hlc s2 elc hP=> ?_⟩;have hpl:pc.length=(bB pos g).length:=Paired.length hP;have h6:pc.length<=7:=by rw [hpl,fS];exact c6
  refine⟨lc,rfl,⟨_,SqL.of elc⟩,?_⟩;refine gU (K:=K) (a:=lc) (xs:=pc.map V.ref) (fun i σ H'=>Same H2 H'/\∃lt qs o,σ=[some (.ref a),some (.ref lt),o]/\H lt=none/\H' lt=some (.lst ((qs:List Addr).map V.ref))/\TusAt H' qs (llG ((pc.map V.ref).take i)))
   ⟨Same.refl _,l0,[t0],_,rfl,n0,s2 _ _ el0,.cons (s2 _ _ et0) .nil⟩ (fun i σ H' _ h=>SqL.of (h.1 _ _ elc)) ?_ ?_
  ·rintro i x σ H' hx ⟨hs,lt,qs,o,rfl,nlt,elt,hT⟩;have hi:i<pc.length:=by
    have:=(zjW.mp hx).1;rw [length_map]at this;exact this
   have et:(pc.map V.ref).take (i+1)=(pc.map V.ref).take i++[x]:=by rw [take_succ,hx];rfl
   have hql:qs.length=_:=Paired.length hT;have hq64:qs.length<=128:=by
    rw [hql,qM,length_take,length_map];exact le_trans (pow_le_pow_right (by decide) (show min i pc.length<=7 by omega)) (by decide)
   rw [et,pQ];show iP _ _ _ [some (.ref a),some (.ref lt),some x] H';refine⟨_,rfl,_,rfl,lt,rfl,⟨_,SqL.of elt⟩,fun Z l hl=> ?_⟩;refine yQ (rest:=[some x]) (fun ys=>ys++[x]) fN (fun H3 s3=>SqL.of (s3 _ _ elt)) hT hl (by omega) (fun qq ys H3 Q' hy hq s3 k=> ?_) fun σ3 H3 qs' s3 hc3 hT3=> ?_
   ·refine⟨_,rfl,_,rfl,by show 1<=sizeLine;decide,fun tx htx=> ?_⟩;have v1:=aQ (o:=.tup [x]) htx;refine⟨qq,tx,_,_,rfl,rfl,v1 _ _ hq,aG,?_,fun c H5 s5 e5=>k c H5 (v1.trans s5) e5⟩;have:=A3o hy;rw [length_take,length_map]at this;rw [sizeLine_eq];show _+1<=_;omega
   ·have hq3:qs'.length=_:=Paired.length hT3;rw [length_map]at hq3;refine⟨lt,l,_,_,rfl,rfl,s3 _ _ elt,hc3,?_,fun la hla=> ?_⟩
    ·rw [length_map,length_map,sizeLine_eq];omega
    have v1:=aQ (o:=.lst (qs.map V.ref++qs'.map V.ref)) hla;refine⟨(hs.trans s3).trans v1,la,qs++qs',_,rfl,?_,?_,?_⟩
    ·exact((s01.trans s2).trans (hs.trans s3)).free hla
    ·rw [aG,map_append]
    ·exact iM ((hT.same s3).same v1) (hT3.same v1)
  ·rintro σ H' ⟨hs,lt,qs,o,rfl,nlt,elt,hT⟩;rw [take_of_length_le (zjQ _)]at hT;exact⟨_,rfl,q lt qs H' nlt ((s01.trans s2).trans hs) elt (A6z hT (hP.same hs))⟩
end
def iC (cs:List Pl)(d:Pl):Bool:=cs.any fun c=>dI c d
def fX (g:bF)(cs:List Pl):Bool:=(bB road g).any (iC cs)
def vK:Sp:=fun vs H Q _=> ∃a t g w cs,vs=[.ref a,.ref t]/\GridAt H a g/\cR g w/\SqA H t cs/\cs.length<=10/\∀H',Same H H'->Q (.bl (fX g cs)) H'
section
variable {P:Program}{w:World}{K:W.Frag}{mg:Str->Option Value}{base:Heap}
abbrev nBR:List Str:=["_law_mead_here","_law_land","_law_row","_law_numbers","_law_column","_law_number","_law_near"]
theorem A7c:(["_law_one","_law_column","_law_row"]:List Str).Nodup:=by decide +kernel
theorem A3h (F:D1 K mg "_law_by_road" rW ["_law_mead_here","_law_land"])(T:Txt mg)(a1:A1 P w K mg base 1 "_law_next_to" oT):A1 P w K mg base 2 "_law_by_road" vK:=by
  refine F.k nBR ?_;ac_nf
  · obtain⟨a,t,g,w',cs,rfl,⟨bs,ha,hB⟩,G,⟨ps,ht,hP⟩,h10,q⟩:=h
    refine⟨_,aU (eF PassesOwn.never rfl (jF rfl rfl T.enumerate (aB (pv 0) aA)) (bV rfl (aX (aJ (i:=2) nd rfl (Or.inr rfl)) (aX (nm1 3 nd) bW)))
        (aM (eF PassesOwn.never rfl (jF rfl rfl T.enumerate (aB (pv 3) aA)) (bV rfl (aX (aJ (i:=4) nd rfl (Or.inr rfl)) (aX (nm1 5 nd) bW)))
          (aU (A40 (i:=6) (bE rW).names nBR ["_law_one"] [("_law_column",4),("_law_row",2)] rfl nd rfl rfl (cY (pv 1)) rfl rfl rfl (by decide +kernel)
            (fun Z=>nm1 0 A7c) (fun Z=>eT (bP (a1.c hr (aB (pv 0) (gW (cF (aB (pv 2) (aB (pv 1) aA))) aA))))) (fun Z=>pv 0))<|
           aM (bR (PW.pt (oW (cI eX (pv 5) (jI jN aO) (nomark _)) (rB (cI (wC 1 (fB hr)) (pv 6) (dS aA) (nomark _))))) (aM (bA dA)) bU)))))<|
      aM (bA dA),?_⟩
    have hbl:bs.length=g.length:=Paired.length hB;have hpl:ps.length=cs.length:=Paired.length hP;refine⟨_,rfl,a,_,rfl,SqT.of ha,?_⟩;refine mB (S:=fun H xs=>SqT K H a xs) (xs:=bs.map V.ref) (fun i σ H'=>Same H H'/\(∃o2 o3 o4 o5 o6,σ=[some (.ref a),some (.ref t),o2,o3,o4,o5,o6])/\(bB road (g.take i)).any (iC cs)=false)
      ⟨Same.refl _,⟨_,_,_,_,_,rfl⟩,rfl⟩ (fun i σ H' _ h=>SqT.of (h.1 _ _ ha)) ?_ ?_
    · rintro i x p σ H' hx ⟨hs,⟨o2,o3,o4,o5,o6,rfl⟩,hno⟩ hp
      obtain⟨b,hbi,rfl⟩:=gA hx;have hi:i<g.length:=by rw [←hbl];exact(zjW.mp hbi).1
      obtain⟨xs,hxs⟩:∃xs,g[i]?=some xs:=⟨g[i],getElem?_eq_getElem hi⟩;obtain⟨b',hb',eb⟩:=hB.get hxs;rw [hbi]at hb';cases hb';have u1:=aQ (o:=.tup [.int (i:Int),.ref b]) hp;refine⟨p,_,rfl,SqT.of aG,rfl,_,_,rfl,_,_,rfl,rfl,?_⟩;generalize upd H' p (.tup [.int (i:Int),.ref b])=H1 at u1⊢;have s1:=hs.trans u1;refine⟨_,rfl,b,_,rfl,SqT.of (s1 _ _ eb),?_⟩;refine mB (S:=fun H xs=>SqT K H b xs) (xs:=xs.map V.int) (fun j σ H2=>Same H1 H2/\(∃o4 o5 o6,σ=[some (.ref a),some (.ref t),some (.int (i:Int)),some (.ref b),o4,o5,o6])/\(dG road i (xs.take j)).any (iC cs)=false)
        ⟨Same.refl _,⟨_,_,_,rfl⟩,rfl⟩ (fun j σ H2 _ h=>SqT.of (h.1 _ _ (s1 _ _ eb))) ?_ ?_
      · rintro j y p2 σ H2 hy ⟨hs2,⟨o4,o5,o6,rfl⟩,hno2⟩ hp2
        rw [getElem?_map]at hy;cases hn:xs[j]? with
        |none=>rw [hn]at hy;cases hy
        |some n=>
          rw [hn]at hy;cases hy;have u2:=aQ (o:=.tup [.int (j:Int),.int n]) hp2;refine⟨p2,_,rfl,SqT.of aG,rfl,_,_,rfl,_,_,rfl,rfl,?_⟩;generalize upd H2 p2 (.tup [.int (j:Int),.int n])=H3 at u2⊢;have s3:=(s1.trans hs2).trans u2;refine⟨_,rfl,t,rfl,⟨_,SqT.of (s3 _ _ ht)⟩,fun Z l hl=> ?_⟩;refine iE (R:=fun H q c=>PlA H q c) (fun e h=>e.tup _ _ h) (rest:=[some (.int (j:Int)),some (.int (i:Int))]) (fun c=>dI c ((i:Int),(j:Int))) iR (fun H' hs'=>SqT.of (hs' _ _ (s3 _ _ ht))) (hP.same s3) hl (by omega) (fun b2 c2 H4 Q2 hc2 hb2 hs4 k2=> ?_) fun σ H4 q4 hs4 el4 hP4=> ?_
          · refine⟨_,rfl,_,rfl,_,rfl,by show 2<=sizeLine;decide,fun tp htp=> ?_⟩
            have u4:=aQ (o:=.tup [.int (i:Int),.int (j:Int)]) htp;exact⟨b2,tp,c2,((i:Int),(j:Int)),rfl,u4 _ _ hb2,aG,_,rfl,k2 _ u4⟩
          · have et:=rowF_succ road (i:Int) xs j n hn
            have hq4:q4.length=_:=Paired.length hP4;have s4:=hs2.trans (u2.trans hs4);have ed:decide (V.int n=V.int (-1))=road n:=decide_eq_decide.mpr ⟨fun z=>V.int.inj z,fun z=>by rw [z]⟩;refine⟨_,rfl,1,rfl,rfl,_,rfl,?_⟩;rw [ed];refine dC (fun z=> ?_) fun z=> ?_
            · rw [if_pos z]at et
              refine⟨_,rfl,by show 0<=sizeLine;decide,fun l0 hl0=> ?_⟩;have u6:=aQ (o:=.lst []) hl0;refine⟨l,l0,_,[],rfl,rfl,u6 _ _ el4,aG,?_⟩;by_cases ze:cs.filter (fun c=>dI c ((i:Int),(j:Int)))=[]
              · right
                rw [ze]at hq4;have:q4=[]:=eq_nil_of_length_eq_zero hq4;subst this;have ea:iC cs ((i:Int),(j:Int))=false:=by
                  unfold iC;rw [any_eq_false];intro o ho z;have:o∈cs.filter (fun c=>dI c ((i:Int),(j:Int))):=mem_filter.mpr ⟨ho,z⟩;rw [ze]at this;cases this
                refine⟨[],trivial,_,rfl,bT ⟨s4.trans u6,⟨_,_,_,rfl⟩,?_⟩⟩;rw [et,List.any_append,hno2,any_cons,ea];rfl
              · left
                have ea:iC cs ((i:Int),(j:Int))=true:=by
                  obtain⟨o,os,eo⟩:=exists_cons_of_ne_nil ze;have:o∈cs.filter (fun c=>dI c ((i:Int),(j:Int))):=by rw [eo];exact zjR
                  exact any_eq_true.mpr ⟨o,(mem_filter.mp this).1,(mem_filter.mp this).2⟩
                refine⟨?_,_,rfl,gB ?_⟩
                · rw [length_map,hq4]
                  intro z0;exact ze (eq_nil_of_length_eq_zero z0)
                · have hby:fX g cs=true:=by
                    unfold fX;refine any_eq_true.mpr ⟨((i:Int),(j:Int)),mem_gridF.mpr ⟨i,j,xs,n,rfl,hxs,hn,z⟩,ea⟩
                  have:=q _ (((s1.trans s4)).trans u6);rw [hby]at this;exact this
            · rw [if_neg (by rw [z];decide),append_nil]at et
              exact⟨s4,⟨_,_,_,rfl⟩,by rw [et];exact hno2⟩
      · rintro σ H2 ⟨hs2,⟨o4,o5,o6,rfl⟩,hno2⟩
        rw [length_map,take_of_length_le (zjQ _)]at hno2;refine⟨s1.trans hs2,⟨_,_,_,_,_,rfl⟩,?_⟩;rw [gridF_succ road g i xs hxs,List.any_append,hno,hno2];rfl
    · rintro σ H' ⟨hs,_,hno⟩
      rw [length_map,hbl,take_of_length_le (zjQ _)]at hno;have:=q H' hs;unfold fX at this;rw [hno]at this;exact this
end
def lfit (g:bF)(cs:List Int)(cl:List C3)(od i:Int)(L:List Pl):Bool:=!decide (od*bG cs cl<ab (cG g L*bG cs cl - cG g (bB pos g)*bI cs cl i))&&(lhangs L&&fX g L)
def xF:Sp:=fun vs H Q _=> ∃p t g w cs cl od i L,vs=[.ref p,.int i,.ref t]/\PleA H p g w cs cl od/\SqA H t L/\(∀c∈L,c∈bB pos g)/\L.length<=10/\∀H',Same H H'->Q (.bl (lfit g cs cl od i L)) H'
section
variable {P:Program}{w:World}{K:W.Frag}{mg:Str->Option Value}{base:Heap}
abbrev nFi:List Str:=["_law_plea_here","_law_holder","_law_land","_law_mead_here","_law_custom_here","_law_claims_here","_law_odd","_law_total_here","_law_due"]
theorem A6s (F:D1 K mg "_law_fits" sQ ["_law_plea_here","_law_holder","_law_land"])(T2:dY mg)(a1:A1 P w K mg base 1 "_law_total" oZ)(a2:A1 P w K mg base 1 "_law_worth" oB)(a3:A1 P w K mg base 1 "_law_cells" (eE pos))(a4:A1 P w K mg base 1 "_law_count" pZ)(a5:A1 P w K mg base 2 "_law_hangs" wH)(a6:A1 P w K mg base 2 "_law_by_road" vK):A1 P w K mg base 3 "_law_fits" xF:=by
 refine F.k nFi ?_;ac_nf
 ·obtain⟨p,t,g,w',cs,cl,od,i,L,rfl,D,⟨pt,ht,hpt⟩,hin,h10,q⟩:=h;obtain⟨m,c,a,hp,hm,hc,ha⟩:=D.ex;refine⟨_,aU (dQ (pv 0) (bV rfl (aX (nm1 3 nd) (aX (nm1 4 nd) (aX (nm1 5 nd) (aX (nm1 6 nd) bW))))))<|
   aU (bQ (i:=7) nd rfl (Or.inl rfl) (a1.c hr (aB (pv 4) (aB (pv 5) aA))))<|
   aU (bQ (i:=8) nd rfl (Or.inl rfl) (bD eG (a2.c hr (aB (pv 3) (bY (a3.c hr (aB (pv 3) aA)) aA))) (a4.c hr (aB (pv 4) (aB (pv 5) (aB (pv 1) aA))))))<|
   aU (bR (cI nL (bH lN rfl T2.abs mT (dM (bD gZ (bD eG (a2.c hr (aB (pv 3) (aB (pv 2) aA))) (pv 7)) (pv 8)) aA)) (bD eG (pv 6) (pv 7)) (nomark _)) (aM (bA dA)) bU)<|
   aM (bA (fC (a5.c hr (aB (pv 2) aA)) (eZ (a6.c hr (aB (pv 3) (aB (pv 2) aA)))))),?_⟩
  refine⟨_,rfl,p,_,rfl,SqT.of hp,rfl,_,_,rfl,_,_,rfl,_,_,rfl,_,_,rfl,rfl,?_⟩;refine⟨_,rfl,_,rfl,c,a,cs,cl,rfl,hc,D.cu,ha,iJ D.ck D.un,fun H1 s1=> ?_⟩;refine⟨_,rfl,_,rfl,m,g,w',rfl,hm.same s1,D.G,fun H2 lc pc hlc s2 elc hP=> ?_⟩;have s12:=s1.trans s2;have wb0:=rM D.G (L:=bB pos g) (fun c hc=>hc) (by rw [fS];exact D.G.c10);have wb:=rM D.G hin h10;refine⟨m,lc,g,pc,bB pos g,rfl,hm.same s12,.inr elc,hP,fun c hc=>hc,?_⟩;refine⟨_,rfl,_,rfl,_,rfl,c,a,cs,cl,i,rfl,s12 _ _ hc,D.cu,ha.ext s12.ext,iJ D.ck D.un,?_⟩;refine⟨_,_,rfl,rfl,.inl ⟨by omega,by omega⟩,?_⟩;refine⟨_,rfl,_,rfl,m,t,g,pt,L,rfl,hm.same s12,.inl (s12 _ _ ht),hpt.same s12,hin,?_⟩;refine⟨_,rfl,_,_,rfl,rfl,.inl ⟨by omega,by omega⟩,_,rfl,_,_,rfl,rfl,_,rfl,_,rfl,_,rfl,_,_,rfl,rfl,.inl ⟨by have:=D.o9;omega,by have:=D.o9;omega⟩,_,_,rfl,rfl,_,rfl,?_⟩;have el:lfit g cs cl od i L=(!decide (od*bG cs cl<ab (cG g L*bG cs cl - cG g (bB pos g)*bI cs cl i))&&(lhangs L&&fX g L)):=rfl;refine eW (fun z=> ?_) fun z=> ?_
  ·rw [zjV (show od*bG cs cl<ab (cG g L*bG cs cl - cG g (bB pos g)*bI cs cl i)from z)]at el;have:=q H2 s12;rw [el]at this;exact this
  ·rw [zjU (show¬od*bG cs cl<ab (cG g L*bG cs cl - cG g (bB pos g)*bI cs cl i)from z)]at el;refine⟨_,rfl,t,L,rfl,⟨pt,s12 _ _ ht,hpt.same s12⟩,h10,fun H3 s3=> ⟨_,rfl,dC (fun e=> ?_) fun e=> ?_⟩⟩
   ·have s13:=s12.trans s3;refine⟨_,rfl,_,rfl,m,t,g,w',L,rfl,hm.same s13,D.G,⟨pt,s13 _ _ ht,hpt.same s13⟩,h10,fun H4 s4=> ?_⟩;have:=q H4 (s13.trans s4);rw [el,e]at this;exact this
   ·have:=q H3 (s12.trans s3);rw [el,e]at this;exact this
end
open Classical in
theorem A0n {L:List Pl}(nd:L.Nodup):lhangs L=kB L:=by
 unfold kB;cases L with
 |nil=>exact(zjU fun z=>z.1 rfl).symm
 |cons c0 tl=>
  have h:=A7m nd;rw [Bool.eq_iff_iff,decide_eq_true_eq];show decide ((hit (tl.length+1) ([c0],tl)).2=[])=true↔_;rw [decide_eq_true_eq];exact h
theorem A15 {g:bF}{L:List Pl}(hin:∀c∈L,c∈bB pos g):fX g L=L.any fun c=>decide (c∈(bB pos g).filter (eQ g)):=by
 unfold fX iC eQ;rw [Bool.eq_iff_iff,any_eq_true,any_eq_true];constructor
 ·rintro⟨d,hd,h⟩;obtain⟨c,hc,hn⟩:=any_eq_true.mp h;refine⟨c,hc,zjV (mem_filter.mpr ⟨hin c hc,any_eq_true.mpr ⟨d,jZ (next_iff.mp hn),zjV hd⟩⟩)⟩
 ·rintro⟨c,hc,h⟩;have h1:=(mem_filter.mp (of_decide_eq_true h)).2;obtain⟨d,hd,he⟩:=any_eq_true.mp h1;exact⟨d,of_decide_eq_true he,any_eq_true.mpr ⟨c,hc,next_iff.mpr (jZ hd)⟩⟩
theorem A1o {g:bF}{L:List Pl}(nd:L.Nodup)(hin:∀c∈L,c∈bB pos g):(lhangs L&&fX g L)=fW g L:=by unfold fW;rw [A0n nd,A15 hin,Bool.and_comm]
theorem vI:ab x<=k↔ -k<=x/\x<=k:=by
 unfold ab
 split<;>constructor<;>intro h<;>(try constructor)<;>omega
theorem gY {b x y:Int}(hb:1<=b):b*x<=b*y↔x<=y:=
 ⟨fun h=>Int.le_of_mul_le_mul_left h (by omega),fun h=>Int.mul_le_mul_of_nonneg_left h (by omega)⟩
theorem A4b {W b t N D od:Int}(hb:1<=b)(hN:1<=N)(e:t*N=D*b):ab (W*b - t)<=od*b↔ab (W*N - D)<=od*N:=by
 rw [vI,vI];have k1:N*(W*b - t)=b*(W*N - D):=by
  rw [Int.mul_sub,Int.mul_sub,Int.mul_comm N t,e,Int.mul_comm D b]
  congr 1
  rw [←Int.mul_assoc,Int.mul_comm N W,Int.mul_comm (W*N) b]
 have k2:N*(od*b)=b*(od*N):=by rw [←Int.mul_assoc,Int.mul_comm N od,Int.mul_comm (od*N) b]
 have k3:N* -(od*b)=b* -(od*N):=by rw [Int.mul_neg,Int.mul_neg,k2]
 constructor
 ·rintro⟨h1,h2⟩;have h1':=(gY hN).mpr h1;have h2':=(gY hN).mpr h2;rw [k3,k1]at h1';rw [k1,k2]at h2';exact⟨(gY hb).mp h1',(gY hb).mp h2'⟩
 ·rintro⟨h1,h2⟩;have h1':=(gY hb).mpr h1;have h2':=(gY hb).mpr h2;rw [←k3,←k1]at h1';rw [←k1,←k2]at h2';exact⟨(gY hN).mp h1',(gY hN).mp h2'⟩
theorem A5e (hT:0<=bJ g)(hC:0<=bI cs cl i)(hN:1<=bG cs cl):1<=iW g cs cl i/\kR g cs cl i*bG cs cl=(bJ g*bI cs cl i)*iW g cs cl i:=by
 obtain⟨s0,s1,_,_,s4⟩:=oS hC hN;have hs0:0<=bJ g*frTop (bI cs cl i) (bG cs cl):=Int.mul_nonneg hT s0;obtain⟨d0,d1,_,_,d4⟩:=oS hs0 s1;refine⟨d1,?_⟩;show frTop (bJ g*frTop (bI cs cl i) (bG cs cl)) (frBot (bI cs cl i) (bG cs cl))*bG cs cl=bJ g*bI cs cl i*frBot (bJ g*frTop (bI cs cl i) (bG cs cl)) (frBot (bI cs cl i) (bG cs cl));generalize frTop (bI cs cl i) (bG cs cl)=sT at*;generalize frBot (bI cs cl i) (bG cs cl)=sB at*;generalize frTop (bJ g*sT) sB=dT at*;generalize frBot (bJ g*sT) sB=dB at*;have hne:sB≠0:=by omega
 refine Int.eq_of_mul_eq_mul_left hne ?_
 calc sB*(dT*bG cs cl)=dT*sB*bG cs cl:=by rw [←Int.mul_assoc,Int.mul_comm sB dT]
  _=bJ g*sT*dB*bG cs cl:=by rw [d4]
  _=bJ g*(sT*bG cs cl)*dB:=by rw [Int.mul_assoc (bJ g*sT) dB,Int.mul_comm dB,←Int.mul_assoc,Int.mul_assoc (bJ g)]
  _=bJ g*(bI cs cl i*sB)*dB:=by rw [s4]
  _=sB*(bJ g*bI cs cl i*dB):=by rw [←Int.mul_assoc (bJ g),Int.mul_comm _ sB,Int.mul_assoc sB]
theorem A6h {g:bF}{cs:List Int}{cl:List C3}{od i:Int}{L:List Pl}(hT:0<=bJ g)(hC:0<=bI cs cl i)(hN:1<=bG cs cl):fT g cs cl od i L= !decide (od*bG cs cl<ab (cG g L*bG cs cl - bJ g*bI cs cl i)):=by obtain⟨h1,h2⟩:=A5e (g:=g) hT hC hN;have:=A4b (W:=cG g L) (od:=od) h1 hN h2;unfold fT;rw [Bool.eq_iff_iff,decide_eq_true_eq,this];simp
theorem yP (g:bF):cG g (bB pos g)=bJ g:=uX g
theorem A1t {g:bF}{cs:List Int}{cl:List C3}{od i:Int}{L:List Pl}(nd:L.Nodup)(hin:∀c∈L,c∈bB pos g)(hT:0<=bJ g)(hC:0<=bI cs cl i)(hN:1<=bG cs cl):lfit g cs cl od i L=(fT g cs cl od i L&&fW g L):=by unfold lfit;rw [A1o nd hin,yP,A6h hT hC hN]
theorem gI:∀(n:Nat){xs ys:List α},xs.length=n->(ys∈llG xs↔ys.Sublist xs)
 |0,xs,ys,h=>by
  have:xs=[]:=eq_nil_of_length_eq_zero h;subst this;rw [sublist_nil];exact mem_singleton
 |n+1,xs,ys,h=>by
  rcases List.eq_nil_or_concat xs with e| ⟨zs,x,e⟩
  ·rw [e]at h;cases h
  ·rw [List.concat_eq_append]at e;subst e;rw [length_append,length_singleton]at h;have ih:∀{ys:List α},ys∈llG zs↔ys.Sublist zs:=gI n (by omega);rw [pQ,mem_append];constructor
   ·rintro(hz|hz)
    ·exact(ih.mp hz).trans (List.sublist_append_left _ _)
    ·obtain⟨y,hy,rfl⟩:=mem_map.mp hz;exact(ih.mp hy).append (List.Sublist.refl _)
   ·intro hs;obtain⟨l1,l2,rfl,h1,h2⟩:=List.sublist_append_iff.mp hs;cases h2 with
    |cons _ h3=>
     rw [sublist_nil.mp h3,append_nil];exact .inl (ih.mpr h1)
    |cons_cons _ h3=>
     rw [sublist_nil.mp h3];exact .inr (mem_map.mpr ⟨l1,ih.mpr h1,rfl⟩)
theorem A1g:ys∈llG xs↔ys∈rtV xs:=(gI _ rfl).trans ⟨pR,iL⟩
theorem A7g {H:Hp}{g:bF}{t:Addr}{L:List Pl}(h:SqA H t L)(hl:LandOf g L):landV H g (.ref t)=true:=by
 obtain⟨ps,ht,hP⟩:=h;have key:∀{ps:List Addr}{L:List Pl},PlAt H ps L->(∀c∈L,c∈bB pos g)->(ps.map V.ref).all (isCell H g)=true/\eA H (ps.map V.ref)=L:=by
  intro ps L h
  induction h with
  |nil=>exact fun _=> ⟨rfl,rfl⟩
  |cons r t ih=>
   intro hc;obtain⟨i1,i2⟩:=ih fun c h=>hc c (zjS _ h);have e:=A9l r;refine⟨?_,?_⟩
   ·rw [map_cons,all_cons,i1,Bool.and_true];unfold isCell;rw [e];exact zjV (hc _ zjR)
   ·rw [map_cons];unfold eA at i2⊢;rw [filterMap_cons,e,i2]
 obtain⟨k1,k2⟩:=key hP fun c hc=>hl.subset hc;unfold landV;rw [iB ht];dsimp only
 rw [k1,k2,Bool.true_and];exact zjV (LandOf.up hl)
theorem A0y {H:Hp}{t:Addr}{L:List Pl}(h:SqA H t L)(hz:L.length<=1000):Kn H 3 (.ref t):=by obtain⟨ps,ht,hP⟩:=h;have hl:ps.length=L.length:=Paired.length hP;refine .inr (.inr ⟨_,ht,by rw [length_map];omega,fun x hx=> ?_⟩);obtain⟨p,hp,rfl⟩:=mem_map.mp hx;obtain⟨i,hi⟩:=mem_iff_getElem?.mp hp;obtain⟨c,_,e⟩:=hP.at hi;refine .inr (.inr ⟨_,e,by show 2<=1000;decide,fun x hx=> ?_⟩);simp only [mem_cons,not_mem_nil,or_false]at hx;rcases hx with rfl|rfl<;>trivial
noncomputable def fK (g:bF)(cs:List Int)(cl:List C3)(od i:Int):List (List Pl):=(pO g).filter (fT g cs cl od i)
noncomputable def hZ (g:bF)(cs:List Int)(cl:List C3)(od i:Int)(L:List Pl):Bool:=fW g L&&fT g cs cl od i L
def wN:Sp:=fun vs H Q _=> ∃a g w t L,vs=[.ref a,.ref t]/\GridAt H a g/\cR g w/\SqA H t L/\LandOf g L/\∀H',Same H H'->Q .non H'
def iZ:Sp:=fun vs H Q _=> ∃p g w cs cl od i t L,vs=[.ref p,.int i,.ref t]/\PleA H p g w cs cl od/\dL cl i=true/\SqA H t L/\LandOf g L/\∀H',Same H H'->Q (.bl (hZ g cs cl od i L)) H'
def qG:Sp:=fun vs H Q _=> ∃p g w cs cl od i,vs=[.ref p,.int i]/\PleA H p g w cs cl od/\dL cl i=true/\∀l qs H',H l=none->Same H H'->H' l=some (.lst ((qs:List Addr).map V.ref))->LansAt H' qs (fK g cs cl od i)->Q (.ref l) H'
section
variable {P:Program}{w:World}{K:W.Frag}{mg:Str->Option Value}{base:Heap}
theorem zS (hr:Room k A):A.units+3<cLine:=lt_of_le_of_lt (Nat.add_le_add_left (by decide:3<=64) _) hr.units
theorem A1a (F:D1 K mg "check_land" tP ["mead","land"])(a1:A1 P w K mg base 6 "is_land" vE):A1 P w K mg base 7 "check_land" wN:=by
 refine F.k ["mead","land"] ?_;ac_nf
 ·obtain⟨a,g,w',t,L,rfl,hA,G,ht,hL,q⟩:=h;refine⟨_,aM (bR (bZ (bP (a1.c hr (aB (pv 0) (aB (pv 1) aA))))) fJ bU),?_⟩;refine⟨_,rfl,_,rfl,a,g,w',_,rfl,hA,G,A0y ht (by have:=LandOf.len G hL;omega),fun H' hs=> ⟨_,rfl,?_⟩⟩;rw [A7g ht hL];exact bT (q H' hs)
theorem A3t (F:D1 K mg "is_fit" zY ["plea","holder","land"])(a1:A1 P w K mg base 4 "is_sound" oJ)(a2:A1 P w K mg base 7 "cells_at_road" rC)(a3:A1 P w K mg base 10 "worth_the_due" qO):A1 P w K mg base 11 "is_fit" iZ:=by
 refine F.k ["plea","holder","land"] ?_;ac_nf
 ·obtain⟨p,g,w',cs,cl,od,i,t,L,rfl,D,hh,ht,hL,q⟩:=h;obtain⟨m,c,a,hp,hm,hc,ha⟩:=D.ex;refine⟨_,aM (bA (fC (a1.c hr (aB (pv 2) (bY (a2.c hr (fF (bK cA (pv 0) aO (fun _ _=>rfl)) aA)) aA))) (eZ (dD (A4p (zS hr)) (a3.c hr (aB (pv 0) (aB (pv 1) (lR (dS (aB (pv 2) aA)) aA)))) (dS (aB (pv 2) aA)) (nomark _))))),?_⟩;refine⟨_,rfl,_,rfl,p,_,0,_,rfl,rfl,SqT.of hp,rfl,m,g,w',rfl,hm,D.G,fun H1 lr pr hlr s1 elr hR=> ?_⟩;refine⟨t,lr,g,w',L,pr,rfl,SqA.ext ht s1.ext,D.G,hL,elr,hR,fun H2 s2=> ⟨_,rfl,dC (fun e=> ?_) fun e=> ?_⟩⟩
  ·have s12:=s1.trans s2;refine⟨_,rfl,_,rfl,_,rfl,by show 1<=sizeLine;decide,fun l1 hl1=> ?_⟩;have u1:=aQ (o:=.lst [.ref t]) hl1;refine⟨p,g,w',cs,cl,od,i,l1,[t],[L],rfl,(D.same s12).same u1,hh,aG,.cons (SqA.ext (SqA.ext ht s12.ext) u1.ext) .nil,by show 1<=128;decide,fun M hM=>by rw [mem_singleton.mp hM];exact hL,fun l2 qs H3 hl2 s3 el2 hF=> ?_⟩;refine⟨_,rfl,by show 1<=sizeLine;decide,fun l4 hl4=> ?_⟩;have u4:=aQ (o:=.lst [.ref t]) hl4;have s14:=(s12.trans u1).trans (s3.trans u4);refine⟨l2,l4,qs,[t],_,[L],rfl,rfl,u4 _ _ el2,aG,hF.ext u4.ext,.cons (SqA.ext ht s14.ext) .nil,?_⟩;have q':=q _ s14;unfold hZ at q';rw [e,Bool.true_and]at q';have e2:decide ([L].filter (fT g cs cl od i)=[L])=fT g cs cl od i L:=by
    cases hd:fT g cs cl od i L with
    |true=>rw [filter_cons_of_pos hd];exact zjV rfl
    |false=>rw [filter_cons_of_neg (by rw [hd];decide)];exact zjU (by simp)
   rw [e2];exact q'
  ·have q':=q H2 (s1.trans s2);unfold hZ at q';rw [e,Bool.false_and]at q';exact q'
theorem A2s (F:D1 K mg "fits_holder" xS ["plea","holder","land"])(a1:A1 P w K mg base 7 "check_plea_and_holder" mD)(a2:A1 P w K mg base 7 "check_land" wN)(a3:A1 P w K mg base 11 "is_fit" iZ):A1 P w K mg base 12 "fits_holder" iZ:=by
 refine F.k ["plea","holder","land"] ?_;ac_nf
 ·obtain⟨p,g,w',cs,cl,od,i,t,L,rfl,D,hh,ht,hL,q⟩:=h;refine⟨_,aU (dE (a1.c hr (aB (pv 0) (aB (pv 1) aA))))<|
   aU (dE (a2.c hr (fF (bK cA (pv 0) aO (fun _ _=>rfl)) (aB (pv 2) aA))))<|
   aM (bA (a3.c hr (aB (pv 0) (aB (pv 1) (aB (pv 2) aA))))),?_⟩
  refine⟨_,rfl,_,rfl,p,g,w',cs,cl,od,i,rfl,D,hh,fun H1 s1=> ?_⟩;obtain⟨m,c,a,hp,hm,hc,ha⟩:=(D.same s1).ex;refine⟨_,rfl,p,_,0,_,rfl,rfl,SqT.of hp,rfl,_,rfl,m,g,w',t,L,rfl,hm,D.G,SqA.ext ht s1.ext,hL,fun H2 s2=> ?_⟩;have s12:=s1.trans s2;exact⟨_,rfl,_,rfl,_,rfl,p,g,w',cs,cl,od,i,t,L,rfl,D.same s12,hh,SqA.ext ht s12.ext,hL,fun H3 s3=>q H3 (s12.trans s3)⟩
theorem A0u (F:D1 K mg "fit_lands" tT ["plea","holder"])(a1:A1 P w K mg base 7 "check_plea_and_holder" mD)(a2:A1 P w K mg base 8 "sound_lands" tZ)(a3:A1 P w K mg base 10 "worth_the_due" qO):A1 P w K mg base 11 "fit_lands" qG:=by
 refine F.k ["plea","holder"] ?_;ac_nf
 ·obtain⟨p,g,w',cs,cl,od,i,rfl,D,hh,q⟩:=h;refine⟨_,aU (dE (a1.c hr (aB (pv 0) (aB (pv 1) aA))))<|
   aM (bA (a3.c hr (aB (pv 0) (aB (pv 1) (bY (a2.c hr (fF (bK cA (pv 0) aO (fun _ _=>rfl)) aA)) aA))))),?_⟩
  refine⟨_,rfl,_,rfl,p,g,w',cs,cl,od,i,rfl,D,hh,fun H1 s1=> ?_⟩;obtain⟨m,c,a,hp,hm,hc,ha⟩:=(D.same s1).ex;refine⟨_,rfl,_,rfl,_,rfl,p,_,0,_,rfl,rfl,SqT.of hp,rfl,m,g,w',rfl,hm,D.G,D.c6,fun ll qs H2 hll s2 ell hL=> ?_⟩;have s12:=s1.trans s2;refine⟨p,g,w',cs,cl,od,i,ll,qs,_,rfl,D.same s12,hh,ell,hL,le_trans (length_filter_le _ _) (lY D.c6),fun L hL=>iL (mem_filter.mp hL).1,fun l qs' H3 hl s3 el hF=> ?_⟩;exact q l qs' H3 (s12.free hl) (s12.trans s3) el hF
end
theorem A7d (hW:0<=W)(hc:0<=c)(hN:1<=N):frTop (W*frTop c N) (frBot c N)=frTop (W*c) N/\frBot (W*frTop c N) (frBot c N)=frBot (W*c) N:=by
 obtain⟨W,rfl⟩:=Int.eq_ofNat_of_zero_le hW;obtain⟨c,rfl⟩:=Int.eq_ofNat_of_zero_le hc;obtain⟨N,rfl⟩:=Int.eq_ofNat_of_zero_le (show 0<=N by omega);have hg:0<Nat.gcd c N:=Nat.gcd_pos_of_pos_right _ (by omega);obtain⟨c',ec⟩:=Nat.gcd_dvd_left c N;obtain⟨N',eN⟩:=Nat.gcd_dvd_right c N;have k1:frTop (c:Int) N=(c':Int):=by
  unfold frTop;rw [Int.toNat_natCast,Int.toNat_natCast,←Int.natCast_ediv]
  congr 1
  exact Nat.div_eq_of_eq_mul_right hg ec
 have k2:frBot (c:Int) N=(N':Int):=by
  unfold frBot;rw [Int.toNat_natCast,Int.toNat_natCast,←Int.natCast_ediv]
  congr 1
  exact Nat.div_eq_of_eq_mul_right hg eN
 rw [k1,k2];have ew:W*c=Nat.gcd c N*(W*c'):=by
  calc W*c=W*(Nat.gcd c N*c'):=by rw [←ec]
   _=_:=by rw [Nat.mul_left_comm]
 have e3:Nat.gcd (W*c) N=Nat.gcd c N*Nat.gcd (W*c') N':=by
  calc Nat.gcd (W*c) N=Nat.gcd (Nat.gcd c N*(W*c')) (Nat.gcd c N*N'):=by rw [←ew,←eN]
   _=_:=Nat.gcd_mul_left ..
 unfold frTop frBot;simp only [←Int.natCast_mul,Int.toNat_natCast,←Int.natCast_ediv];rw [e3];constructor
 ·congr 1
  rw [ew,Nat.mul_div_mul_left _ _ hg]
 ·congr 1
  calc N'/Nat.gcd (W*c') N'=Nat.gcd c N*N'/(Nat.gcd c N*Nat.gcd (W*c') N'):=(Nat.mul_div_mul_left _ _ hg).symm
   _=_:=by rw [←eN]
theorem A6e (hT:0<=bJ g)(hC:0<=bI cs cl i)(hN:1<=bG cs cl):kR g cs cl i=frTop (bJ g*bI cs cl i) (bG cs cl)/\iW g cs cl i=frBot (bJ g*bI cs cl i) (bG cs cl):=A7d hT hC hN
theorem vD:∀{xs:List Pl},xs.Pairwise ltP->(rtV xs).Pairwise fun a b=>HT.lexLt (fl a) (fl b)=true
 | [],_=>pairwise_singleton _ _
 |x::xs,h=>by
  rw [pairwise_cons]at h;have ih:=vD h.2;have ne:∀b∈(rtV xs).tail,b≠[]:=by
   obtain⟨t,e⟩:=mX xs;rw [e,pairwise_cons]at ih;rw [e];intro b hb z;have:=ih.1 b hb;rw [z,iK]at this;cases this
  have nil:∀b:List Pl,b≠[]->HT.lexLt (fl []) (fl b)=true:=fun b hb=>by
   cases b with
   |nil=>exact absurd rfl hb
   |cons c b=>rfl
  show([]::((rtV xs).map (x:: ·)++(rtV xs).tail)).Pairwise _;rw [pairwise_cons,pairwise_append,pairwise_map];refine⟨fun b hb=> ?_,ih.imp fun{a b} z=> ?_,ih.sublist (List.tail_sublist _),fun a ha b hb=> ?_⟩
  ·rcases mem_append.mp hb with z|z
   ·obtain⟨c,_,rfl⟩:=mem_map.mp z;exact nil _ (by simp)
   ·exact nil b (ne b z)
  ·show HT.lexLt (x.1::x.2::fl a) (x.1::x.2::fl b)=true;rw [HT.lexLt_cons,if_pos rfl,HT.lexLt_cons,if_pos rfl];exact z
  ·obtain⟨c,_,rfl⟩:=mem_map.mp ha;have hs:=iL (List.mem_of_mem_tail hb);cases b with
   |nil=>exact absurd rfl (ne _ hb)
   |cons y b=>
    have lt:HT.lexLt [x.1,x.2] [y.1,y.2]=true:=h.1 y (hs.subset zjR);show HT.lexLt (x.1::x.2::fl c) (y.1::y.2::fl b)=true;rw [HT.lexLt_cons,HT.lexLt_cons]at lt⊢;by_cases e1:x.1=y.1
    ·rw [if_pos e1]at lt⊢;by_cases e2:x.2=y.2
     ·rw [if_pos e2]at lt;cases lt
     ·rw [if_neg e2]at lt⊢;exact lt
    ·rw [if_neg e1]at lt⊢;exact lt
theorem uH:∀(n:Nat){xs:List Pl},xs.length=n->xs.Nodup->(llG xs).Nodup
 |0,xs,h,_=>by
  have:xs=[]:=eq_nil_of_length_eq_zero h;subst this;exact nodup_cons.mpr ⟨by simp,nodup_nil⟩
 |n+1,xs,h,hn=>by
  rcases List.eq_nil_or_concat xs with e| ⟨zs,x,e⟩
  ·rw [e]at h;cases h
  ·rw [List.concat_eq_append]at e;subst e;rw [length_append,length_singleton]at h;rw [nodup_append]at hn;have ih:=uH n (xs:=zs) (by omega) hn.1;rw [pQ,nodup_append];refine⟨ih,?_,fun a ha b hb e=> ?_⟩
   ·rw [nodup_iff_pairwise_ne,pairwise_map];exact(nodup_iff_pairwise_ne.mp ih).imp fun{a b} z e=>z (List.append_cancel_right e)
   ·obtain⟨c,_,rfl⟩:=mem_map.mp hb;have hx:x∈a:=by rw [e];exact mem_append_right _ zjR
    exact hn.2.2 x (((gI _ rfl).mp ha).subset hx) x zjR rfl
theorem xB (g:bF):(bB pos g).Nodup:=(qD pos g).imp fun{a b} z e=>by
 have z:HT.lexLt [a.1,a.2] [b.1,b.2]=true:=z;rw [e,iK]at z;cases z
theorem xK (g:bF)(f:List Pl->Bool):((llG (bB pos g)).filter f).Pairwise (· ≠ ·):=(nodup_iff_pairwise_ne.mp (uH _ rfl (xB g))).sublist filter_sublist
theorem xJ {g:bF}{cs:List Int}{cl:List C3}{od i:Int}{L:List Pl}(hT:0<=bJ g)(hC:0<=bI cs cl i)(hN:1<=bG cs cl)(h:L∈llG (bB pos g)):lfit g cs cl od i L=hZ g cs cl od i L:=by have hs:=(gI _ rfl).mp h;rw [A1t ((xB g).sublist hs) (fun c hc=>hs.subset hc) hT hC hN,Bool.and_comm];rfl
theorem fitL_mem {g:bF}{cs:List Int}{cl:List C3}{od i:Int}{L:List Pl}:L∈fK g cs cl od i↔L∈llG (bB pos g)/\hZ g cs cl od i L=true:=by unfold fK pO hZ;rw [mem_filter,mem_filter,A1g,Bool.and_eq_true,and_assoc]
theorem A5j {g:bF}{cs:List Int}{cl:List C3}{od i:Int}{R:List (List Pl)}(hT:0<=bJ g)(hC:0<=bI cs cl i)(hN:1<=bG cs cl)(hp:R.Perm ((llG (bB pos g)).filter (lfit g cs cl od i)))(hs:R.Pairwise fun a b=>HT.lexLt (fl b) (fl a)=false):R=fK g cs cl od i:=by
 have h1:(fK g cs cl od i).Pairwise fun a b=>HT.lexLt (fl a) (fl b)=true:=((vD (qD pos g)).sublist filter_sublist).sublist filter_sublist;have nr:(fK g cs cl od i).Nodup:=h1.imp fun{a b} z e=>by rw [e,iK]at z;cases z
 refine List.Perm.eq_of_pairwise (le:=fun a b=>HT.lexLt (fl b) (fl a)=false) (fun a b _ _ y z=>pP (kA z y)) hs (h1.imp fun{a b} z=> ?_) (hp.trans ((List.perm_ext_iff_of_nodup (nodup_iff_pairwise_ne.mpr (xK g _)) nr).mpr fun L=> ?_))
 ·cases e:HT.lexLt (fl b) (fl a)with
  |false=>rfl
  |true=>have:=jY z e;rw [iK]at this;cases this
 ·rw [fitL_mem,mem_filter];exact⟨fun⟨h,z⟩=> ⟨h,by rw [←xJ hT hC hN h];exact z⟩,fun⟨h,z⟩=> ⟨h,by rw [xJ hT hC hN h];exact z⟩⟩
section
variable {P:Program}{w:World}{K:W.Frag}{mg:Str->Option Value}{base:Heap}
theorem A4t (F:D1 K mg "_law_fraction" zN ["_law_top","_law_bottom"]):A1 P w K mg base 1 "_law_fraction" lE:=by
 refine F.k ["_law_top","_law_bottom","_law_one","_law_other"] ?_;ac_nf
 ·obtain⟨t,b,rfl,ht,hb,q⟩:=h;obtain⟨tn,rfl⟩:=Int.eq_ofNat_of_zero_le ht.1;obtain⟨bn,rfl⟩:=Int.eq_ofNat_of_zero_le (show 0<=b by omega);refine⟨_,aU (jH (i:=2) (j:=3) rfl nd rfl rfl (by decide) rfl rfl (aB (pv 1) (aB (pv 0) aA)) rfl)<|
   aU (qV PassesOwn.never (cI nL (pv 3) aO (nomark _)) (aM (jH (i:=2) (j:=3) rfl nd rfl rfl (by decide) rfl rfl (aB (pv 3) (dM (bD iI (pv 2) (pv 3)) aA)) rfl)))<|
   aM (bA (cF (dM (bD jM (pv 0) (pv 2)) (dM (bD jM (pv 1) (pv 2)) aA)))),?_⟩
  refine⟨_,rfl,_,rfl,_,_,rfl,?_⟩;refine tD (fun σ H'=>H'=H/\∃x y:Nat,σ=[some (.int (tn:Int)),some (.int (bn:Int)),some (.int (x:Int)),some (.int (y:Int))]/\Nat.gcd x y=Nat.gcd tn bn/\x<1000000000/\y<1000000000) (fun σ _=>match σ with| [_,_,_,some (.int y)]=>y.toNat|_=>0)
   ⟨rfl,bn,tn,rfl,gcd_comm _ _,by omega,by omega⟩ ?_ (fun σ H' R R' hi hc=> ?_)
  ·rintro σ H' ⟨rfl,x,y,rfl,hg,hx,hy⟩;refine⟨_,rfl,_,_,rfl,rfl,_,rfl,eW (fun hp=> ?_) fun hp=> ?_⟩
   ·have hy0:0<y:=by omega
    refine⟨_,rfl,_,rfl,_,rfl,_,_,rfl,rfl,(by omega),_,_,rfl,?_⟩;have hm:x%y<y:=mod_lt _ hy0;refine⟨⟨rfl,y,x%y,?_,by rw [zK];exact hg,hy,by omega⟩,?_⟩
    ·show [some (V.int (tn:Int)),some (.int (bn:Int)),some (.int (y:Int)),some (.int ((x:Int)%(y:Int)))]=_;rw [Int.natCast_emod]
    ·show((x:Int)%(y:Int)).toNat<((y:Int)).toNat;have e:(x:Int)%(y:Int)=((x%y:Nat):Int):=(Int.natCast_emod x y).symm;rw [e,Int.toNat_natCast,Int.toNat_natCast];exact hm
   ·have hy0:y=0:=by omega
    subst hy0;rw [Nat.gcd_zero_right]at hg;subst hg;have hgp:0<Nat.gcd tn bn:=Nat.gcd_pos_of_pos_right _ (by omega);refine⟨_,rfl,_,rfl,_,_,rfl,rfl,⟨by omega,by omega⟩,_,rfl,_,rfl,_,_,rfl,rfl,⟨by omega,by omega⟩,by show 2<=sizeLine;decide,fun p hp'=> ?_⟩;exact q p hp'
  ·obtain⟨v,e1,h1⟩:=hc;obtain⟨i,j,e2,e3,c,e4,h2⟩:=h1;exact⟨v,e1,i,j,e2,e3,c,e4,hi _ _ h2⟩
end
theorem oI {xs:List V}{lo hi:Option Int}{x:V}(h:x∈cutV xs lo hi):x∈xs:=mem_of_mem_drop (mem_of_mem_take h)
theorem LansAt.mem (h:LansAt H qs Ls)(hv:v∈qs.map V.ref):∃t L,v= .ref t/\L∈Ls/\SqA H t L:=by obtain⟨q,hq,rfl⟩:=mem_map.mp hv;obtain⟨i,hi⟩:=mem_iff_getElem?.mp hq;obtain⟨L,hL,e⟩:=gN h hi;exact⟨q,L,rfl,mem_of_getElem? hL,e⟩
abbrev nHR:List Str:=["_law_pen_here","_law_plea_here","_law_holder","_law_mead_here","_law_custom_here","_law_claims_here","_law_odd","_law_top","_law_lands_here","_law_due","_law_lap","_law_told","_law_land"]
theorem scHR:gL nHR ["_law_pen_here","_law_plea_here","_law_holder"] (bE sHR):=by ac_rfl
abbrev XR (P:Program)(w:World)(K:W.Frag)(mg:Str->Option Value)(base:Heap)(f:Addr)(cdv:Value)(A:Around)(outer:List Env)(s:Shared)(H0:Hp)(E:XK):Cx:=(fA CX0 P w K mg base nHR "_law_holder_right" (bE sHR) f cdv A outer s H0 E).nox
section
variable {P:Program}{w:World}{K:W.Frag}{mg:Str->Option Value}{base:Heap}
theorem A51:(["_law_turn","_law_pen_here","_law_lands_here"]:List Str).Nodup:=by decide +kernel
variable {f:Addr}{cdv:Value}{A:Around}{outer:List Env}{s:Shared}{H0:Hp}{E:XK}
theorem A8d (T2:dY mg)(hr:Room 12 (XR P w K mg base f cdv A outer s H0 E).A)(aS:A1 P w K mg base 1 "_law_same" (gG 0))(aK:A1 P w K mg base 2 "_law_pick" fR)(aH:A1 P w K mg base 12 "fits_holder" iZ):∃tt,PSs (XR P w K mg base f cdv A outer s H0 E) ((cD sHR).drop 6) tt/\
  ∀(D:dH)(o3 o4 o5 o6 o7 o10 o11 o12:Option V)(pn p ll lz:Addr)(g:bF)(w:Nat)(cs:List Int)(cl:List C3)(od i:Int)(qs dq:List Addr)(H:Hp),PenAt H pn->PleA H p g w cs cl od->dL cl i=true->ll≠pn->lz≠pn->H ll=some (.lst (qs.map V.ref))->LansAt H qs (llG (bB pos g))->H lz=some (.lst (dq.map V.ref))->LansAt H dq (fK g cs cl od i)->
   (∀H',Stp pn H H'->D.rt (.bl true) H')->tt D [some (.ref pn),some (.ref p),some (.int i),o3,o4,o5,o6,o7,some (.ref ll),some (.ref lz),o10,o11,o12] H:=by
 have nd:=scHR.nd;refine⟨_,aU (eF PassesOwn.never rfl (dN (bD iS (bD iS (bN (bE sHR).names nHR ["_law_turn"] [("_law_pen_here",0),("_law_lands_here",8)] rfl (gK rfl T2.range (cW aO aA)) rfl rfl rfl (by decide +kernel)
   (fun Z=>nm1 0 A51) (fun Z=>cB) (fun Z=>aK.c hr (aB (pv 1) (aB (pv 2) aA)))) (gJ lA (pv 9) iT (gC aO))) (gJ lA (pv 9) (gC (jI jN aO)) iT))) (nm1 12 nd)
   (aM (bR (bZ (bP (aS.c hr (bY (aH.c hr (aB (pv 1) (aB (pv 2) (aB (pv 12) aA)))) (qH (dD (A2d (zS hr)) (pv 12) (pv 9) rfl) aA))))) (aM (bA dA)) bU)))<|
  aM (bA dA),?_⟩
 intro D o3 o4 o5 o6 o7 o10 o11 o12 pn p ll lz g w' cs cl od i qs dq H pen hP hh hlp hzp ell hL elz hD hd;have hql:qs.length=_:=Paired.length hL;have hq1:1<=qs.length/\qs.length<=128:=by
  rw [hql,qM,fS];exact⟨Nat.one_le_two_pow,le_trans (pow_le_pow_right (by decide) hP.c6) (by decide)⟩
 have hdl:dq.length=_:=Paired.length hD;have hd1:dq.length<=128:=by
  rw [hdl];exact le_trans (le_trans (length_filter_le _ _) (length_filter_le _ _)) (lY hP.c6)
 refine⟨8,rfl,by decide,by decide,fun Z r hr'=> ?_⟩;have hrp:=pen.fresh hr';refine gM (lo:=0) (n:=8) (fun j σ H'=>(∃o,σ=[o,some (.ref pn),some (.ref ll)])/\Stp pn H H'/\∃vs:List V,H' r=some (.lst vs)/\vs.length=j/\∀v∈vs,v∈qs.map V.ref)
  ⟨⟨none,rfl⟩,(Stp.refl pen).updL hr' pen,[],aG,rfl,fun b h=>by cases h⟩ ?_ ?_
 ·rintro j σ H' hj ⟨⟨o,rfl⟩,st,vs,hl',hn,hv⟩;refine mL ?_;refine⟨_,rfl,_,rfl,pn,ll,_,rfl,st.pen,hlp,st.keep _ _ hlp ell,by rw [length_map];omega,by rw [length_map];omega,fun v H2 hm st2=> ?_⟩;refine⟨_,st2.keep r _ hrp hl',cH (by omega),⟨_,rfl⟩,(st.trans st2).updO hr' pen,vs++[v],aG,by rw [length_append,hn];rfl,fun x hx=> ?_⟩;rcases mem_append.mp hx with h|h
  ·exact hv x h
  ·rw [mem_singleton.mp h];exact hm
 ·rintro σ H' ⟨⟨o,rfl⟩,st,vs,hl',hn,hv⟩;have hn:vs.length=8:=hn;have elz1:=st.keep _ _ hzp elz;refine⟨_,rfl,_,rfl,lz,_,rfl,SqL.of elz1,fun l1 hl1=> ?_⟩;have c1:=kC (dq.map V.ref) none (some 1);have m1:∀v∈cutV (dq.map V.ref) none (some 1),v∈dq.map V.ref:=fun v h=>oI h;generalize cutV (dq.map V.ref) none (some 1)=x1 at c1 m1⊢;have u1:=aQ (o:=.lst x1) hl1;rw [length_map]at c1;refine⟨r,l1,_,_,rfl,rfl,u1 _ _ hl',aG,by rw [sizeLine_eq,hn];omega,fun l2 hl2=> ?_⟩;have u2:=aQ (o:=.lst (vs++x1)) hl2;have e2:(upd (upd H' l1 (.lst x1)) l2 (.lst (vs++x1))) l2=some (.lst (vs++x1)):=aG;have s2:=u1.trans u2;generalize upd (upd H' l1 (.lst x1)) l2 (.lst (vs++x1))=H2 at e2 s2⊢;refine⟨_,rfl,_,rfl,_,rfl,lz,_,rfl,SqL.of (s2 _ _ elz1),fun l3 hl3=> ?_⟩;have c3:=kC (dq.map V.ref) (some (-1)) none;have m3:∀v∈cutV (dq.map V.ref) (some (-1)) none,v∈dq.map V.ref:=fun v h=>oI h;generalize cutV (dq.map V.ref) (some (-1)) none=x3 at c3 m3⊢;have u3:=aQ (o:=.lst x3) hl3;rw [length_map]at c3;refine⟨l2,l3,_,_,rfl,rfl,u3 _ _ e2,aG,by rw [sizeLine_eq,length_append,hn];omega,fun l4 hl4=> ?_⟩;have u4:=aQ (o:=.lst (vs++x1++x3)) hl4;have e4:(upd (upd H2 l3 (.lst x3)) l4 (.lst (vs++x1++x3))) l4=some (.lst (vs++x1++x3)):=aG;have s4:=s2.trans (u3.trans u4);generalize upd (upd H2 l3 (.lst x3)) l4 (.lst (vs++x1++x3))=H4 at e4 s4⊢;have st4:=st.same s4;have x4:=st4.ext pen;have P4:=hP.ext x4;have L4:=hL.ext x4;have D4:=hD.ext x4;have elz4:=s4 _ _ elz1;have hA:∀v∈vs++x1++x3,∃t L,v=V.ref t/\L∈llG (bB pos g)/\SqA H4 t L:=fun v h=>by
   have hdq:v∈dq.map V.ref->∃t L,v=V.ref t/\L∈llG (bB pos g)/\SqA H4 t L:=fun h=>by
    obtain⟨t,L,e,hL,hS⟩:=D4.mem h;exact⟨t,L,e,(fitL_mem.mp hL).1,hS⟩
   rcases mem_append.mp h with h|h
   ·rcases mem_append.mp h with h|h
    ·exact L4.mem (hv v h)
    ·exact hdq (m1 v h)
   ·exact hdq (m3 v h)
  refine⟨l4,rfl,⟨_,SqL.of e4⟩,?_⟩;refine gU (K:=K) (a:=l4) (xs:=vs++x1++x3) (fun j σ H9=>(∃o12,σ=[some (.ref pn),some (.ref p),some (.int i),o3,o4,o5,o6,o7,some (.ref ll),some (.ref lz),o10,o11,o12])/\Same H4 H9)
   ⟨⟨_,rfl⟩,Same.refl _⟩ (fun j σ H9 _ h=>SqL.of (h.2 _ _ e4)) ?_ ?_
  ·rintro j y σ H9 hj ⟨⟨o12,rfl⟩,s9⟩;obtain⟨t,L,rfl,hLL,hS⟩:=hA y (mem_of_getElem? hj);have hS9:=SqA.ext hS s9.ext;refine⟨_,rfl,_,rfl,_,rfl,p,g,w',cs,cl,od,i,t,L,rfl,P4.same s9,hh,hS9,(gI _ rfl).mp hLL,fun Ha sa=> ?_⟩;have sA:=s9.trans sa;refine⟨_,rfl,_,rfl,t,lz,L,dq,_,rfl,rfl,SqA.ext hS9 sa.ext,sA _ _ elz4,D4.ext sA.ext,?_⟩;have e:decide (L∈fK g cs cl od i)=hZ g cs cl od i L:=by
    rw [Bool.eq_iff_iff,decide_eq_true_eq,fitL_mem];exact⟨fun z=>z.2,fun z=> ⟨hLL,z⟩⟩
   rw [e];exact⟨_,_,rfl,SameV.bl 0 _,fun Hb sb=> ⟨_,rfl,bT ⟨⟨_,rfl⟩,sA.trans sb⟩⟩⟩
  ·rintro σ H9 ⟨⟨o12,rfl⟩,s9⟩;exact hd H9 (st4.same s9)
end
theorem sV:∀{ps qs:List Addr}{L:List Pl},PlAt H ps L->PlAt H qs L->Paired (SameV H 1) (ps.map V.ref) (qs.map V.ref)
 |_,_,_,.nil,.nil=> .nil
 |_,_,_,.cons r1 t1,.cons r2 t2=> .cons (.inr ⟨_,_,_,_,rfl,rfl,.inr ⟨r1,r2⟩,by show 2<=1000;decide,.cons (SameV.int 0 _) (.cons (SameV.int 0 _) .nil)⟩) (sV t1 t2)
theorem sG:∀{ps qs:List Addr}{Ls:List (List Pl)},(∀L∈Ls,L.length<=10)->LansAt H ps Ls->LansAt H qs Ls->Paired (SameV H 2) (ps.map V.ref) (qs.map V.ref)
 |_,_,_,_,.nil,.nil=> .nil
 |_,_,_,h,.cons r1 t1,.cons r2 t2=>by
  refine .cons ?_ (sG (fun L hL=>h L (zjS _ hL)) t1 t2);obtain⟨a,h1,p1⟩:=r1;obtain⟨b,h2,p2⟩:=r2;have hz:=h _ zjR;have hl:=Paired.length p1;exact .inr ⟨_,_,_,_,rfl,rfl,.inr ⟨h1,h2⟩,by rw [length_map];omega,sV p1 p2⟩
theorem A68 {R:Addr->List Pl->Prop}:∀{qs:List Addr}{ts:List (List Pl)},Paired R qs ts->((qs.zip ts).map fun z=>V.ref z.1)=qs.map V.ref/\(qs.zip ts).map (·.2)=ts/\(∀z∈qs.zip ts,R z.1 z.2):=by
 intro qs ts h
 induction h with
 |nil=>exact⟨rfl,rfl,fun z hz=>by cases hz⟩
 |cons r t ih=>
  refine⟨?_,?_,fun z hz=> ?_⟩
  ·rw [zip_cons_cons,map_cons,map_cons,ih.1]
  ·rw [zip_cons_cons,map_cons,ih.2.1]
  ·rw [zip_cons_cons]at hz;rcases mem_cons.mp hz with e|hz
   ·rw [e];exact r
   ·exact ih.2.2 z hz
theorem tG {R:Addr->List Pl->Prop}:∀{zs:List (Addr×List Pl)},(∀z∈zs,R z.1 z.2)->Paired R (zs.map (·.1)) (zs.map (·.2))
 | [],_=> .nil
 |z::zs,h=> .cons (h z zjR) (tG fun y hy=>h y (zjS _ hy))
theorem xQ (g:bF)(cs:List Int)(cl:List C3)(od i:Int):lfit g cs cl od i []=false:=by unfold lfit lhangs;simp
def oO:Sp:=fun vs H Q _=> ∃pn p g w cs cl od i,vs=[.ref pn,.ref p,.int i]/\PenAt H pn/\PleA H p g w cs cl od/\dL cl i=true/\∀H',Stp pn H H'->Q (.bl true) H'
section
variable {P:Program}{w:World}{K:W.Frag}{mg:Str->Option Value}{base:Heap}
theorem A67:(["_law_land","_law_plea_here","_law_holder"]:List Str).Nodup:=by decide +kernel
section
variable {f:Addr}{cdv:Value}{A:Around}{outer:List Env}{s:Shared}{H0:Hp}{E:XK}
theorem A47 (T2:dY mg)(hr:Room 12 (XR P w K mg base f cdv A outer s H0 E).A)(aS:A1 P w K mg base 1 "_law_same" (gG 0))(aS3:A1 P w K mg base 4 "_law_same" (gG 3))(aK:A1 P w K mg base 2 "_law_pick" fR)(aH:A1 P w K mg base 12 "fits_holder" iZ)(aP:A1 P w K mg base 11 "fit_lands" qG):∃tt,PSs (XR P w K mg base f cdv A outer s H0 E) ((cD sHR).drop 5) tt/\
    ∀(D:dH)(o3 o4 o5 o6 o7 o10 o11 o12:Option V)(pn p ll lz:Addr)(g:bF)(w:Nat)(cs:List Int)(cl:List C3)(od i:Int)(qs dq:List Addr)(H:Hp),PenAt H pn->PleA H p g w cs cl od->dL cl i=true->ll≠pn->lz≠pn->H ll=some (.lst (qs.map V.ref))->LansAt H qs (llG (bB pos g))->H lz=some (.lst (dq.map V.ref))->LansAt H dq (fK g cs cl od i)->
      (∀H',Stp pn H H'->D.rt (.bl true) H')->tt D [some (.ref pn),some (.ref p),some (.int i),o3,o4,o5,o6,o7,some (.ref ll),some (.ref lz),o10,o11,o12] H:=by
  have nd:=scHR.nd;obtain⟨tb,hb,rb⟩:=A8d (P:=P) (w:=w) (K:=K) (mg:=mg) (base:=base) (f:=f) (cdv:=cdv) (A:=A) (outer:=outer) (s:=s) (H0:=H0) (E:=E) T2 hr aS aK aH;have eb:(cD sHR).drop 5=(cD sHR).getD 5 (.Pass ⟨0,0,0,0⟩)::(cD sHR).drop 6:=rfl;rw [eb];generalize (cD sHR).drop 6=S6 at hb;refine⟨_,aU (eF PassesOwn.never rfl (gK rfl T2.range (cW aO aA)) (nm1 10 nd)
      (aU (bQ (i:=11) nd rfl (Or.inl rfl) (aP.c hr (aB (pv 1) (aB (pv 2) aA))))<|
       aU (bR (bZ (bP (aS3.c hr (aB (pv 11) (aB (pv 9) aA))))) (aM (bA dA)) bU)<|
       aM (dE (kU PySem.F.plainAttrs_list PySem.F.slot_list_append PySem.F.type_list_append mF (pv 11) (gW (cF aA) aA))))) hb,?_⟩
  intro D o3 o4 o5 o6 o7 o10 o11 o12 pn p ll lz g w' cs cl od i qs dq H pen hP hh hlp hzp ell hL elz hD hd;have h10:∀L∈fK g cs cl od i,L.length<=10:=fun L hL=>LandOf.len hP.G ((gI _ rfl).mp (fitL_mem.mp hL).1);have hll:(fK g cs cl od i).length<=128:=le_trans (le_trans (length_filter_le _ _) (length_filter_le _ _)) (lY hP.c6);refine⟨2,rfl,by decide,by decide,?_⟩;refine gM (lo:=0) (n:=2) (fun j σ H'=>(∃o10 o11,σ=[some (.ref pn),some (.ref p),some (.int i),o3,o4,o5,o6,o7,some (.ref ll),some (.ref lz),o10,o11,o12])/\Same H H')
    ⟨⟨_,_,rfl⟩,Same.refl _⟩ ?_ ?_
  · rintro j σ H' hj ⟨⟨o10,o11,rfl⟩,hs⟩
    refine⟨_,rfl,_,rfl,p,g,w',cs,cl,od,i,rfl,hP.same hs,hh,fun lt qt H2 hlt s2 elt hF=> ?_⟩;have s12:=hs.trans s2;have hql:=Paired.length hF;refine⟨_,rfl,_,rfl,_,_,rfl,.inr ⟨_,_,_,_,rfl,rfl,.inl ⟨elt,s12 _ _ elz⟩,by rw [length_map];omega,sG h10 hF (hD.ext s12.ext)⟩,fun H3 s3=> ⟨_,rfl,bT ?_⟩⟩;refine⟨_,rfl,.inl ⟨rfl,_,SqL.of (s3 _ _ elt)⟩,by show 0<=sizeLine;decide,fun t ht=> ?_⟩;have u:=aQ (o:=.tup []) ht;refine⟨lt,_,_,rfl,rfl,u _ _ (s3 _ _ elt),cH (by rw [length_map];omega),⟨⟨_,_,rfl⟩,fun b o e=> ?_⟩⟩;rw [aY (bL (hs _ _ e) hlt)];exact u _ _ (s3 _ _ (s12 _ _ e))
  · rintro σ H' ⟨⟨o10,o11,rfl⟩,hs⟩
    exact rb D o3 o4 o5 o6 o7 o10 o11 o12 pn p ll lz g w' cs cl od i qs dq H' (pen.same hs) (hP.same hs) hh hlp hzp (hs _ _ ell) (hL.ext hs.ext) (hs _ _ elz) (hD.ext hs.ext) fun H2 st=>hd H2 ⟨st.pen,fun b o n e=>st.keep b o n (hs _ _ e)⟩
end
theorem A7x (F:D1 K mg "_law_holder_right" sHR ["_law_pen_here","_law_plea_here","_law_holder"])(T2:dY mg)(aS:A1 P w K mg base 1 "_law_same" (gG 0))(aS1:A1 P w K mg base 2 "_law_same" (gG 1))(aS3:A1 P w K mg base 4 "_law_same" (gG 3))(aK:A1 P w K mg base 2 "_law_pick" fR)(aH:A1 P w K mg base 12 "fits_holder" iZ)(aP:A1 P w K mg base 11 "fit_lands" qG)
  (aW:A1 P w K mg base 1 "_law_worth" oB)(aC:A1 P w K mg base 1 "_law_cells" (eE pos))(aN:A1 P w K mg base 1 "_law_count" pZ)(aD:A1 P w K mg base 9 "due_of" qZ)(aR:A1 P w K mg base 1 "_law_fraction" lE)(aT:A1 P w K mg base 1 "_law_total" oZ)(aL:A1 P w K mg base 2 "_law_lands" xO)(aF:A1 P w K mg base 3 "_law_fits" xF):A1 P w K mg base 13 "_law_holder_right" oO:=by
 refine F.k nHR ?_;ac_nf
 ·obtain⟨pn,p,g,w',cs,cl,od,i,rfl,pen,D,hh,q⟩:=h;obtain⟨tb,hb,rb⟩:=A47 (P:=P) (w:=w) (K:=K) (mg:=mg) (base:=base) (f:=f) (cdv:=cdv) (A:=A) (outer:=outer) (s:=s) (H0:=H) (E:=E) T2 hr aS aS3 aK aH aP;have eb:cD sHR=(cD sHR).getD 0 (.Pass ⟨0,0,0,0⟩)::(cD sHR).getD 1 (.Pass ⟨0,0,0,0⟩)::(cD sHR).getD 2 (.Pass ⟨0,0,0,0⟩)::(cD sHR).getD 3 (.Pass ⟨0,0,0,0⟩)::(cD sHR).getD 4 (.Pass ⟨0,0,0,0⟩)::(cD sHR).drop 5:=rfl;rw [eb];generalize (cD sHR).drop 5=S5 at hb;obtain⟨m,c,a,hp,hm,hc,ha⟩:=D.ex;refine⟨_,aU (dQ (pv 1) (bV rfl (aX (nm1 3 nd) (aX (nm1 4 nd) (aX (nm1 5 nd) (aX (nm1 6 nd) bW))))))<|
   aU (bQ (i:=7) nd rfl (Or.inl rfl) (bD eG (aW.c hr (aB (pv 3) (bY (aC.c hr (aB (pv 3) aA)) aA))) (aN.c hr (aB (pv 4) (aB (pv 5) (aB (pv 2) aA))))))<|
   aU (bR (bZ (bP (aS1.c hr (bY (aD.c hr (aB (pv 1) (aB (pv 2) aA))) (bY (aR.c hr (aB (pv 7) (bY (aT.c hr (aB (pv 4) (aB (pv 5) aA))) aA))) aA))))) (aM (bA dA)) bU)<|
   aU (bQ (i:=8) nd rfl (Or.inr rfl) (aL.c hr (aB (pv 3) aA)))<|
   aU (bQ (i:=9) nd rfl (Or.inl rfl) (bH (A72 (fB hr)) rfl T2.sorted boot_sorted (cM (bN (bE sHR).names nHR ["_law_land"] [("_law_plea_here",1),("_law_holder",2)] rfl (dN (pv 8)) rfl rfl rfl (by decide +kernel)
    (fun Z=>nm1 0 A67) (fun Z=>eT (bP (aF.c hr (aB (pv 1) (aB (pv 2) (aB (pv 0) aA)))))) (fun Z=>pv 0)) aA))) hb,?_⟩
  have hb:=oN D.cu D.ck D.un i;have tt:=xM D.G D.c6;have ew:=yP g;refine⟨_,rfl,p,_,rfl,SqT.of hp,rfl,_,_,rfl,_,_,rfl,_,_,rfl,_,_,rfl,rfl,?_⟩;refine⟨_,rfl,_,rfl,m,g,w',rfl,hm,D.G,fun H1 lc pc hlc s1 elc hP=> ?_⟩;refine⟨m,lc,g,pc,bB pos g,rfl,hm.same s1,.inr elc,hP,fun c hc=>hc,?_⟩;refine⟨_,rfl,_,rfl,_,rfl,c,a,cs,cl,i,rfl,s1 _ _ hc,D.cu,ha.ext s1.ext,iJ D.ck D.un,?_⟩;rw [ew];refine⟨_,_,rfl,rfl,.inl ⟨by omega,by omega⟩,?_⟩;refine⟨_,rfl,_,rfl,p,g,w',cs,cl,od,i,rfl,D.same s1,hh,fun t1 H2 s2 et1=> ?_⟩;have s12:=s1.trans s2;refine⟨_,rfl,_,rfl,_,rfl,c,a,cs,cl,rfl,s12 _ _ hc,D.cu,ha.ext s12.ext,iJ D.ck D.un,fun H3 s3=> ?_⟩;have h1:bJ g*bI cs cl i<=693*bI cs cl i:=Int.mul_le_mul_of_nonneg_right (by omega) hb.1.1;refine⟨_,_,rfl,⟨Int.mul_nonneg tt.1 hb.1.1,by omega⟩,hb.2,fun t2 ht2=> ?_⟩;have u2:=aQ (o:=.tup [.int (frTop (bJ g*bI cs cl i) (bG cs cl)),.int (frBot (bJ g*bI cs cl i) (bG cs cl))]) ht2;obtain⟨d1,d2⟩:=A6e (g:=g) (cs:=cs) (cl:=cl) (i:=i) tt.1 hb.1.1 hb.2.1;rw [d1,d2]at et1;refine⟨_,_,rfl,.inr ⟨_,_,_,_,rfl,rfl,.inr ⟨u2 _ _ (s3 _ _ et1),aG⟩,by show 2<=1000;decide,.cons (SameV.int 0 _) (.cons (SameV.int 0 _) .nil)⟩,fun H4 s4=> ⟨_,rfl,bT ?_⟩⟩;have s14:=((s12.trans s3).trans u2).trans s4;refine⟨_,rfl,m,g,w',rfl,hm.same s14,D.G,D.c6,fun ll qs H5 hll s5 ell hL=> ?_⟩;have s15:=s14.trans s5;have hql:qs.length=_:=Paired.length hL;have h128:qs.length<=128:=by
   rw [hql,qM,fS];exact le_trans (pow_le_pow_right (by decide) D.c6) (by decide)
  refine⟨_,rfl,ll,rfl,⟨_,SqL.of ell⟩,fun Z l hl=> ?_⟩;refine iE (R:=fun H q cs=>SqA H q cs) (fun e h=>SqA.ext h e) (rest:=[some (.ref p),some (.int i)]) (lfit g cs cl od i) fN (fun H' hs=>SqL.of (hs _ _ ell)) hL hl (by omega) (fun b L H' Q' hc hb hs k=> ?_) fun σ H' qs' hs el' hP'=> ?_
  ·have hLs:=(gI _ rfl).mp hc;exact⟨_,rfl,_,rfl,_,rfl,p,b,g,w',cs,cl,od,i,L,rfl,(D.same s15).same hs,hb,fun c h=>hLs.subset h,LandOf.len D.G hLs,fun H2 s2=> ⟨_,rfl,k H2 s2⟩⟩
  ·obtain⟨z1,z2,z3⟩:=A68 hP';have zl:(qs'.zip ((llG (bB pos g)).filter (lfit g cs cl od i))).length=((llG (bB pos g)).filter (lfit g cs cl od i)).length:=by
    rw [←length_map (f:=(·.2)),z2]
   have flt:((llG (bB pos g)).filter (lfit g cs cl od i)).length<(llG (bB pos g)).length:=nI ((gI _ rfl).mpr (List.nil_sublist _)) (xQ g cs cl od i);refine⟨l,qs'.zip _,rfl,by rw [el',z1],fun z hz=> ⟨z3 z hz,fun e=> ?_⟩,by omega,fun _=>by rw [z2];exact xK g _,fun lz zs' hlz hS=> ?_⟩
   ·have:z.2∈(qs'.zip ((llG (bB pos g)).filter (lfit g cs cl od i))).map (·.2):=mem_map.mpr ⟨z,hz,rfl⟩;rw [z2]at this;have:=(mem_filter.mp this).2;rw [e,xQ]at this;cases this
   ·have uz:=aQ (o:=.lst (zs'.map fun z=>V.ref z.1)) hlz;have s17:=(s15.trans hs).trans uz;have hR:=A5j tt.1 hb.1.1 hb.2.1 (by rw [←z2];exact hS.1.map (·.2)) (pairwise_map.mpr hS.2);refine rb _ _ _ _ _ _ _ _ _ pn p ll lz g w' cs cl od i qs (zs'.map (·.1)) _ (pen.same s17) (D.same s17) hh ?_ ?_ (uz _ _ (hs _ _ ell)) ((hL.ext hs.ext).ext uz.ext) (by rw [aG,map_map];rfl) ?_ fun H' st=>q H' ⟨st.pen,fun b o n e=>st.keep b o n (s17 _ _ e)⟩
    ·exact(pen.same s14).fresh hll
    ·exact(pen.same (s15.trans hs)).fresh hlz
    ·rw [←hR];exact(tG fun z hz=>SqA.ext (z3 z (hS.1.mem_iff.mp hz)) uz.ext)
end
end M07
namespace L2
open PySem PySem.Spec PyProof.Rows
mutual
def RdA (H:Hp):PyData->V->Prop
 | .none,v=>v= .non
 | .bool b,v=>v= .bl b
 | .int i,v=>v= .int i
 | .str x,v=>v= .str x
 | .list ds,v=> ∃a xs,v= .ref a/\H a=some (.lst xs)/\RdAs H ds xs
 | .tuple ds,v=> ∃a xs,v= .ref a/\H a=some (.tup xs)/\RdAs H ds xs
 | .dict kvs,v=> ∃a ks,v= .ref a/\H a=some (.dK ks)/\kH H kvs ks
def RdAs (H:Hp):List PyData->List V->Prop
 | [],xs=>xs=[]
 |d::ds,xs=> ∃y ys,xs=y::ys/\RdA H d y/\RdAs H ds ys
def kH (H:Hp):List (PyData×PyData)->List (Key×V)->Prop
 | [],xs=>xs=[]
 | (k,d)::r,xs=> ∃j y ys,xs=(j,y)::ys/\RdA H k (kV j)/\RdA H d y/\kH H r ys
end
mutual
def eD:PyData->Bool
 | .none| .bool _| .int _| .str _=>false
 | .list _=>true
 | .tuple xs=>fV xs
 | .dict kvs=>mK kvs
def fV:List PyData->Bool
 | []=>false
 |x::xs=>eD x||fV xs
def mK:List (PyData×PyData)->Bool
 | []=>false
 | (k,v)::r=>eD k||eD v||mK r
end
section
theorem xX:∀{ks:List (Key×V)}{vs:List (Key×Value)}{es:List DictEntry},KV ks vs->Pairs (dR P w) es vs->Paired (fun(p:Key×V) (e:DictEntry)=>RelV (kV p.1) e.key/\RelV p.2 e.val) ks es
 | [],_,_,.nil,.nil=> .nil
 |_::_,_,_,.cons r t,.cons p q s=>by
  refine .cons ⟨?_,?_⟩ (xX t s)
  ·rw [r.1];rcases keyIs_shape p with⟨i,t',e1,e2⟩| ⟨x,t',e1,e2⟩
   ·rw [e1,e2];exact⟨t',rfl⟩
   ·rw [e1,e2];exact⟨t',rfl⟩
  ·rw [q];exact r.2
mutual
theorem lU (ok:HOk P w H h):∀(d:PyData)(v:V)(u:Value),RdA H d v->RelV v u->∃as,Reads h u d as/\(eD d=false->sysModules∉as)
 | .none,_,_,e,r=>by
  simp only [RdA]at e;subst e;cases (show _=Value.none from r);exact⟨[],.none,fun _=>by simp⟩
 | .bool b,_,_,e,r=>by
  simp only [RdA]at e;subst e;cases (show _=Value.bool b from r);exact⟨[],.bool b,fun _=>by simp⟩
 | .int i,_,_,e,r=>by
  simp only [RdA]at e;subst e;obtain⟨t,rfl⟩:=(show∃t,_=Value.int i t from r);exact⟨[],.int i t,fun _=>by simp⟩
 | .str x,_,_,e,r=>by
  simp only [RdA]at e;subst e;obtain⟨t,rfl⟩:=(show∃t,_=Value.str x t from r);exact⟨[],.str x t,fun _=>by simp⟩
 | .list ds,_,_,e,r=>by
  simp only [RdA]at e;obtain⟨a,xs,rfl,ha,hx⟩:=e;cases (show _=Value.ref a from r);obtain⟨_,its,n,rv,ho⟩:=(show ObjOk P w H h a (.lst xs)from ok _ _ ha);obtain⟨as,h1,h2⟩:=qK ok ds xs its hx rv;exact⟨a::as,.list ho rfl rfl h1,fun z=>by simp [eD]at z⟩
 | .tuple ds,_,_,e,r=>by
  simp only [RdA]at e;obtain⟨a,xs,rfl,ha,hx⟩:=e;cases (show _=Value.ref a from r);obtain⟨_,its,rv,o,ho,hc,n,hd⟩:=(show ObjOk P w H h a (.tup xs)from ok _ _ ha);obtain⟨as,h1,h2⟩:=qK ok ds xs its hx rv;exact⟨as,.tuple ho hc hd h1,fun z=>h2 (by simpa only [eD]using z)⟩
 | .dict kvs,_,_,e,r=>by
  simp only [RdA]at e;obtain⟨a,ks,rfl,ha,hx⟩:=e;cases (show _=Value.ref a from r);obtain⟨_,hs,vs,hk,o,es,ep,ho,hex,hd,_,hp,_⟩:=(show ObjOk P w H h a (.dK ks)from ok _ _ ha);obtain⟨as,bs,h1,h2,h3⟩:=zU ok kvs ks es.toList hx (xX hk hp);refine⟨a::as++bs,.dict ho hex.1 hd h1 h2,fun z=> ?_⟩;obtain⟨z1,z2⟩:=h3 (by simpa only [eD]using z);rw [List.cons_append,mem_cons,mem_append];rintro(q|q|q)
  ·rw [←q]at hs;simp at hs
  ·exact z1 q
  ·exact z2 q
theorem qK (ok:HOk P w H h):∀(ds:List PyData)(xs:List V)(us:List Value),RdAs H ds xs->Vals xs us->∃as,ReadsAll h us ds as/\(fV ds=false->sysModules∉as)
 | [],_,_,e,r=>by
  simp only [RdAs]at e;subst e;cases r;exact⟨[],.nil,fun _=>by simp⟩
 |d::ds,_,_,e,r=>by
  simp only [RdAs]at e;obtain⟨y,ys,rfl,h1,h2⟩:=e;cases r with
  |cons r1 r2=>
   obtain⟨as,g1,g2⟩:=lU ok d y _ h1 r1;obtain⟨bs,g3,g4⟩:=qK ok ds ys _ h2 r2;refine⟨as++bs,.cons g1 g3,fun z=> ?_⟩;simp only [fV,Bool.or_eq_false_iff]at z;rw [mem_append];rintro(q|q)
   ·exact g2 z.1 q
   ·exact g4 z.2 q
theorem zU (ok:HOk P w H h):∀(ds:List (PyData×PyData))(xs:List (Key×V))(es:List DictEntry),kH H ds xs->Paired (fun(p:Key×V) (e:DictEntry)=>RelV (kV p.1) e.key/\RelV p.2 e.val) xs es->
  ∃as bs,ReadsAll h (es.map (·.key)) (ds.map (·.1)) as/\ReadsAll h (es.map (·.val)) (ds.map (·.2)) bs/\(mK ds=false->sysModules∉as/\sysModules∉bs)
 | [],_,_,e,r=>by
  simp only [kH]at e;subst e;cases r;exact⟨[],[],.nil,.nil,fun _=>by simp⟩
 | (k,d)::ds,_,_,e,r=>by
  simp only [kH]at e;obtain⟨j,y,ys,rfl,h0,h1,h2⟩:=e;cases r with
  |cons r1 r2=>
   obtain⟨as,g1,g2⟩:=lU ok k _ _ h0 r1.1;obtain⟨bs,g3,g4⟩:=lU ok d y _ h1 r1.2;obtain⟨as',bs',g5,g6,g7⟩:=zU ok ds ys _ h2 r2;refine⟨as++as',bs++bs',.cons g1 g5,.cons g3 g6,fun z=> ?_⟩;simp only [mK,Bool.or_eq_false_iff]at z;obtain⟨q1,q2⟩:=g7 z.2;constructor
   ·rw [mem_append];rintro(q|q)
    ·exact g2 z.1.1 q
    ·exact q1 q
   ·rw [mem_append];rintro(q|q)
    ·exact g4 z.1.2 q
    ·exact q2 q
end
end
mutual
def kX:PyData->Bool
 | .none| .bool _| .int _| .str _| .dict _=>true
 | .list xs=>kK xs
 | .tuple xs=>decide (xs.length<=1000)&&kK xs
def kK:List PyData->Bool
 | []=>true
 |x::xs=>kX x&&kK xs
end
structure Gd (n D:Nat)(d:PyData):Prop where
 sh:d.showable=true
 lv:d.leavesShort 64=true
 wt:d.weight<=n
 dp:d.depth<=D
 ln:kX d=true
theorem Gd.mono (g:Gd n D d)(h:n<=m)(h2:D<=E):Gd m E d:=⟨g.sh,g.lv,le_trans g.wt h,le_trans g.dp h2,g.ln⟩
theorem Gd.all:∀{ds:List PyData},(∀d∈ds,Gd n D d)->PyData.showableAll ds=true/\PyData.leavesShortAll 64 ds=true/\PyData.weightAll ds<=ds.length*(n+1)/\PyData.depthAll ds<=D/\kK ds=true
 | [],_=> ⟨rfl,rfl,by simp [PyData.weightAll],by simp [PyData.depthAll],rfl⟩
 |d::ds,h=>by
  obtain⟨h1,h2,h3,h4,h5⟩:=Gd.all fun d' hd'=>h d' (zjS _ hd');have g:=h d zjR;refine⟨by simp only [PyData.showableAll,g.sh,h1,Bool.and_self],by simp only [PyData.leavesShortAll,g.lv,h2,Bool.and_self],?_,?_,by simp only [kK,g.ln,h5,Bool.and_self]⟩
  ·have:=g.wt;simp only [PyData.weightAll,length_cons,Nat.succ_mul];omega
  ·have:=g.dp;simp only [PyData.depthAll];omega
theorem Gd.fits (g:Gd n D d)(hn:n<=100000):d.shown.length<=sizeLine:=by have h:=PyData.shown_le 64 (by decide) d g.lv;have:=g.wt;have h2:(64+2)*d.weight<=66*100000:=Nat.mul_le_mul (by decide) (by omega);rw [sizeLine_eq];omega
structure Shw (d:PyData):Prop where
 gd:Gd 100000 40 d
 dl:d.hasDict=true->eD d=false
section
theorem xD (hg:X.A.guards=some [])(hu:X.A.units+64<cLine):dF X (.builtin "repr") (fun xs H Q=> ∃v d,xs=[v]/\RdA H d v/\Shw d/\Q (.str d.shown) H):=by
 intro pins s σ H xs us Q I r h;obtain⟨v,d,rfl,hr,hS,q⟩:=h;obtain⟨u,rfl,rx⟩:=dJ r;have hfit:=hS.gd.fits (zjQ _);have hdp:=hS.gd.dp;have ref:∀a,v= .ref a->wpAny (model X.prog X.w) X.A (call (.builtin "repr") [u]) (EP X pins σ Q) X.xe s:=fun a e=>by
  subst e;cases (show _=Value.ref a from rx);obtain⟨as,g1,g2⟩:=lU I.hok d _ _ hr rx;refine repr_of_reads' g1 hS.gd.sh (fun z=>g2 (hS.dl z)) hg (by omega) (fun _ _ e=>e) (fun h' u' tk hk=> ?_) hfit;exact⟨.str d.shown,H,I.kept hk,⟨u',rfl⟩,q⟩
 cases d with
 |none=>
  simp only [RdA]at hr;subst hr;cases (show _=Value.none from rx);exact PySem.P.repr_of_none ⟨.str "None",H,I.tok _,⟨_,rfl⟩,q⟩
 |bool b=>
  simp only [RdA]at hr;subst hr;cases (show _=Value.bool b from rx);refine PySem.P.repr_of_bool ⟨_,H,I.tok _,?_,q⟩;cases b<;>exact⟨_,rfl⟩
 |int i=>
  simp only [RdA]at hr;subst hr;obtain⟨t,rfl⟩:=(show∃t,_=Value.int i t from rx);exact PySem.P.repr_of_int (by simpa only [PyData.showable,decide_eq_true_eq]using hS.gd.sh) ⟨.str (PyData.shown (.int i)),H,I.tok _,⟨_,rfl⟩,q⟩
 |str x=>
  simp only [RdA]at hr;subst hr;obtain⟨t,rfl⟩:=(show∃t,_=Value.str x t from rx);refine PySem.P.repr_of_str ⟨.str (PyData.shown (.str x)),H,I.tok _,⟨_,rfl⟩,q⟩ ?_;simpa only [PyData.shown]using hfit
 |list ds=>
  simp only [RdA]at hr;exact ref _ hr.choose_spec.choose_spec.1
 |tuple ds=>
  simp only [RdA]at hr;exact ref _ hr.choose_spec.choose_spec.1
 |dict kvs=>
  simp only [RdA]at hr;exact ref _ hr.choose_spec.choose_spec.1
end
def Dp (H:Hp)(n D:Nat)(v:V):Prop:=∃d,RdA H d v/\Gd n D d/\d.hasDict=false/\eD d=false
theorem Dp.mono (h:Dp H n D v)(h1:n<=m)(h2:D<=E):Dp H m E v:=let ⟨d,a,b,c⟩:=h;⟨d,a,b.mono h1 h2,c⟩
theorem Gd.atom (h1:d.showable=true)(h2:d.leavesShort 64=true)(h3:d.weight<=n)(h4:d.depth=0)(h5:kX d=true:=by simp only [kX]):Gd n D d:=⟨h1,h2,h3,by omega,h5⟩
theorem Dp.int (i:Int)(h:i.natAbs<10^40)(hw:i.natAbs<2^n)(h1:1<=n):Dp H n D (.int i):=by
 refine⟨.int i,by simp only [RdA],.atom ?_ ?_ ?_ (by simp only [PyData.depth]),by simp only [PyData.hasDict],by simp only [eD]⟩
 ·simp only [PyData.showable,decide_eq_true_eq];by_cases z:i.natAbs=0
  ·rw [z];decide
  ·rw [Nat.log2_lt z];exact lt_of_lt_of_le h (by decide +kernel)
 ·simp only [PyData.leavesShort,decide_eq_true_eq];have e:=int_text_length_le10 (k:=40) (by decide) h;show(Str.ofString (toString i)).length<=64;rw [PySem.ofString_length];omega
 ·simp only [PyData.weight]
  split
  ·omega
  ·rename_i z;have z':i.natAbs≠0:=by simpa using z
   have:=(Nat.log2_lt z').mpr hw;omega
theorem Dp.num (i:Int)(h:i.natAbs<128):Dp H 7 D (.int i):=Dp.int i (lt_of_lt_of_le h (by decide +kernel)) h (by decide)
theorem Dp.all:∀{xs:List V},(∀x∈xs,Dp H n D x)->∃ds,RdAs H ds xs/\ds.length=xs.length/\(∀d∈ds,Gd n D d)/\PyData.hasDictAll ds=false/\fV ds=false
 | [],_=> ⟨[],by simp only [RdAs],rfl,fun d h=>by simp at h,by simp only [PyData.hasDictAll],by simp only [fV]⟩
 |x::xs,h=>by
  obtain⟨d,a1,a2,a3,a4⟩:=h x zjR;obtain⟨ds,b1,b2,b3,b4,b5⟩:=Dp.all fun y hy=>h y (zjS _ hy);refine⟨d::ds,?_,by rw [length_cons,length_cons,b2],fun d' h'=> ?_,?_,?_⟩
  ·simp only [RdAs];exact⟨x,xs,rfl,a1,b1⟩
  ·rcases mem_cons.mp h' with rfl|h'
   ·exact a2
   ·exact b3 d' h'
  ·simp only [PyData.hasDictAll,a3,b4,Bool.or_self]
  ·simp only [fV,a4,b5,Bool.or_self]
theorem Gd.tup (h:∀d∈ds,Gd n D d)(hm:ds.length<=m)(hk:m<=1000):Gd (m*(n+1)) (D+1) (.tuple ds):=by obtain⟨h1,h2,h3,h4,h5⟩:=Gd.all h;refine⟨by simp only [PyData.showable];exact h1,by simp only [PyData.leavesShort];exact h2,?_,by simp only [PyData.depth];omega,by simp only [kX,h5,Bool.and_true,decide_eq_true_eq];omega⟩;simp only [PyData.weight];exact le_trans h3 (Nat.mul_le_mul_right _ hm)
theorem Dp.tup (ha:H a=some (.tup xs))(h:∀x∈xs,Dp H n D x)(hm:xs.length<=m)(hk:m<=1000:=by first|decide|omega):Dp H (m*(n+1)) (D+1) (.ref a):=by obtain⟨ds,b1,b2,b3,b4,b5⟩:=Dp.all h;exact⟨.tuple ds,by simp only [RdA];exact⟨a,xs,rfl,ha,b1⟩,Gd.tup b3 (by omega) hk,by simp only [PyData.hasDict];exact b4,by simp only [eD];exact b5⟩
end L2
namespace L2
open PySem PyProof.Rows
mutual
theorem RdA.tp (e:∀a xs,H a=some (.tup xs)->H' a=some (.tup xs)):∀{d:PyData}{v:V},d.hasDict=false->eD d=false->RdA H d v->RdA H' d v
 | .none,_,_,_,h=>h
 | .bool _,_,_,_,h=>h
 | .int _,_,_,_,h=>h
 | .str _,_,_,_,h=>h
 | .list ds,_,_,hl,_=>by simp [eD]at hl
 | .dict kvs,_,hd,_,_=>by simp [PyData.hasDict]at hd
 | .tuple ds,_,hd,hl,h=>by
  simp only [RdA,PyData.hasDict,eD]at h hd hl⊢;obtain⟨a,xs,e',ha,hx⟩:=h;exact⟨a,xs,e',e _ _ ha,RdAs.tp e hd hl hx⟩
theorem RdAs.tp (e:∀a xs,H a=some (.tup xs)->H' a=some (.tup xs)):∀{ds:List PyData}{xs:List V},PyData.hasDictAll ds=false->fV ds=false->RdAs H ds xs->RdAs H' ds xs
 | [],_,_,_,h=>h
 |d::ds,_,hd,hl,h=>by
  simp only [RdAs,PyData.hasDictAll,fV,Bool.or_eq_false_iff]at h hd hl⊢;obtain⟨y,ys,e',h1,h2⟩:=h;exact⟨y,ys,e',RdA.tp e hd.1 hl.1 h1,RdAs.tp e hd.2 hl.2 h2⟩
end
theorem Dp.mid (i:Int)(h:i.natAbs<2048):Dp H 11 D (.int i):=Dp.int i (lt_of_lt_of_le h (by decide +kernel)) h (by decide)
end L2
namespace M07
open PySem L2 PyProof.Rows Grd Wlk Cyc Srt Set4
theorem A3i (h:PleA H p g w cs cl od):Dp H 1204 3 (.ref p):=by
 obtain⟨m,c,a,hp,⟨bs,hm,hB⟩,hc,⟨es,ha,hC⟩⟩:=h.ex;have hbl:bs.length=g.length:=Paired.length hB;have hel:es.length=cl.length:=Paired.length hC;have d1:Dp H 300 2 (.ref m):=by
  refine(Dp.tup (n:=32) (D:=1) (m:=3) hm (fun x hx=> ?_) (by rw [length_map,hbl];exact h.g3)).mono (by decide) (by decide);obtain⟨b,hb,rfl⟩:=mem_map.mp hx;obtain⟨i,hi⟩:=mem_iff_getElem?.mp hb;obtain⟨xs,hxs,e⟩:=gN hB hi;have hm:=mem_of_getElem? hxs;refine Dp.tup (n:=7) (D:=0) (m:=4) e (fun y hy=> ?_) (by rw [length_map,h.G.len xs hm];exact h.w4);obtain⟨n,hn,rfl⟩:=mem_map.mp hy;have:=h.G.num xs hm n hn;exact Dp.num n (by omega)
 have d2:Dp H 300 2 (.ref c):=by
  refine(Dp.tup (n:=7) (D:=0) (m:=6) hc (fun y hy=> ?_) (by rw [length_map];exact h.cu.l6)).mono (by decide) (by decide);obtain⟨n,hn,rfl⟩:=mem_map.mp hy;have:=h.cu.num n hn;exact Dp.num n (by omega)
 have d3:Dp H 300 2 (.ref a):=by
  refine Dp.tup (n:=24) (D:=1) (m:=12) ha (fun x hx=> ?_) (by rw [length_map,hel];exact h.ck.l12);obtain⟨b,hb,rfl⟩:=mem_map.mp hx;obtain⟨i,hi⟩:=mem_iff_getElem?.mp hb;obtain⟨e,he,ee⟩:=gN hC hi;have:=h.ck.num e (mem_of_getElem? he);refine Dp.tup (n:=7) (D:=0) (m:=3) ee (fun y hy=> ?_) (zjQ _);simp only [mem_cons,not_mem_nil,or_false]at hy;rcases hy with rfl|rfl|rfl<;>exact Dp.num _ (by omega)
 refine Dp.tup (n:=300) (D:=2) (m:=4) hp (fun x hx=> ?_) (zjQ _);simp only [mem_cons,not_mem_nil,or_false]at hx;rcases hx with rfl|rfl|rfl|rfl
 ·exact d1
 ·exact d2
 ·exact d3
 ·exact(Dp.mid (D:=2) od (by have:=h.o9;omega)).mono (by decide) (by decide)
theorem A3n (h:v∈(aV (fY cl)).map fun k:Nat=>V.int (k:Int)):∃i,v= .int i/\dL cl i=true:=by obtain⟨k,hk,rfl⟩:=mem_map.mp h;exact⟨_,rfl,(mem_mem4.mp hk).2⟩
theorem A17 (G:eY cl):1<=(aV (fY cl)).length/\(aV (fY cl)).length<=4:=by
 constructor
 ·obtain⟨c,t,e⟩:=exists_cons_of_ne_nil (show cl≠[]from fun z=>by have:=G.l1;rw [z]at this;cases this);have hc:c∈cl:=by rw [e];exact zjR
  have hn:=(G.num c hc).1;obtain⟨n,en⟩:=Int.eq_ofNat_of_zero_le hn.1;have hh:dL cl (n:Int)=true:=any_eq_true.mpr ⟨c,hc,zjV en⟩;exact List.length_pos_of_mem (mem_mem4.mpr ⟨by omega,hh⟩)
 ·unfold aV;have key:∀b0 b1 b2 b3:Bool,(L b0 b1 b2 b3).length<=4:=by decide
  exact key _ _ _ _
def mN (K:W.Frag):Sp:=fun vs H Q _=> ∃(a:Addr)(ns:List Int),vs=[.ref a]/\SqL K H a (ns.map V.int)/\ns.length<=63/\∀H',Q (.bl true) H'
abbrev wK:List Str:=["_law_script","_law_cell_here","_law_pen_here","_law_plea_here","_law_kept","_law_holder"]
abbrev A7a:List Stmt:=lC ((cD kD).getD 0 (.Pass ⟨0,0,0,0⟩))
section
variable {P:Program}{w:World}{K:W.Frag}{mg:Str->Option Value}{base:Heap}
theorem scLaw:gL wK ["_law_script"] (bE kD):=by ac_rfl
section
variable {f:Addr}{cdv:Value}{A:Around}{outer:List Env}{s:Shared}{H0:Hp}{E:XK}
abbrev XL (P:Program)(w:World)(K:W.Frag)(mg:Str->Option Value)(base:Heap)(f:Addr)(cdv:Value)(A:Around)(outer:List Env)(s:Shared)(H0:Hp)(E:XK):Cx:=(fA CX0 P w K mg base wK "law" (bE kD) f cdv A outer s H0 E).nox
theorem A42 (TD:TxD mg)(hr:Room 13 (XL P w K mg base f cdv A outer s H0 E).A)(aR:A1 P w K mg base 13 "_law_holder_right" oO)(aK:A1 P w K mg base 2 "_law_pick" fR)(aE:A1 P w K mg base 1 "_law_pen" nV)(aL:A1 P w K mg base 4 "_law_plea" oM)(aH:A1 P w K mg base 1 "_law_holders" rP):∃tt,PSs (XL P w K mg base f cdv A outer s H0 E) A7a tt/\
  ∀(D:dH)(o0 o2 o3 o4 o5:Option V)(i:Int)(H:Hp),(∀o2' o3' o4' o5' H',Same H H'->D.nx [o0,some (.int i),o2',o3',o4',o5'] H')->tt D [o0,some (.int i),o2,o3,o4,o5] H:=by
 have nd:=scLaw.nd;have hg:=hr.gd;have hu:=hr.units;refine⟨_,aU (bQ (i:=2) nd rfl (Or.inl rfl) (aE.c hr (aB (pv 1) aA)))<|
  aU (bQ (i:=3) nd rfl (Or.inl rfl) (aL.c hr (aB (pv 2) (cW aO aA))))<|
  aU (bQ (i:=4) nd rfl (Or.inl rfl) (bH (xD hg hu) rfl TD.repr boot_repr (aB (pv 3) aA)))<|
  aU (bQ (i:=5) nd rfl (Or.inl rfl) (aK.c hr (aB (pv 2) (bY (aH.c hr (fF (bK cA (pv 3) aO (fun _ _=>rfl)) aA)) aA))))<|
  aM (bR (PW.pt (iO (bZ (bP (aR.c hr (aB (pv 2) (aB (pv 3) (aB (pv 5) aA)))))) (jS (cI nQ (bH (xD hg hu) rfl TD.repr boot_repr (aB (pv 3) aA)) (pv 4) (nomark _))))) (aM (bA dA)) bU),fun D o0 o2 o3 o4 o5 i H hD=> ?_⟩
 refine⟨_,rfl,i,rfl,fun pn H1 hp0 s1 pen=> ?_⟩;refine⟨_,rfl,pn,rfl,pen,fun pl g w' cs cl od H2 st2 hP=> ?_⟩;obtain⟨dp,hp1,gp,dp1,dp2⟩:=A3i hP;have shw:Shw dp:=⟨gp.mono (by decide) (by decide),fun z=>by rw [dp1]at z;cases z⟩;obtain⟨m,c,a,hp,hm,hc,ha⟩:=hP.ex;refine⟨_,rfl,.ref pl,_,rfl,hp1,shw,?_⟩;refine⟨_,rfl,_,rfl,pl,_,2,_,rfl,rfl,SqT.of hp,rfl,a,cl,rfl,ha,hP.ck,fun lh H3 hlh s3 elh=> ?_⟩;have st3:=st2.same s3;have hl4:=A17 hP.ck;refine⟨pn,lh,_,rfl,st3.pen,st2.pen.fresh hlh,elh,by rw [length_map];omega,by rw [length_map];omega,fun v H4 hv st4=> ?_⟩;obtain⟨k,rfl,hk⟩:=A3n hv;have x4:=s3.ext.trans (st4.ext st3.pen);refine⟨_,rfl,_,rfl,_,rfl,pn,pl,g,w',cs,cl,od,k,rfl,st4.pen,hP.ext x4,hk,fun H5 st5=> ⟨_,rfl,bT ?_⟩⟩;have x5:=x4.trans (st5.ext st4.pen);refine⟨_,rfl,.ref pl,_,rfl,hp1.tp x5.tup dp1 dp2,shw,_,rfl,rfl,_,rfl,?_⟩;refine oH rfl ?_;exact hD _ _ _ _ H5 fun b u e=>((st3.trans st4).trans st5).keep b u (bL e hp0) (s1 _ _ e)
end
theorem A88 {f:Addr}{fd:FuncData}(F:Fun K "law" "law" kD f fd)(TD:TxD mg)(aR:A1 P w K mg base 13 "_law_holder_right" oO)(aK:A1 P w K mg base 2 "_law_pick" fR)(aE:A1 P w K mg base 1 "_law_pen" nV)(aL:A1 P w K mg base 4 "_law_plea" oM)(aH:A1 P w K mg base 1 "_law_holders" rP)
  (aZ:A1 P w K mg base 1 "_law_cell" (yS K)):FnOk P w K mg base CX0 14 f fd ["_law_script"] (mN K):=by
 refine F.ok scLaw (fun vs H Q E h=> ?_) (fun cdv A outer s H vs Q E hr h=> ?_)
 ·obtain⟨a,ns,rfl,_⟩:=h;rfl
 ·obtain⟨a,ns,rfl,hS,hlen,q⟩:=h;have nd:=scLaw.nd;obtain⟨tb,hb,rb⟩:=A42 (P:=P) (w:=w) (K:=K) (mg:=mg) (base:=base) (f:=f) (cdv:=cdv) (A:=A) (outer:=outer) (s:=s) (H0:=H) (E:=E) TD hr aR aK aE aL aH;refine⟨_,aU (eF PassesOwn.never rfl (dN (bD iS (dS (bY (aZ.c hr (aB (pv 0) (cW aO aA))) aA)) (gJ lA (pv 0) (gC aO) (gC aO)))) (nm1 1 nd) hb)<|
   aM (bA dA),?_⟩
  refine⟨_,rfl,a,ns,0,rfl,hS,by decide,fun c0=> ?_⟩;refine⟨by show 1<=sizeLine;decide,fun l0 hl0=> ?_⟩;have s0:=aQ (o:=.lst [.int c0]) hl0;refine⟨_,rfl,_,rfl,_,rfl,a,_,rfl,s0.seq hS,fun l1 hl1=> ?_⟩;have s1:=aQ (o:=.lst (cutV (ns.map V.int) (some 1) (some 3))) hl1;have hcl:=kC (ns.map V.int) (some 1) (some 3);rw [length_map]at hcl;refine⟨l0,l1,_,_,rfl,rfl,s1 _ _ aG,aG,by rw [sizeLine_eq];show 1+_<=_;omega,fun lc hlc=> ?_⟩;have e2:(upd (upd (upd H l0 (.lst [.int c0])) l1 (.lst (cutV (ns.map V.int) (some 1) (some 3)))) lc (.lst ([.int c0]++cutV (ns.map V.int) (some 1) (some 3)))) lc=some (.lst ([.int c0]++cutV (ns.map V.int) (some 1) (some 3))):=aG;generalize upd (upd (upd H l0 (.lst [.int c0])) l1 (.lst (cutV (ns.map V.int) (some 1) (some 3)))) lc (.lst ([.int c0]++cutV (ns.map V.int) (some 1) (some 3)))=H1 at e2⊢;refine⟨lc,rfl,⟨_,SqL.of e2⟩,?_⟩;refine gU (K:=K) (a:=lc) (xs:=[.int c0]++cutV (ns.map V.int) (some 1) (some 3)) (fun i σ H'=>(∃o1 o2 o3 o4 o5,σ=[some (.ref a),o1,o2,o3,o4,o5])/\Same H1 H')
   ⟨⟨_,_,_,_,_,rfl⟩,Same.refl _⟩ (fun i σ H' _ h=>SqL.of (h.2 _ _ e2)) ?_ ?_
  ·rintro i y σ H' hi ⟨⟨o1,o2,o3,o4,o5,rfl⟩,hs⟩;obtain⟨c,rfl⟩:∃c,y=V.int c:=by
    rcases mem_append.mp (mem_of_getElem? hi)with z|z
    ·exact⟨c0,mem_singleton.mp z⟩
    ·obtain⟨c,_,e⟩:=mem_map.mp (oI z);exact⟨c,e.symm⟩
   exact rb _ (some (.ref a)) o2 o3 o4 o5 c H' fun o2' o3' o4' o5' H2 s2=> ⟨⟨_,_,_,_,_,rfl⟩,hs.trans s2⟩
  ·rintro σ H' _;exact q H'
end
end M07
namespace M07
open PySem L2 PyProof.Rows Grd
theorem all_mk {l:W.OpenLaw}{w:World}{K:W.Frag}{h:Heap}{mg:Str->Option Value}{fa:Addr}{t0 t1 t2 t3 t4 t5 t6 t7 t8 t9 t10 t11:Tok}(X:K.In h)(G:h.Ns mainGlobals mg)(hfa:mg "law" =some (.ref fa))
  (q0:Fk K "is_number" yA)
  (q1:Fk K "is_number_within" vM)
  (q2:Fk K "is_tuple_within" uA)
  (q3:Fk K "places_of_cells" nW)
  (q4:Fk K "is_row" nX)
  (q5:Fk K "is_mead" mW)
  (q6:Fk K "check_mead" xR)
  (q7:Fk K "cells_of" tH)
  (q8:Fk K "roads_of" oX)
  (q9:Fk K "is_pair_of_numbers" pU)
  (q10:Fk K "is_cell" sN)
  (q11:Fk K "worth_together" kN)
  (q12:Fk K "places_beside" yM)
  (q13:Fk K "piece_round" lM)
  (q14:Fk K "is_rising" kO)
  (q15:Fk K "is_land" qB)
  (q16:Fk K "is_one_piece" yT)
  (q17:Fk K "has_some_of" rJ)
  (q18:Fk K "cells_at_road" pS)
  (q19:Fk K "is_custom" qN)
  (q20:Fk K "is_claim" vP)
  (q21:Fk K "are_claims" lJ)
  (q22:Fk K "check_custom" vH)
  (q23:Fk K "check_claims" yL)
  (q24:Fk K "stand_under" oR)
  (q25:Fk K "check_claims_under" zX)
  (q26:Fk K "is_holder" nO)
  (q27:Fk K "check_holder" tJ)
  (q28:Fk K "count_together" oV)
  (q29:Fk K "count_of" pW)
  (q30:Fk K "fraction" wO)
  (q31:Fk K "share_of" wP)
  (q32:Fk K "_law_cell" uC)
  (q33:Fk K "_law_pen" uW)
  (q34:Fk K "_law_draw" pA)
  (q35:Fk K "_law_pick" uU)
  (q36:Fk K "_law_same" jG)
  (q37:Fk K "_law_custom" oU)
  (q38:Fk K "_law_claims" nE)
  (q39:Fk K "_law_holders" pB)
  (q40:Fk K "_law_count" sS)
  (q41:Fk K "_law_total" oC)
  (q42:Fk K "_law_mead" iY)
  (q43:Fk K "_law_plea" wW)
  (q44:Fk K "is_odd" A0e)
  (q45:Fk K "is_plea" wZ)
  (q46:Fk K "check_plea" wQ)
  (q47:Fk K "check_plea_and_holder" zV)
  (q48:Fk K "whole_worth" vW)
  (q49:Fk K "due_of" zF)
  (q50:Fk K "rising_tuples" nM)
  (q51:Fk K "is_sound" tV)
  (q52:Fk K "sound_lands" oE)
  (q53:Fk K "worth_the_due" pF)
  (q54:Fk K "_law_next_to" sP)
  (q55:Fk K "_law_hangs" mJ)
  (q56:Fk K "_law_worth" uE)
  (q57:Fk K "_law_cells" pC)
  (q58:Fk K "_law_lands" nP)
  (q59:Fk K "_law_by_road" rW)
  (q60:Fk K "_law_fits" sQ)
  (q61:Fk K "check_land" tP)
  (q62:Fk K "is_fit" zY)
  (q63:Fk K "fits_holder" xS)
  (q64:Fk K "fit_lands" tT)
  (q65:Fk K "_law_fraction" zN)
  (q66:Fk K "_law_holder_right" sHR)
  (q67:Fk K "law" kD)
  (v0:W.nsIn K mainGlobals "MOST_ROWS" =some (some (.int 4 t0)))
  (v1:W.nsIn K mainGlobals "MOST_COLUMNS" =some (some (.int 6 t1)))
  (v2:W.nsIn K mainGlobals "MOST_CELLS" =some (some (.int 10 t2)))
  (v3:W.nsIn K mainGlobals "MOST_WORTH" =some (some (.int 99 t3)))
  (v4:W.nsIn K mainGlobals "WATER" =some (some (.int (-2) t4)))
  (v5:W.nsIn K mainGlobals "ROAD" =some (some (.int (-1) t5)))
  (v6:W.nsIn K mainGlobals "MOST_SORTS" =some (some (.int 6 t6)))
  (v7:W.nsIn K mainGlobals "MOST_COUNTED" =some (some (.int 100 t7)))
  (v8:W.nsIn K mainGlobals "MOST_HOLDERS" =some (some (.int 4 t8)))
  (v9:W.nsIn K mainGlobals "MOST_RIGHTS" =some (some (.int 20 t9)))
  (v10:W.nsIn K mainGlobals "MOST_CLAIMS" =some (some (.int 12 t10)))
  (v11:W.nsIn K mainGlobals "MOST_ODD" =some (some (.int 999 t11)))
  (z0:W.nsIn K mainGlobals "isinstance" =some none)
  (z1:W.nsIn K mainGlobals "int" =some none)
  (z2:W.nsIn K mainGlobals "bool" =some none)
  (z3:W.nsIn K mainGlobals "tuple" =some none)
  (z4:W.nsIn K mainGlobals "len" =some none)
  (z5:W.nsIn K mainGlobals "all" =some none)
  (z6:W.nsIn K mainGlobals "enumerate" =some none)
  (z7:W.nsIn K mainGlobals "range" =some none)
  (z8:W.nsIn K mainGlobals "list" =some none)
  (z9:W.nsIn K mainGlobals "zip" =some none)
  (z10:W.nsIn K mainGlobals "sum" =some none)
  (z11:W.nsIn K mainGlobals "dict" =some none)
  (z12:W.nsIn K mainGlobals "set" =some none)
  (z13:W.nsIn K mainGlobals "sorted" =some none)
  (z14:W.nsIn K mainGlobals "any" =some none)
  (z15:W.nsIn K mainGlobals "abs" =some none)
  (z16:W.nsIn K mainGlobals "reversed" =some none)
  (z17:W.nsIn K mainGlobals "repr" =some none):
  ∃fd:FuncData,(∀(s:Shared)(v:Value),BindsTo s fd ⟨[v],[]⟩ [("_law_script",v)])/\∀base:Heap,K.In base->base.Ns mainGlobals mg->FnOk l.prog w K mg base CX0 14 fa fd ["_law_script"] (mN K):=by
 have T0:Txt mg:=⟨W.mg_none_of X G z0,W.mg_none_of X G z1,W.mg_none_of X G z2,W.mg_none_of X G z3,W.mg_none_of X G z4,W.mg_none_of X G z5,W.mg_none_of X G z6,⟨_,W.mg_of X G v0⟩,⟨_,W.mg_of X G v1⟩,⟨_,W.mg_of X G v2⟩,⟨_,W.mg_of X G v3⟩,⟨_,W.mg_of X G v4⟩⟩;have T1:dY mg:=⟨W.mg_none_of X G z7,W.mg_none_of X G z8,W.mg_none_of X G z9,W.mg_none_of X G z10,W.mg_none_of X G z11,W.mg_none_of X G z12,W.mg_none_of X G z13,W.mg_none_of X G z14,W.mg_none_of X G z15,⟨_,W.mg_of X G v5⟩⟩;have T2:TxC mg:=⟨W.mg_none_of X G z0,W.mg_none_of X G z1,W.mg_none_of X G z2,W.mg_none_of X G z3,W.mg_none_of X G z4,W.mg_none_of X G z5,W.mg_none_of X G z14,W.mg_none_of X G z9,W.mg_none_of X G z7,W.mg_none_of X G z10,W.mg_none_of X G z8,W.mg_none_of X G z12,W.mg_none_of X G z13,⟨_,W.mg_of X G v6⟩,⟨_,W.mg_of X G v7⟩,⟨_,W.mg_of X G v8⟩,⟨_,W.mg_of X G v9⟩,⟨_,W.mg_of X G v10⟩⟩;have T3:TxD mg:=⟨W.mg_none_of X G z16,W.mg_none_of X G z17,⟨_,W.mg_of X G v11⟩⟩;obtain⟨_,F,hb⟩:=q67.law (y:="_law_script") X G hfa fun _ _ _ _ _ _ _=>rfl;refine⟨_,hb,fun base _ _=> ?_⟩;have g0:A1 l.prog w K mg base _ _ _:=A27 (q0.d X G) T0;have g1:=A8a (q1.d X G) g0;have g2:A1 l.prog w K mg base _ _ _:=A6n (q2.d X G) T0;have g3:A1 l.prog w K mg base _ _ _:=A1p (q3.d X G) T0;have g4:=A0z (q4.d X G) T0 g2 g1;have g5:=A6t (q5.d X G) T0 g2 g4 g3;have g6:=A50 (q6.d X G) g5;have g7:=A6w (q7.d X G) g6 g3;have g8:=A0m (q8.d X G) T0 T1 g6;have g9:=A74 (q9.d X G) T0 g2 g0;have g10:=A13 (q10.d X G) g9 g3;have g11:A1 l.prog w K mg base _ _ _:=A8v (q11.d X G) T1;have g12:A1 l.prog w K mg base _ _ _:=A9i (q12.d X G);have g13:=A1x (q13.d X G) T0 T1 g12;have g14:A1 l.prog w K mg base _ _ _:=A44 (q14.d X G) T0 T1;have g15:=A6l (q15.d X G) T0 g6 g10 g14;have g16:=A6f (q16.d X G) g13;have g17:A1 l.prog w K mg base _ _ _:=A5t (q17.d X G) T1;have g18:=A5c (q18.d X G) T1 g8 g7 g12;have g19:A1 l.prog w K mg base _ _ _:=A1u (q11.d X G) T1;have g20:A1 l.prog w K mg base _ _ _:=A9n (q14.d X G) T2;have g21:=A8n (q19.d X G) T2 g2 g1;have g22:=A3v (q20.d X G) T2 g2 g1;have g23:=A36 (q21.d X G) T2 g2 g22 g20;have g24:=A2f (q22.d X G) g21;have g25:=A1r (q23.d X G) g23;have g26:A1 l.prog w K mg base _ _ _:=A7q (q24.d X G) T2;have g27:=A4n (q25.d X G) g24 g25 g26;have g28:=A2z (q26.d X G) T2 g0;have g29:=A32 (q27.d X G) g28;have g30:A1 l.prog w K mg base _ _ _:=A8e (q28.d X G) T2;have g31:=A8r (q29.d X G) g27 g29 g30;have g32:A1 l.prog w K mg base _ _ _:=A6y (q30.d X G);have g33:=A25 (q31.d X G) g32 g31 g30;have g34:A1 l.prog w K mg base _ _ _:=A5w (q32.d X G) T2;have g35:A1 l.prog w K mg base _ _ _:=A7j (q33.d X G) T2;have g36:A1 l.prog w K mg base _ _ _:=A29 (q34.d X G) T2;have g37:=A0g (q35.d X G) T2 g36;have g38:A1 l.prog w K mg base _ _ _:=oQ (q36.d X G) T2 0;have g39:A1 l.prog w K mg base _ _ _:=oQ (q36.d X G) T2 1;have g40:A1 l.prog w K mg base _ _ _:=oQ (q36.d X G) T2 3;have g41:=A2n (q37.d X G) T2 g36 g37;have g42:=A4v (q38.d X G) T2 g36 g37;have g43:A1 l.prog w K mg base _ _ _:=A5z (q39.d X G) T2;have g44:A1 l.prog w K mg base _ _ _:=A9r (q40.d X G) T2;have g45:A1 l.prog w K mg base _ _ _:=A1c (q41.d X G) T2;have g46:=A2j (q42.d X G) T2 g36 g37;have g47:=A0t (q43.d X G) T2 g36 g37 g46 g41 g42;have g48:=A85 (q44.d X G) T3 g1;have g49:=A5p (q45.d X G) g2 g5 g21 g23 g26 g48;have g50:=A6u (q46.d X G) g49;have g51:=A59 (q47.d X G) g50 g29;have g52:=A78 (q48.d X G) g11 g7;have g53:=A1l (q49.d X G) g51 g33 g32 g52;have g54:A1 l.prog w K mg base _ _ _:=A7f (q50.d X G) T3;have g55:=A2l (q51.d X G) g17 g16;have g56:=A65 (q52.d X G) g18 g54 g7 g55;have g57:=A4q (q53.d X G) T1 g53 g19;have g58:A1 l.prog w K mg base _ _ _:=A6v (q54.d X G) T1;have g59:=A19 (q55.d X G) T2 g58;have g60:A1 l.prog w K mg base _ _ _:=A5b (q56.d X G);have g61:A1 l.prog w K mg base _ _ _:=A6i (q57.d X G) T0 T1;have g62:=A5o (q58.d X G) g61;have g63:=A3h (q59.d X G) T0 g58;have g64:=A6s (q60.d X G) T1 g45 g60 g61 g44 g59 g63;have g65:=A1a (q61.d X G) g15;have g66:=A3t (q62.d X G) g55 g18 g57;have g67:=A2s (q63.d X G) g51 g65 g66;have g68:=A0u (q64.d X G) g51 g56 g57;have g69:A1 l.prog w K mg base _ _ _:=A4t (q65.d X G);have g70:=A7x (q66.d X G) T1 g38 g39 g40 g37 g67 g68 g60 g61 g44 g53 g69 g45 g62 g64;exact A88 F T3 g70 g37 g35 g47 g43 g34
theorem walk {l:W.OpenLaw}{q:Program}{loose:List Str}{XP:(Str->Option Value)->Heap->Prop}{YP:World->Heap->Prop}{d:DefRec}{K:Params->W.Frag}(hn:l.most=some 63)(hdf:d.params.defaults=[])
  (hY:∀(w:World)(h:Heap),YP w h->(K w.params).In h)
  (F:∀(w:World)(mg:Str->Option Value)(fa:Addr)(h:Heap),(K w.params).In h->h.Ns mainGlobals mg->mg d.name=some (.ref fa)->
   ∃fd:FuncData,(∀(s:Shared)(u:Value),BindsTo s fd ⟨[u],[]⟩ [("_law_script",u)])/\∀base:Heap,(K w.params).In base->base.Ns mainGlobals mg->FnOk l.prog w (K w.params) mg base CX0 14 fa fd ["_law_script"] (mN (K w.params))):
  W.WalkO q loose XP YP l.row.toRowW d [] (fun f vs=>PySem.call f vs):=
 L2.walk_of (n:=63) (k:=14) (x:="_law_script") (CX:=fun _=>CX0) (sp:=fun w=>mN (K w.params)) hn (by decide) hdf ⟨rfl,by decide,by decide,rfl⟩ hY F (fun _ _ a ns hl _ hS=> ⟨a,ns,rfl,hS,hl,fun _=>rfl⟩) fun _ _ _ _ _ z=>z
end M07
open PySem PySem.W PyProof.Rows L2
namespace PySem.W.Fast
theorem tw1388734599840788281:True:=⟨⟩
theorem tw4300142851968942668:True:=⟨⟩
theorem tw16089128840190268916:True:=⟨⟩
theorem tw13464753329163483102:True:=⟨⟩
theorem tw5141787975836194454:True:=⟨⟩
theorem tw7394663795407852881:True:=⟨⟩
theorem tw17385667763442777919:True:=⟨⟩
theorem tw12024873556497733979:True:=⟨⟩
theorem tw1706372041496025369:True:=⟨⟩
theorem tw7321763230271021210:True:=⟨⟩
theorem tw15372695204731066980:True:=⟨⟩
theorem tw12416198813539685217:True:=⟨⟩
theorem tw5863207140016645038:True:=⟨⟩
theorem tw17253951785991914053:True:=⟨⟩
theorem tw13472323023129597575:True:=⟨⟩
theorem tw11613261817728680267:True:=⟨⟩
theorem tw9730566329268449382:True:=⟨⟩
theorem tw11378796756712026195:True:=⟨⟩
theorem tw13725643980232366090:True:=⟨⟩
theorem tw14246758133899658889:True:=⟨⟩
theorem tw16002149980462530882:True:=⟨⟩
theorem tw7945621051662937117:True:=⟨⟩
theorem tw14135378002785732889:True:=⟨⟩
theorem tw8109799651286745260:True:=⟨⟩
theorem tw5958387723447808665:True:=⟨⟩
theorem tw7206615377009664206:True:=⟨⟩
theorem tw12732830597968630363:True:=⟨⟩
theorem tw9064113971568450643:True:=⟨⟩
theorem tw1410059965388812750:True:=⟨⟩
theorem tw8619306150634762471:True:=⟨⟩
theorem tw16507957379358980340:True:=⟨⟩
theorem tw11552508879778783794:True:=⟨⟩
theorem tw13258843450065526534:True:=⟨⟩
theorem tw11259397984168799299:True:=⟨⟩
theorem tw15100371177698589543:True:=⟨⟩
theorem tw9932570922893173006:True:=⟨⟩
theorem tw2053581984348719608:True:=⟨⟩
theorem tw8404192502815833616:True:=⟨⟩
theorem tw10021579363233419611:True:=⟨⟩
theorem tw18148770824645403247:True:=⟨⟩
theorem tw140171132490574570:True:=⟨⟩
theorem tw398835662253061901:True:=⟨⟩
theorem tw12527573737554642684:True:=⟨⟩
theorem tw6416743969110353749:True:=⟨⟩
theorem tw2781662872269232558:True:=⟨⟩
theorem tw16070937481019334417:True:=⟨⟩
theorem tw10439378994058224033:True:=⟨⟩
theorem tw8490258658745938812:True:=⟨⟩
theorem tw3847410634776218754:True:=⟨⟩
theorem tw2873960556263896850:True:=⟨⟩
theorem tw17005524170458762492:True:=⟨⟩
theorem tw14326222970790023031:True:=⟨⟩
theorem tw2246228887417644232:True:=⟨⟩
theorem tw15938626183532162557:True:=⟨⟩
theorem tw10262908377399540212:True:=⟨⟩
theorem tw4341357987717883627:True:=⟨⟩
theorem tw5021451911534290361:True:=⟨⟩
theorem tw14250146213260161734:True:=⟨⟩
theorem tw13751447354229807440:True:=⟨⟩
theorem tw10655649355352388482:True:=⟨⟩
theorem tw7213589611573403682:True:=⟨⟩
theorem tw9886830435853642312:True:=⟨⟩
theorem tw11934160988697877115:True:=⟨⟩
theorem tw6282421940881315210:True:=⟨⟩
theorem tw9357086081203141444:True:=⟨⟩
theorem tw9928641881734655770:True:=⟨⟩
theorem tw7209849826137167253:True:=⟨⟩
theorem tw6587985706162470981:True:=⟨⟩
theorem tw6667758889983794449:True:=⟨⟩
theorem tw8533223786128282:True:=⟨⟩
theorem tw14095409900691505402:True:=⟨⟩
theorem tw11858063786191121006:True:=⟨⟩
theorem tw662257114300626049:True:=⟨⟩
theorem tw1590328032618935213:True:=⟨⟩
theorem tw553120670779204825:True:=⟨⟩
theorem tw12645276927259280512:True:=⟨⟩
theorem tw2504210471808993751:True:=⟨⟩
theorem tw6476072389877020548:True:=⟨⟩
theorem tw10586527904077399952:True:=⟨⟩
theorem tw10721747445461362610:True:=⟨⟩
theorem tw3014342679493923446:True:=⟨⟩
theorem tw1927708003299568573:True:=⟨⟩
theorem tw7664065968401914038:True:=⟨⟩
theorem tw16562897222867435820:True:=⟨⟩
theorem tw3609455248315755651:True:=⟨⟩
theorem tw14401954007425403229:True:=⟨⟩
theorem tw6286822818799894853:True:=⟨⟩
theorem tw17202556976334921810:True:=⟨⟩
theorem tw17380515934778287492:True:=⟨⟩
theorem tw10188006561606056703:True:=⟨⟩
theorem tw2153182459468847339:True:=⟨⟩
theorem tw16036009482537889833:True:=⟨⟩
theorem tw1577268090855137854:True:=⟨⟩
theorem tw11119051145905207908:True:=⟨⟩
theorem tw10177735882577484528:True:=⟨⟩
theorem tw4031917362512685008:True:=⟨⟩
theorem tw7560114308717640388:True:=⟨⟩
theorem tw10665561094453688320:True:=⟨⟩
theorem tw13836397173419593053:True:=⟨⟩
theorem tw15376044347286255511:True:=⟨⟩
theorem tw12813422552337840124:True:=⟨⟩
theorem tw3689740785228728228:True:=⟨⟩
theorem tw1510063298530518086:True:=⟨⟩
theorem tw1814608336216834947:True:=⟨⟩
theorem tw12170247041961683375:True:=⟨⟩
theorem tw7199041130172776713:True:=⟨⟩
theorem tw17253059145211320130:True:=⟨⟩
theorem tw11309054005890653043:True:=⟨⟩
theorem tw6985243033640246523:True:=⟨⟩
theorem tw18049082639453527317:True:=⟨⟩
theorem tw1735280775692303367:True:=⟨⟩
theorem tw1234105264683532584:True:=⟨⟩
theorem tw9994261499301184294:True:=⟨⟩
theorem tw13542003064661249116:True:=⟨⟩
theorem tw2017209428708338305:True:=⟨⟩
theorem tw2272078339601836619:True:=⟨⟩
theorem tw8785844592127512578:True:=⟨⟩
theorem tw11111077966257501644:True:=⟨⟩
theorem tw1816426630449448099:True:=⟨⟩
theorem tw11800324730299123774:True:=⟨⟩
theorem tw4607068228658882324:True:=⟨⟩
theorem tw8438818990421306181:True:=⟨⟩
theorem tw11280039809874556358:True:=⟨⟩
theorem tw17446550724439421343:True:=⟨⟩
theorem tw4569593214182542191:True:=⟨⟩
theorem tw890477038259858538:True:=⟨⟩
theorem tw16983231405824647177:True:=⟨⟩
theorem tw4417292523297166341:True:=⟨⟩
theorem tw4152886864949043437:True:=⟨⟩
theorem tw3657549523801079378:True:=⟨⟩
theorem tw10883201715848011313:True:=⟨⟩
theorem tw17457350990502502839:True:=⟨⟩
theorem tw5534747031551173739:True:=⟨⟩
theorem tw6670775086826043605:True:=⟨⟩
theorem tw4992790314644293098:True:=⟨⟩
theorem tw6741846972481809604:True:=⟨⟩
theorem tw2702802535157058305:True:=⟨⟩
theorem tw1978407270601527138:True:=⟨⟩
theorem tw3731026131083865722:True:=⟨⟩
theorem tw18099273628316695699:True:=⟨⟩
theorem tw10747845751688199685:True:=⟨⟩
theorem tw5038819570754432093:True:=⟨⟩
theorem tw17021810755462194110:True:=⟨⟩
theorem tw3729471690393438997:True:=⟨⟩
theorem tw1741214957167422443:True:=⟨⟩
theorem tw4127835068338914107:True:=⟨⟩
theorem tw19122528613975594:True:=⟨⟩
theorem tw17788602438215999375:True:=⟨⟩
theorem tw18390081184090998772:True:=⟨⟩
theorem tw15936602910566499763:True:=⟨⟩
theorem tw10914966475007588415:True:=⟨⟩
theorem tw4168178532487071081:True:=⟨⟩
theorem tw3442061834155664793:True:=⟨⟩
theorem tw9262818053076852652:True:=⟨⟩
theorem tw18212470984557919507:True:=⟨⟩
theorem tw5047850653060348988:True:=⟨⟩
theorem tw16985295445949883630:True:=⟨⟩
theorem tw867462138343684958:True:=⟨⟩
theorem tw15647382100422781328:True:=⟨⟩
theorem tw16159888567114519313:True:=⟨⟩
theorem tw16095821804917888790:True:=⟨⟩
theorem tw14500161728921514598:True:=⟨⟩
theorem tw6140385782745705160:True:=⟨⟩
theorem tw7007279899691663440:True:=⟨⟩
theorem tw16880375650521809708:True:=⟨⟩
theorem tw7196241538823658677:True:=⟨⟩
theorem tw15729543150612947637:True:=⟨⟩
theorem tw11915123881341759711:True:=⟨⟩
theorem tw12618259341718747722:True:=⟨⟩
theorem tw2430919772593606924:True:=⟨⟩
theorem tw5549083262214337125:True:=⟨⟩
theorem tw3994054698983699407:True:=⟨⟩
theorem tw17255448522825464521:True:=⟨⟩
theorem tw18417360811022109749:True:=⟨⟩
theorem tw4804192966103431329:True:=⟨⟩
theorem tw11273045949578086917:True:=⟨⟩
theorem tw2403215021597599143:True:=⟨⟩
theorem tw15972706663645094406:True:=⟨⟩
theorem tw9841068475828222480:True:=⟨⟩
theorem tw1322676625404336190:True:=⟨⟩
theorem tw13791508472825951357:True:=⟨⟩
theorem tw7236658933640413709:True:=⟨⟩
theorem tw15187649862830477645:True:=⟨⟩
theorem tw9848518437134388617:True:=⟨⟩
theorem tw13773350417450438506:True:=⟨⟩
theorem tw12543231175979360938:True:=⟨⟩
theorem tw4263045397943623448:True:=⟨⟩
theorem tw6529643998006615130:True:=⟨⟩
theorem tw3650038244409397124:True:=⟨⟩
theorem tw11450205671642417932:True:=⟨⟩
theorem tw7723046076004948394:True:=⟨⟩
theorem tw11516173081607187344:True:=⟨⟩
theorem tw9402119572427162573:True:=⟨⟩
theorem tw9644426035977770676:True:=⟨⟩
theorem tw14493420835781222541:True:=⟨⟩
theorem tw16807251217542102323:True:=⟨⟩
theorem tw4173710363095260402:True:=⟨⟩
theorem tw13699421191465174245:True:=⟨⟩
theorem tw7535630832214877276:True:=⟨⟩
theorem tw14340190902813581753:True:=⟨⟩
theorem tw9745855700224444569:True:=⟨⟩
theorem tw7945964104521412474:True:=⟨⟩
theorem tw8140482114228872804:True:=⟨⟩
theorem tw8460592787439716372:True:=⟨⟩
theorem tw3239275266605378002:True:=⟨⟩
theorem tw9182767152413658227:True:=⟨⟩
theorem tw9574801578941992723:True:=⟨⟩
theorem tw6465820034228863440:True:=⟨⟩
theorem tw1632988437979287303:True:=⟨⟩
theorem tw5770418761567518251:True:=⟨⟩
theorem tw14631310082991566809:True:=⟨⟩
theorem tw17848419661713466951:True:=⟨⟩
theorem tw3156610394441100346:True:=⟨⟩
theorem tw17657051278298091497:True:=⟨⟩
theorem tw3509209179405853785:True:=⟨⟩
theorem tw2081114175483649785:True:=⟨⟩
theorem tw52169330282592553:True:=⟨⟩
theorem tw11719593359313932801:True:=⟨⟩
theorem tw8828198002223132517:True:=⟨⟩
theorem tw11516360896936710930:True:=⟨⟩
theorem tw11541363617213064490:True:=⟨⟩
theorem tw11005355459872326158:True:=⟨⟩
theorem tw5178311338871353618:True:=⟨⟩
theorem tw18304558327119462957:True:=⟨⟩
theorem tw9945158708385304461:True:=⟨⟩
theorem tw7066065360449583184:True:=⟨⟩
theorem tw2599443322292925360:True:=⟨⟩
theorem tw8669825598387365370:True:=⟨⟩
theorem tw2553582143601748698:True:=⟨⟩
theorem tw13716357024202211860:True:=⟨⟩
theorem tw782412375550104464:True:=⟨⟩
theorem tw4031257141468093422:True:=⟨⟩
theorem tw13199049575216557077:True:=⟨⟩
theorem tw8607572135013371705:True:=⟨⟩
theorem tw6071767460239769429:True:=⟨⟩
theorem tw16451110261551563812:True:=⟨⟩
theorem tw5657008067414917116:True:=⟨⟩
theorem tw12941666094588693952:True:=⟨⟩
theorem tw11043600210006593060:True:=⟨⟩
theorem tw3037579843616207520:True:=⟨⟩
theorem tw1853280812707287551:True:=⟨⟩
theorem tw845928442813439871:True:=⟨⟩
theorem tw1851665296147246639:True:=⟨⟩
theorem tw9829503846142262585:True:=⟨⟩
theorem tw9784008300148119113:True:=⟨⟩
theorem tw2256378228259014657:True:=⟨⟩
theorem tw2491727303469333981:True:=⟨⟩
theorem tw8031905026379431510:True:=⟨⟩
theorem tw17288841799628933632:True:=⟨⟩
theorem tw10818405403000713630:True:=⟨⟩
theorem tw13946152193030444921:True:=⟨⟩
theorem tw10981162020629294185:True:=⟨⟩
theorem tw4560383893862980085:True:=⟨⟩
theorem tw3598727775205600912:True:=⟨⟩
theorem tw14789330465848716868:True:=⟨⟩
theorem tw7848956309978401094:True:=⟨⟩
theorem tw17616998297534208007:True:=⟨⟩
theorem tw12454062370458069225:True:=⟨⟩
theorem tw3474256939959200130:True:=⟨⟩
theorem tw3123419373620710726:True:=⟨⟩
theorem tw14731901510765418780:True:=⟨⟩
theorem tw2719000181625967277:True:=⟨⟩
theorem tw14998995741963532758:True:=⟨⟩
theorem tw5754618266109999127:True:=⟨⟩
theorem tw15582004408108934782:True:=⟨⟩
theorem tw12954447230491321777:True:=⟨⟩
theorem tw5402614429515497461:True:=⟨⟩
theorem tw15206478975494656618:True:=⟨⟩
theorem tw10672415493857408815:True:=⟨⟩
theorem tw9799354116301658744:True:=⟨⟩
theorem tw13790597012478468840:True:=⟨⟩
theorem tw8655733663324136216:True:=⟨⟩
theorem tw16476217867689512516:True:=⟨⟩
theorem tw574609280656751700:True:=⟨⟩
theorem tw15763854717726245225:True:=⟨⟩
theorem tw1401169428166455428:True:=⟨⟩
theorem tw2098924648688618919:True:=⟨⟩
theorem tw15331972168511157820:True:=⟨⟩
theorem tw18273162434498923776:True:=⟨⟩
theorem tw16077589216280867661:True:=⟨⟩
theorem tw11329078718827084276:True:=⟨⟩
theorem tw4738432691551612602:True:=⟨⟩
theorem tw4197093937262549352:True:=⟨⟩
theorem tw6104761184948526882:True:=⟨⟩
theorem tw15994600162633402510:True:=⟨⟩
end PySem.W.Fast
set_option maxRecDepth 100000 in
set_option maxHeartbeats 0 in
theorem PySem.Challenge.cw_meadshares_k07_dues_and_fitting_holds : PySem.Challenge.rw_meadshares_k07_dues_and_fitting.Holds := by
 w_on;o_law;k_head;(case hw=>w_witness2)
 k_fill
 refine' M07.walk (l:=PySem.Challenge.rw_meadshares_k07_dues_and_fitting) rfl rfl (fun w h Y=>PySem.W.kIn_of Y) ?F
 case F=>
  intro w mg fa h KX G hmg
  refine' M07.all_mk KX G hmg ?q0 ?q1 ?q2 ?q3 ?q4 ?q5 ?q6 ?q7 ?q8 ?q9 ?q10 ?q11 ?q12 ?q13 ?q14 ?q15 ?q16 ?q17 ?q18 ?q19 ?q20 ?q21 ?q22 ?q23 ?q24 ?q25 ?q26 ?q27 ?q28 ?q29 ?q30 ?q31 ?q32 ?q33 ?q34 ?q35 ?q36 ?q37 ?q38 ?q39 ?q40 ?q41 ?q42 ?q43 ?q44 ?q45 ?q46 ?q47 ?q48 ?q49 ?q50 ?q51 ?q52 ?q53 ?q54 ?q55 ?q56 ?q57 ?q58 ?q59 ?q60 ?q61 ?q62 ?q63 ?q64 ?q65 ?q66 ?q67 ?v0 ?v1 ?v2 ?v3 ?v4 ?v5 ?v6 ?v7 ?v8 ?v9 ?v10 ?v11 ?z0 ?z1 ?z2 ?z3 ?z4 ?z5 ?z6 ?z7 ?z8 ?z9 ?z10 ?z11 ?z12 ?z13 ?z14 ?z15 ?z16 ?z17
  (case q0|q1|q2|q3|q4|q5|q6|q7|q8|q9|q10|q11|q12|q13|q14|q15|q16|q17|q18|q19|q20|q21|q22|q23|q24|q25|q26|q27|q28|q29|q30|q31|q32|q33|q34|q35|q36|q37|q38|q39|q40|q41|q42|q43|q44|q45|q46|q47|q48|q49|q50|q51|q52|q53|q54|q55|q56|q57|q58|q59|q60|q61|q62|q63|q64|q65|q66|q67=>refine' A0o ?a ?l ?c ?k;(case a|l|c|k=>k_is))
  (case v0|v1|v2|v3|v4|v5|v6|v7|v8|v9|v10|v11|z0|z1|z2|z3|z4|z5|z6|z7|z8|z9|z10|z11|z12|z13|z14|z15|z16|z17=>k_is)