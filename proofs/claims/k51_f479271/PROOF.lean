import PyProof.Rows.All
import Wide.All
import OpenK.AllK
import Wide.FinOn
import Lean
import PyProof.EqAt
import PyProof.EqKinds
import PyProof.TupleCall
import KE.LcSums
import KE.KDictOf
import PyProof.Cells
import PyProof.ZipIter
import KE.KTryMore
import KE.KSortTup
import PyProof.Rows.SortRuns
import PyProof.DictItems
import PyProof.NeKinds
import PyProof.Rows.SetFrom
import PyProof.CollectWalk
import KE.KSortedM
import KE.KRevIter
import PyProof.WalkInts
import PyProof.WalksMore
import KE.RegKIsAll
import PySem.Challenge.RW_meadshares_k51_who_would_exchange
set_option Elab.async false
set_option linter.all false
set_option maxRecDepth 100000
open List (all_cons all_eq_true all_map all_nil any_cons any_eq_true any_map append_assoc append_nil concat_eq_append countP_cons drop_of_length_le drop_sublist drop_zero eq_nil_of_length_eq_zero eq_nil_or_concat ext_getElem filter filter_append filter_cons filter_cons_of_neg filter_cons_of_pos filter_map filter_nil filter_sublist find?_cons findIdx? flatten_cons foldl foldl_cons forIn_cons forIn_nil getD_eq_getElem?_getD getElem?_append_left getElem?_append_right getElem?_drop getElem?_eq_getElem getElem?_map getElem?_replicate getElem_drop getElem_mem getElem_of_mem getElem_take length_append length_cons length_drop length_filter_le length_map length_nil length_range length_singleton length_take length_zip lookup lookup_append lookup_cons map_append map_congr_left map_cons map_id map_map map_nil mem_append mem_append_left mem_append_right mem_cons mem_filter mem_filterMap mem_flatten mem_iff_getElem mem_iff_getElem? mem_map mem_of_getElem? mem_of_mem_drop mem_of_mem_take mem_range mem_reverse mem_singleton mem_zipIdx_iff_getElem? nil_append nodup_append nodup_cons nodup_iff_pairwise_ne nodup_nil not_mem_nil of_mem_zip pairwise_append pairwise_cons pairwise_iff_getElem pairwise_map pairwise_singleton perm_append_comm replicate replicate_succ size_toArray sublist_nil sum_cons take_append_drop take_of_length_le take_sublist take_succ take_zero toArray zipIdx_cons zipIdx_nil zip_cons_cons)
open PySem.Heap (get?_push_size get?_update_other get?_update_self size_push size_update)
open Nat (add_sub_cancel eq_or_lt_of_le le_add_right le_of_eq le_of_lt le_succ le_trans lt_irrefl lt_of_le_of_lt lt_of_lt_of_le lt_of_succ_lt lt_or_ge lt_succ_of_lt lt_succ_self lt_trans mod_lt mul_comm ne_of_gt ne_of_lt not_lt pow_le_pow_right zero_add zero_le)
def zjZ:=@PySem.wpAny_bind
def zjY:=@PySem.wpAny_pure
def zjX:=@PySem.Heap.get?_push_of_some
def zjW:=@List.getElem?_eq_some_iff
def zjV:=@decide_eq_true
def zjU:=@decide_eq_false
def zjT:=@PySem.Heap.lt_size
def zjS:=@List.mem_cons_of_mem
def zjR:=@List.mem_cons_self
def zjQ:=@Nat.le_refl
set_option hygiene false
local macro_rules | `(tactic| ac_nf) => `(tactic| intro nd f cdv A outer s H vs Q E hr h)
set_option hygiene true
local macro_rules | `(tactic| ac_rfl) => `(tactic| exact ⟨rfl, rfl, rfl, by decide +kernel, rfl, by decide +kernel, by decide +kernel⟩)
local macro_rules | `(tactic| omega) => `(tactic| lia)
namespace L2
open PySem PySem.Spec PyProof.Rows
noncomputable abbrev Key:=Sum Int Str
noncomputable def kC:Key->Value->Bool
 | .inl k,v=>Value.isInt k v
 | .inr x,v=>Value.isStrOf x v
noncomputable def A9a (w:World):Key->Int
 | .inl k=>hashInt k
 | .inr x=>hashStr w x
theorem keyIs_shape:∀{k:Key}{v:Value},kC k v=true->(∃i t,k=Sum.inl i/\v=Value.int i t)\/(∃x t,k=Sum.inr x/\v=Value.str x t)
 | .inl i,v,h=>by
  obtain⟨t,e⟩:=Value.isInt_shape (k:=i) (v:=v) h;exact .inl ⟨i,t,rfl,e⟩
 | .inr x,v,h=>by
  obtain⟨t,e⟩:=Value.isStrOf_shape (x:=x) (v:=v) h;exact .inr ⟨x,t,rfl,e⟩
theorem A7j (i:Int)(t:Tok):kC (.inl i) (.int i t)=true:=by simp[kC,Value.isInt]
theorem A9q (x:Str)(t:Tok):kC (.inr x) (.str x t)=true:=by simp[kC,Value.isStrOf]
theorem A7t (a b:Int):decide ((Sum.inl a:Key)=Sum.inl b)=(a==b):=by
 by_cases e:a=b
 ·subst e;simp
 ·have h:¬(Sum.inl a:Key)=Sum.inl b:=λq=>e (Sum.inl.inj q);rw[zjU h];exact(beq_eq_false_iff_ne.mpr e).symm
theorem A9x (a b:Str):decide ((Sum.inr a:Key)=Sum.inr b)=decide (a=b):=by
 by_cases e:a=b
 ·subst e;simp
 ·have h:¬(Sum.inr a:Key)=Sum.inr b:=λq=>e (Sum.inr.inj q);rw[zjU h,zjU e]
theorem B0u (a:Int)(b:Str):decide ((Sum.inl a:Key)=Sum.inr b)=false:=zjU (λq=>nomatch q)
theorem B1v (a:Str)(b:Int):decide ((Sum.inr a:Key)=Sum.inl b)=false:=zjU (λq=>nomatch q)
noncomputable def cS (prog:Program)(w:World):PySem.KeyKind prog w Key where
 is:=kC
 hash:=A9a w
 inj:=λv a b ha hb=>by
  rcases keyIs_shape ha with⟨i,t,rfl,rfl⟩| ⟨x,t,rfl,rfl⟩
  ·rcases keyIs_shape hb with⟨j,u,rfl,e⟩| ⟨y,u,rfl,e⟩
   ·injection e with e1 _;rw[e1]
   ·exact nomatch e
  ·rcases keyIs_shape hb with⟨j,u,rfl,e⟩| ⟨y,u,rfl,e⟩
   ·exact nomatch e
   ·injection e with e1 _;rw[e1]
 byValue:=λk v h=>by
  rcases keyIs_shape h with⟨i,t,rfl,rfl⟩| ⟨x,t,rfl,rfl⟩<;>rfl
 pyHash:=λhv h=>by
  rcases keyIs_shape hv with⟨i,t,rfl,rfl⟩| ⟨x,t,rfl,rfl⟩
  ·exact wpAny_pyHash_int h
  ·exact wpAny_pyHash_str h
 eqBool:=λhu hv h=>by
  rcases keyIs_shape hu with⟨i,t,rfl,rfl⟩| ⟨x,t,rfl,rfl⟩
  ·rcases keyIs_shape hv with⟨j,u,rfl,rfl⟩| ⟨y,u,rfl,rfl⟩
   ·rw[A7t]at h;exact wpAny_eqBool_int h
   ·rw[B0u]at h;exact SeqAt.EqAt.int_str i t y u _ _ _ _ h
  ·rcases keyIs_shape hv with⟨j,u,rfl,rfl⟩| ⟨y,u,rfl,rfl⟩
   ·rw[B1v]at h;exact SeqAt.EqAt.str_int x t j u _ _ _ _ h
   ·rw[A9x]at h;exact wpAny_eqBool_str h
 «strs»:=λk x t v h=>by
  rcases keyIs_shape h with⟨i,u,rfl,e⟩| ⟨y,u,rfl,e⟩
  ·exact nomatch e
  ·injection e with e1 _;subst e1;cases v<;>rfl
theorem A7g (prog:Program)(w:World)(i:Int)(t:Tok):(cS prog w).is (.inl i) (.int i t)=true:=A7j i t
theorem A91 (prog:Program)(w:World)(x:Str)(t:Tok):(cS prog w).is (.inr x) (.str x t)=true:=A9q x t
inductive V where
 |non|bl (b:Bool)|int (i:Int)|str (x:Str)|byt (b:Array UInt8)|flt (b:UInt64)|ref (a:Addr)|ty (n:String)
 deriving DecidableEq
noncomputable def RelV:V->Value->Prop
 | .non,u=>u=Value.none
 | .bl b,u=>u=Value.bool b
 | .int i,u=> ∃t,u=Value.int i t
 | .str x,u=> ∃t,u=Value.str x t
 | .byt b,u=> ∃t,u=Value.bytes b t
 | .flt b,u=> ∃t,u=Value.float b t
 | .ref a,u=>u=Value.ref a
 | .ty n,u=>u=Value.type n
noncomputable abbrev Vals:List V->List Value->Prop:=Paired RelV
theorem Vals.length {xs:List V}{us:List Value}(r:Vals xs us):xs.length=us.length:=Paired.length r
theorem Vals.get:∀{xs:List V}{us:List Value}{i:Nat}{x:V},Vals xs us->xs[i]?=some x->∃u,us[i]?=some u/\RelV x u
 |_,_,_,_,.nil,e=>by simp at e
 |_,_,0,_,.cons r _,e=>by simp at e;subst e;exact⟨_,rfl,r⟩
 |_,_,i+1,x,.cons _ t,e=>by
  obtain⟨u,h1,h2⟩:=Vals.get (i:=i) (x:=x) t (by simpa using e);exact⟨u,by simpa using h1,h2⟩
theorem Vals.set {x:V}{u:Value}(r:RelV x u):∀{xs:List V}{us:List Value}(i:Nat),Vals xs us->Vals (xs.set i x) (us.set i u)
 |_,_,_,.nil=> .nil
 |_,_,0,.cons _ t=> .cons r t
 |_,_,i+1,.cons q t=> .cons q (Vals.set r i t)
theorem Vals.append:∀{xs ys:List V}{us ws:List Value},Vals xs us->Vals ys ws->Vals (xs++ys) (us++ws)
 |_,_,_,_,.nil,s=>s
 |_,_,_,_,.cons r t,s=> .cons r (Vals.append t s)
theorem Vals.take:∀{xs:List V}{us:List Value}(n:Nat),Vals xs us->Vals (xs.take n) (us.take n)
 |_,_,0,_=> .nil
 |_,_,_+1,.nil=> .nil
 |_,_,n+1,.cons r t=> .cons r (Vals.take n t)
theorem Vals.drop:∀{xs:List V}{us:List Value}(n:Nat),Vals xs us->Vals (xs.drop n) (us.drop n)
 |_,_,0,r=>r
 |_,_,_+1,.nil=> .nil
 |_,_,n+1,.cons _ t=>Vals.drop n t
noncomputable def RelO:Option V->Option Value->Prop
 |some v,some u=>RelV v u
 |none,none=>True
 |_,_=>False
noncomputable def KV {κ:Type}:List (κ×V)->List (κ×Value)->Prop:=Paired λ(p:κ×V) (q:κ×Value)=>p.1=q.1/\RelV p.2 q.2
noncomputable def kV:Key->V
 | .inl i=> .int i
 | .inr x=> .str x
inductive HO where
  |lst (xs:List V)
  |tup (xs:List V)
  |dK (kvs:List (Key×V))|dT (kvs:List (List Key×V))
  |set (S:Int->Bool) (n:Nat)
  |ins (C dx:Addr) (fs:List (Str×V))
  |own (x:Addr)
  |xd (fs:List (Str×V))
  |met (f x:Addr)
  |rng (lo hi:Int)
  |frz (o:Obj) (u:HO)
  |tbl (ps:Array Value)
  |ext (φ:Heap->Prop)
noncomputable abbrev Hp:=Addr->Option HO
noncomputable def upd (H:Hp)(a:Addr)(o:HO):Hp:=λb=>if b=a then some o else H b
theorem aJ {H:Hp}{a:Addr}{o:HO}:upd H a o a=some o:=by unfold upd;rw[if_pos rfl]
theorem aY {H:Hp}{a b:Addr}{o:HO}(h:b≠a):upd H a o b=H b:=by unfold upd;rw[if_neg h]
theorem pU {H:Hp}{a b:Addr}{o u:HO}(h:H a=some o)(h':H b=some u)(d:o≠u):a≠b:=by intro e;subst e;rw[h]at h';exact d (Option.some.inj h')
theorem bH {H:Hp}{a b:Addr}{o:HO}(h:H a=some o)(h':H b=none):a≠b:=by intro e;subst e;rw[h]at h';cases h'
section
variable (P:Program)(w:World)
noncomputable def ObjOk (H:Hp)(h:Heap)(a:Addr):HO->Prop
 | .lst xs=>xs.length<=sizeLine/\∃(its:List Value)(n:Nat),Vals xs its/\h.get? a=some {cls:=.type "list",data:=.seq its.toArray n}
 | .tup xs=>xs.length<=sizeLine/\∃its:List Value,Vals xs its/\IsTup h a its.toArray
 | .dK kvs=>kvs.length<=sizeLine/\(a==sysModules)=false/\∃vs,KV kvs vs/\h.DictOf (cS P w) a vs
 | .dT kvs=>kvs.length<=sizeLine/\(a==sysModules)=false/\∃xs:List (List Key×Addr×Value),
   Paired (λ(p:List Key×V) (q:List Key×Addr×Value)=>p.1=q.1/\H q.2.1=some (.tup (p.1.map kV))/\RelV p.2 q.2.2) kvs xs/\
   ∃o es ep,h.get? a=some o/\o.ExactDict/\o.data= .dict es ep/\es.toList=xs.map (entryOfKey (tupleKind (cS P w)))/\(xs.map (·.1)).Nodup
 | .set S n=>h.SetOf (intKind P w) a S n
 | .ins C dx fs=>H dx=some (.own a)/\fs.length<=1000/\dx≠a/\h.get? a=some (W.instObj C dx)/\
   ∃mA,h.Ns1 dx mA/\(∀f,RelO (fs.lookup f) (mA f))/\PySem.Within mA (fs.map (·.1))
 | .own _=> ∃o,h.get? a=some o
 | .xd fs=> ∃mA,h.Ns1 a mA/\∀f,RelO (fs.lookup f) (mA f)
 | .rng lo hi=> ∃t u v,h.get? a=some {cls:=.type "range",data:=.fields #[.int lo t,.int hi u,.int 1 v]}
 | .frz o u=>h.get? a=some o/\ObjOk H h a u
 | .tbl ps=>h.get? a=some {cls:=.none,data:=.fields ps}
 | .met f x=>h.get? a=some (W.methodObj (.ref f) (.ref x))
 | .ext φ=>φ h/\(∃o,h.get? a=some o)/\∀h1 h2:Heap,φ h1->(∀o,h1.get? a=some o->h2.get? a=some o)->φ h2
noncomputable def HOk (H:Hp)(h:Heap):Prop:=∀a o,H a=some o->ObjOk P w H h a o
end
section
variable {P:Program}{w:World}{H H':Hp}{h h':Heap}{a:Addr}{o:HO}
theorem ObjOk.lt (x:ObjOk P w H h a o):a<h.objs.size:=by
 cases o with
 |lst xs=>obtain⟨_,_,_,_,e⟩:=x;exact zjT e
 |tup xs=>obtain⟨_,_,_,p⟩:=x;exact p.lt
 |dK kvs=>obtain⟨_,_,_,_,o,_,_,e,_⟩:=x;exact zjT e
 |dT kvs=>obtain⟨_,_,_,_,o,_,_,e,_⟩:=x;exact zjT e
 |set S n=>obtain⟨o,_,_,_,e,_⟩:=x;exact zjT e
 |ins C dx fs=>obtain⟨_,_,_,e,_⟩:=x;exact zjT e
 |own y=>obtain⟨_,e⟩:=x;exact zjT e
 |xd fs=>obtain⟨_,⟨_,_,_,e,_⟩,_⟩:=x;exact zjT e
 |rng lo hi=>obtain⟨_,_,_,e⟩:=x;exact zjT e
 |frz ob u=>obtain⟨e,_⟩:=x;exact zjT e
 |tbl ps=>exact zjT (show h.get? a=some _ from x)
 |met f y=>exact zjT (show h.get? a=some _ from x)
 |ext φ=>obtain⟨_,⟨_,e⟩,_⟩:=x;exact zjT e
theorem Paired.mapP {α β:Type}{F G:α->β->Prop}:∀{l₁:List α}{l₂:List β},Paired F l₁ l₂->(∀a b,F a b->G a b)->Paired G l₁ l₂
 |_,_,.nil,_=> .nil
 |_,_,.cons r t,f=> .cons (f _ _ r) (Paired.mapP t f)
theorem ObjOk.stay (x:ObjOk P w H h a o)(k:∀b u,(b=a\/H b=some (.own a))->h.get? b=some u->h'.get? b=some u)
  (ho:∀b,H b=some (.own a)->H' b=some (.own a))(ht:∀b xs,H b=some (.tup xs)->H' b=some (.tup xs)):ObjOk P w H' h' a o:=by
 induction o with
 |lst xs=>obtain⟨z,its,n,r,e⟩:=x;exact⟨z,its,n,r,k _ _ (.inl rfl) e⟩
 |tup xs=>obtain⟨z,its,r,ob,e,c⟩:=x;exact⟨z,its,r,ob,k _ _ (.inl rfl) e,c⟩
 |dK kvs=>obtain⟨z,y,vs,r,ob,es,ep,e,c⟩:=x;exact⟨z,y,vs,r,ob,es,ep,k _ _ (.inl rfl) e,c⟩
 |dT kvs=>
  obtain⟨z,y,xs,r,ob,es,ep,e,c⟩:=x;exact⟨z,y,xs,Paired.mapP r λp q z=> ⟨z.1,ht _ _ z.2.1,z.2.2⟩,ob,es,ep,k _ _ (.inl rfl) e,c⟩
 |set S n=>obtain⟨ob,es,ep,t,e,c⟩:=x;exact⟨ob,es,ep,t,k _ _ (.inl rfl) e,c⟩
 |ins C dx fs=>
  obtain⟨d,z,ne,e,mA,⟨od,es,ep,e2,c⟩,r⟩:=x;exact⟨ho _ d,z,ne,k _ _ (.inl rfl) e,mA,⟨od,es,ep,k _ _ (.inr d) e2,c⟩,r⟩
 |own y=>obtain⟨ob,e⟩:=x;exact⟨ob,k _ _ (.inl rfl) e⟩
 |xd fs=>obtain⟨mA,⟨od,es,ep,e,c⟩,r⟩:=x;exact⟨mA,⟨od,es,ep,k _ _ (.inl rfl) e,c⟩,r⟩
 |rng lo hi=>obtain⟨t,u,v,e⟩:=x;exact⟨t,u,v,k _ _ (.inl rfl) e⟩
 |frz ob u ih=>obtain⟨e,q⟩:=x;exact⟨k _ _ (.inl rfl) e,ih q⟩
 |tbl ps=>
  have e:h.get? a=some {cls:=.none,data:=.fields ps}:=x;show h'.get? a=some {cls:=.none,data:=.fields ps};exact k a _ (.inl rfl) e
 |met f y=>
  have e:h.get? a=some (W.methodObj (.ref f) (.ref y)):=x;show h'.get? a=some (W.methodObj (.ref f) (.ref y));exact k a _ (.inl rfl) e
 |ext φ=>obtain⟨p,⟨o,e⟩,st⟩:=x;exact⟨st _ _ p λo q=>k _ _ (.inl rfl) q,⟨o,k _ _ (.inl rfl) e⟩,st⟩
theorem HOk.lt (x:HOk P w H h)(e:H a=some o):a<h.objs.size:=(x a o e).lt
theorem HOk.fresh (x:HOk P w H h)(e:h.objs.size<=a):H a=none:=by
 cases q:H a with
 |none=>rfl
 |some u=>exact absurd (lt_of_lt_of_le (x.lt q) e) (lt_irrefl _)
theorem HOk.kept (x:HOk P w H h)(k:∀b u,h.get? b=some u->h'.get? b=some u):HOk P w H h':=λa o e=>
 (x a o e).stay (λb u _ q=>k b u q) (λ_ q=>q) λ_ _ q=>q
theorem HOk.laid (x:HOk P w H h)(k:∀b u,h.get? b=some u->h'.get? b=some u)(hp:h.objs.size<=a)(new:ObjOk P w (upd H a o) h' a o):HOk P w (upd H a o) h':=λb u e=>by
 have hn:=x.fresh hp;by_cases hb:b=a
 ·subst hb;rw[aJ]at e;cases e;exact new
 ·rw[aY hb]at e;exact(x b u e).stay (λc v _ q=>k c v q) (λc q=>by rw[aY (bH q hn)];exact q) λc xs q=>by rw[aY (bH q hn)];exact q
end
noncomputable def Rd (H:Hp)(a:Addr)(u:HO):Prop:=H a=some u\/ ∃o,H a=some (.frz o u)
theorem Rd.ok {P:Program}{w:World}{H:Hp}{h:Heap}{a:Addr}{u:HO}(r:Rd H a u)(x:HOk P w H h):ObjOk P w H h a u:=by
 rcases r with r| ⟨o,r⟩
 ·exact x a u r
 ·obtain⟨_,q⟩:=x a _ r;exact q
noncomputable def Mut:Option HO->Prop
 |some (.lst _)=>True
 |some (.dK _)=>True
 |some (.dT _)=>True
 |some (.set _ _)=>True
 |some (.ins _ _ _)=>True
 |some (.ext _)=>True
 |_=>False
section
variable {P:Program}{w:World}{H:Hp}{h h':Heap}{x e:Addr}{o':HO}
theorem HOk.write (ok:HOk P w H h)(mu:Mut (H x))(he:e=x\/H e=some (.own x))(k:∀b u,b≠e->h.get? b=some u->h'.get? b=some u)(heo:∃u,h'.get? e=some u)
  (new:ObjOk P w (upd H x o') h' x o'):HOk P w (upd H x o') h':=λb u q=>by
 have nown:∀c y,H c=some (.own y)->c≠x:=λc y r z=>by subst z;rw[r]at mu;exact mu
 have ntup:∀c xs,H c=some (.tup xs)->c≠x:=λc xs r z=>by subst z;rw[r]at mu;exact mu
 by_cases hb:b=x
 ·subst hb;rw[aJ]at q;cases q;exact new
 ·rw[aY hb]at q;by_cases hbe:b=e
  ·have q':H b=some (.own x):=by
    rcases he with z|z
    ·exact absurd (hbe.trans z) hb
    ·rw[hbe];exact z
   rw[q]at q';cases q';obtain⟨v,hv⟩:=heo;exact⟨v,by rw[hbe];exact hv⟩
  ·refine(ok b u q).stay (λc v hc r=>k c v ?_ r) (λc r=>by rw[aY (nown c b r)];exact r) λc xs r=>by rw[aY (ntup c xs r)];exact r
   rcases hc with rfl|hc
   ·exact hbe
   ·rintro rfl;rcases he with z|z
    ·exact nown c b hc z
    ·rw[hc]at z;cases z;exact hb rfl
end
structure Un (fs ex:List Addr)(H H':Hp)(h h':Heap):Prop where
 keep:∀b o,h.get? b=some o->H b=none->b∉fs->b∉ex->h'.get? b=some o
 slot:∀b o,h.get? b=some o->H b=none->b∈fs->b∉ex->∃sl,h'.get? b=some {o with slots:=sl}
 free:∀b o,h.get? b=some o->H b=none->b∉ex->H' b=none
 there:∀b o,h.get? b=some o->b∉ex->∃o',h'.get? b=some o'
 tups:∀b xs,H b=some (.tup xs)->H' b=some (.tup xs)
 frzs:∀b o u,H b=some (.frz o u)->H' b=some (.frz o u)
 tbls:∀b ps,H b=some (.tbl ps)->∃more,H' b=some (.tbl (ps++more))
section
variable {fs fs' ex ex':List Addr}{H H1 H2:Hp}{h h1 h2 h':Heap}{a x e:Addr}{o:HO}
theorem Un.any (u:Un fs ex H H1 h h1){b:Addr}{ob:Obj}(q:h.get? b=some ob)(n:H b=none)(hx:b∉ex):∃sl,h1.get? b=some {ob with slots:=sl}:=by
 by_cases hb:b∈fs
 ·exact u.slot b ob q n hb hx
 ·exact⟨ob.slots,u.keep b ob q n hb hx⟩
theorem Un.kept (k:∀b u,h.get? b=some u->h'.get? b=some u):Un fs ex H H h h':=
 ⟨λb ob q _ _ _=>k b ob q,λb ob q _ _ _=> ⟨ob.slots,k b ob q⟩,λ_ _ _ n _=>n,λb ob q _=> ⟨ob,k b ob q⟩,λ_ _ q=>q,λ_ _ _ q=>q,λ_ ps q=> ⟨#[],by rw[q];simp⟩⟩
theorem Un.refl:Un fs ex H H h h:=Un.kept λ_ _ q=>q
theorem Un.laid (k:∀b u,h.get? b=some u->h'.get? b=some u)(hp:h.objs.size<=a)(hn:H a=none):Un fs ex H (upd H a o) h h' where
 keep:=λb u q _ _ _=>k b u q
 slot:=λb u q _ _ _=> ⟨u.slots,k b u q⟩
 free:=λb u q n _=>by rw[aY (ne_of_lt (lt_of_lt_of_le (zjT q) hp))];exact n
 there:=λb u q _=> ⟨u,k b u q⟩
 tups:=λb xs q=>by rw[aY (bH q hn)];exact q
 frzs:=λb u xs q=>by rw[aY (bH q hn)];exact q
 tbls:=λb ps q=> ⟨#[],by rw[aY (bH q hn),q];simp⟩
theorem Un.write (mu:Mut (H x))(he:e=x\/H e=some (.own x))(k:∀b u,b≠e->h.get? b=some u->h'.get? b=some u)(heo:∃u,h'.get? e=some u):Un fs ex H (upd H x o) h h':=by
 have hx:∀b,H b=none->b≠x:=λb n z=>by subst z;rw[n]at mu;exact mu
 have hb:∀b,H b=none->b≠e:=λb n z=>by
  subst z;rcases he with r|r
  ·exact hx b n r
  ·rw[n]at r;cases r
 have hm:∀b u,H b=some u->¬Mut (some u)->b≠x:=λb u q nm z=>by subst z;rw[q]at mu;exact nm mu
 refine⟨λb u q n _ _=>k b u (hb b n) q,λb u q n _ _=> ⟨u.slots,k b u (hb b n) q⟩,λb u q n _=>by rw[aY (hx b n)];exact n,λb u q _=> ?_,
  λb xs q=>by rw[aY (hm b _ q λz=>z)];exact q,λb u xs q=>by rw[aY (hm b _ q λz=>z)];exact q,λb ps q=> ⟨#[],by rw[aY (hm b _ q λz=>z),q];simp⟩⟩
 by_cases hbe:b=e
 ·subst hbe;exact heo
 ·exact⟨u,k b u hbe q⟩
end
noncomputable def trk (h:Heap)(H:Hp):List Addr:=(List.range h.objs.size).filter λa=>(H a).isSome
noncomputable def gM (h:Heap)(H:Hp):Heap:=W.hideAll h (trk h H)
theorem A5l (h:Heap)(H:Hp):(gM h H).objs.size=h.objs.size:=W.hideAll_size _ _
theorem A7y {h:Heap}{H:Hp}{b:Addr}{o:Obj}(e:h.get? b=some o)(n:H b=none):(gM h H).get? b=some o:=
 W.hideAll_get _ e λhm=>by
  have q:(H b).isSome=true:=(mem_filter.mp hm).2;rw[n]at q;simp at q
theorem A8c {h:Heap}{H:Hp}{b:Addr}{o:Obj}(e:(gM h H).get? b=some o):h.get? b=some o/\H b=none:=by
 have e':h.get? b=some o:=W.of_hideAll (trk h H) e;refine⟨e',?_⟩;cases q:H b with
 |none=>rfl
 |some x=>
  have hm:b∈trk h H:=mem_filter.mpr ⟨mem_range.mpr (zjT e'),by simp[q]⟩;have z:(gM h H).get? b=none:=W.hideAll_none (trk h H) hm;rw[z]at e;cases e
noncomputable def A7q (g h:Heap)(L:Addr):List (Addr×Obj):=(List.range h.objs.size).filterMap λa=>if a=L\/(g.get? a).isSome=true then none else(h.get? a).map λo=>(a,o)
noncomputable def rest (g h:Heap)(L d:Addr):List (Addr×Obj):=(A7q g h L).filter λp=>decide (p.1≠d)
structure Mod (K:W.Frag)(mg:Str->Option Value)(base:Heap):Prop where
 kin:K.In base
 glob:base.Ns mainGlobals mg
 blt:∃mb,base.Ns builtinsNs mb/\∀x:Str,x≠ "__name__"->mb x=bootBuiltins x
 nolimit:base.NoLimit
structure Cx where
 prog:Program
 w:World
 K:W.Frag
 mg:Str->Option Value
 base:Heap
 A:Around
 N:List Str
 s₀:Shared
 H₀:Hp
 env:Env
 outer:List Env
 stack:List Env
 ex:List Addr
 fn:Str->Bool
 calm:Bool
 pn:List (Addr×Obj)
 xe:Value->Shared->Prop
noncomputable def frs (l:List Env):List Addr:=l.filterMap (·.frame)
noncomputable abbrev Cx.fs (X:Cx):List Addr:=frs X.outer
noncomputable def Vis (sc:Scope)(x:Str):Prop:=sc.names.lookup x=some .local\/sc.names.lookup x=some .cell\/sc.names.lookup x=some .free
noncomputable def Loc (sc:Scope)(x:Str):Prop:=sc.names.lookup x=some .local\/sc.names.lookup x=some .cell
noncomputable def B07 (env:Env)(h:Heap)(m:Str->Option Value)(x:Str)(u:Value):Prop:=
 (env.kindOf x=some .local/\m x=some u)\/((env.kindOf x=some .cell\/env.kindOf x=some .free)/\∃c,env.cells.lookup x=some c/\h.IsCell c (some u))
structure Cx.Ok (X:Cx):Prop where
 mod:Mod X.K X.mg X.base
 kind:X.env.scope.kind= .function
 glob:X.env.globals=mainGlobals
 blt:X.env.builtins=builtinsNs
 above:X.s₀.heap.objs.size<=X.env.locals
 inj:∀x y c,X.env.cells.lookup x=some c->X.env.cells.lookup y=some c->x=y
 has:∀x,(X.env.kindOf x=some .cell\/X.env.kindOf x=some .free)->∃c,X.env.cells.lookup x=some c
 cab:∀x c,X.fn x=true->X.env.cells.lookup x=some c->X.s₀.heap.objs.size<=c
 hd:X.calm=true->X.A.handled=none
 frames:X.A.frames=some X.stack
 stk:X.stack=X.outer\/(X.stack=X.env::X.outer/\X.env.frame=some X.env.locals)
 exf:∀b∈X.ex,b≠X.env.locals/\∀x c,X.env.cells.lookup x=some c->c≠b
 bs:∀b o,X.base.get? b=some o->X.s₀.heap.get? b=some o/\X.H₀ b=none
 bsz:X.base.objs.size<=X.s₀.heap.objs.size
 noex:∀b o,X.base.get? b=some o->b∉X.ex
 exfs:∀b∈X.ex,b∉X.fs
 funs:X.s₀.heap.FunFrames X.base X.outer
 frf:∀b∈X.fs,X.H₀ b=none
structure Inv (X:Cx)(pins:List (Addr×Obj))(σ:List (Option V))(H:Hp)(s:Shared):Prop where
 ok:X.Ok
 os:s.os=X.s₀.os
 bare:AllBare s.gens
 base:Un X.fs X.ex X.H₀ H X.s₀.heap s.heap
 loc:∃m,s.heap.Ns X.env.locals m/\∀(i:Nat)(x:Str)(v:V),X.N[i]?=some x->σ[i]?=some (some v)->Vis X.env.scope x->∃u,RelV v u/\B07 X.env s.heap m x u
 cell:∀x c,X.env.cells.lookup x=some c->∃v,s.heap.IsCell c v
 free:H X.env.locals=none
 freeC:∀x c,X.env.cells.lookup x=some c->H c=none
 pin:∀p∈X.pn++pins,s.heap.get? p.1=some p.2/\H p.1=none/\p.1≠X.env.locals/\p.1∉X.fs/\∀v,p.2.data≠ .cell v
 hok:HOk X.prog X.w H s.heap
 len:σ.length=X.N.length
section
variable {X:Cx}{pins:List (Addr×Obj)}{σ:List (Option V)}{H H':Hp}{s:Shared}{h':Heap}
theorem Cx.Ok.nofr (ok:X.Ok){b:Addr}{o:Obj}(e:X.base.get? b=some o):b∉X.fs:=λhb=>by
 have:=(ok.funs.mem hb).1;rw[e]at this;cases this
theorem Inv.bs (I:Inv X pins σ H s):∀b o,X.base.get? b=some o->s.heap.get? b=some o/\H b=none:=λb o e=>
 ⟨I.base.keep b o (I.ok.bs b o e).1 (I.ok.bs b o e).2 (I.ok.nofr e) (I.ok.noex b o e),I.base.free b o (I.ok.bs b o e).1 (I.ok.bs b o e).2 (I.ok.noex b o e)⟩
theorem Inv.bk (I:Inv X pins σ H s):∀b o,X.base.get? b=some o->s.heap.get? b=some o:=λb o e=>(I.bs b o e).1
theorem Inv.mod (I:Inv X pins σ H s):Mod X.K X.mg X.base:=I.ok.mod
theorem Inv.kIn (I:Inv X pins σ H s):X.K.In s.heap:=I.ok.mod.kin.keeps I.bk
theorem Inv.lt (I:Inv X pins σ H s):X.env.locals<s.heap.objs.size:=let ⟨_,hn,_⟩:=I.loc;hn.lt
theorem Inv.sz (I:Inv X pins σ H s):X.s₀.heap.objs.size<=s.heap.objs.size:=le_trans I.ok.above (le_of_lt I.lt)
theorem Inv.nofs (I:Inv X pins σ H s){a:Addr}(h:s.heap.objs.size<=a):a∉X.fs:=λhb=>by
 obtain⟨_,o,ho,_⟩:=I.ok.funs.mem hb;exact absurd (lt_of_lt_of_le (zjT ho) (le_trans I.sz h)) (lt_irrefl _)
theorem Inv.cne (I:Inv X pins σ H s):∀x c,X.env.cells.lookup x=some c->c≠X.env.locals:=λx c e z=>by
 obtain⟨v,o,ho,hd⟩:=I.cell x c e;obtain⟨m,⟨o',es,ep,ho',hd',_⟩,_⟩:=I.loc;rw[z,ho']at ho;cases ho;rw[hd']at hd;cases hd
theorem Inv.funs (I:Inv X pins σ H s):s.heap.FunFrames X.base X.outer:=by
 have all:∀(l:List Env),(∀b∈frs l,b∈X.fs)->X.s₀.heap.FunFrames X.base l->s.heap.FunFrames X.base l:=by
  intro l
  induction l with
  |nil=>intro _ _;trivial
  |cons env r ih=>
   intro hs hl;obtain⟨hk,⟨L,o,hf,hn,ho,hd⟩,hr⟩:=hl;have hL:L∈X.fs:=hs L (by unfold frs;rw[List.filterMap_cons,hf];exact zjR);obtain⟨sl,e⟩:=I.base.slot L o ho (I.ok.frf L hL) hL λz=>I.ok.exfs L z hL;exact⟨hk,⟨L,_,hf,hn,e,hd⟩,ih (λb hb=>hs b (by unfold frs;rw[List.filterMap_cons,hf];exact zjS _ hb)) hr⟩
 exact all X.outer (λ_ hb=>hb) I.ok.funs
theorem Inv.stack (I:Inv X pins σ H s):s.heap.FunFrames X.base X.stack:=by
 rcases I.ok.stk with e| ⟨e,hf⟩
 ·rw[e];exact I.funs
 ·rw[e];obtain⟨m,hn,_⟩:=I.loc;refine .cons (by rw[I.ok.kind];decide) hf hn ?_ I.funs;exact Heap.get?_none_of_le (le_trans I.ok.bsz I.ok.above)
theorem Inv.stkSub (I:Inv X pins σ H s):∀b∈frs X.stack,b∈X.env.locals::X.fs:=λb hb=>by
 rcases I.ok.stk with e| ⟨e,hf⟩
 ·rw[e]at hb;exact zjS _ hb
 ·rw[e]at hb;unfold frs at hb;rw[List.filterMap_cons,hf]at hb;exact hb
theorem Inv.stkFree (I:Inv X pins σ H s):∀b∈frs X.stack,H b=none:=λb hb=>by
 rcases mem_cons.mp (I.stkSub b hb)with e|hb
 ·rw[e];exact I.free
 ·obtain⟨_,o,ho,_⟩:=I.ok.funs.mem hb;exact I.base.free b o ho (I.ok.frf b hb) λz=>I.ok.exfs b z hb
theorem Inv.step {g':Array GenState}{t':Nat}{d':Drawn}{ch:List Addr}(I:Inv X pins σ H s)
  (hch:∀b∈ch,(b∈X.ex\/X.s₀.heap.objs.size<=b)/\b≠X.env.locals/\(∀x c,X.env.cells.lookup x=some c->c≠b)/\∀p∈X.pn++pins,p.1≠b)
  (keep:∀b o,b≠X.env.locals->b∉X.fs->b∉ch->s.heap.get? b=some o->H b=none->h'.get? b=some o)
  (slot:∀b o,b≠X.env.locals->b∈X.fs->b∉ch->s.heap.get? b=some o->H b=none->∃sl,h'.get? b=some {o with slots:=sl})(free:∀b o,b∉ch->s.heap.get? b=some o->H b=none->H' b=none)
  (there:∀b o,b∉ch->s.heap.get? b=some o->∃o',h'.get? b=some o')
  (tups:∀b xs,H b=some (.tup xs)->H' b=some (.tup xs))(frzs:∀b o u,H b=some (.frz o u)->H' b=some (.frz o u))(tbls:∀b ps,H b=some (.tbl ps)->∃more,H' b=some (.tbl (ps++more)))
  (ns:∀m,s.heap.Ns X.env.locals m->h'.Ns X.env.locals m)(hok:HOk X.prog X.w H' h')(hg:AllBare g'):
  Inv X pins σ H' {s with heap:=h',gens:=g',drawn:=d',toks:=t'}:=by
 have neL:∀b o,X.s₀.heap.get? b=some o->b≠X.env.locals:=λb o e=>ne_of_lt (lt_of_lt_of_le (zjT e) I.ok.above);have neC:∀b o,X.s₀.heap.get? b=some o->b∉X.ex->b∉ch:=λb o e hx hb=>by
  rcases(hch b hb).1 with z|z
  ·exact hx z
  ·exact absurd (lt_of_lt_of_le (zjT e) z) (lt_irrefl _)
 have cellK:∀x c,X.env.cells.lookup x=some c->∀v,s.heap.IsCell c v->h'.IsCell c v:=λx c e v ⟨o,ho,hd⟩=>by
  have nch:c∉ch:=λz=>(hch c z).2.2.1 x c e rfl;by_cases hc:c∈X.fs
  ·obtain⟨sl,q⟩:=slot c o (I.cne x c e) hc nch ho (I.freeC x c e);exact⟨_,q,hd⟩
  ·exact⟨o,keep c o (I.cne x c e) hc nch ho (I.freeC x c e),hd⟩
 refine⟨I.ok,I.os,hg,⟨λb o e n hb hx=> ?_,λb o e n hb hx=> ?_,λb o e n hx=> ?_,λb o e hx=> ?_,λb xs e=>tups b xs (I.base.tups b xs e),λb o xs e=>frzs b o xs (I.base.frzs b o xs e),λb ps e=> ?_⟩,?_,λx c e=> ?_,?_,λx c e=> ?_,λp hp=> ?_,hok,I.len⟩
 ·exact keep b o (neL b o e) hb (neC b o e hx) (I.base.keep b o e n hb hx) (I.base.free b o e n hx)
 ·obtain⟨sl,e1⟩:=I.base.slot b o e n hb hx;obtain⟨sl',e2⟩:=slot b _ (neL b o e) hb (neC b o e hx) e1 (I.base.free b o e n hx);exact⟨sl',e2⟩
 ·obtain⟨o',e1⟩:=I.base.there b o e hx;exact free b o' (neC b o e hx) e1 (I.base.free b o e n hx)
 ·obtain⟨o',e1⟩:=I.base.there b o e hx;exact there b o' (neC b o e hx) e1
 ·obtain⟨m1,e1⟩:=I.base.tbls b ps e;obtain⟨m2,e2⟩:=tbls b _ e1;exact⟨m1++m2,by rw[e2,Array.append_assoc]⟩
 ·obtain⟨m,hn,hl⟩:=I.loc;refine⟨m,ns m hn,λi x v e1 e2 e3=> ?_⟩;obtain⟨u,r,l⟩:=hl i x v e1 e2 e3;refine⟨u,r,?_⟩;rcases l with l| ⟨k,c,e,z⟩
  ·exact .inl l
  ·exact .inr ⟨k,c,e,cellK x c e _ z⟩
 ·obtain⟨v,z⟩:=I.cell x c e;exact⟨v,cellK x c e v z⟩
 ·obtain⟨m,⟨o,_,_,ho,_⟩,_⟩:=I.loc;exact free _ o (λz=>(hch _ z).2.1 rfl) ho I.free
 ·obtain⟨v,o,ho,hd⟩:=I.cell x c e;exact free c o (λz=>(hch c z).2.2.1 x c e rfl) ho (I.freeC x c e)
 ·obtain⟨e,n,ne,nf,d⟩:=I.pin p hp;have nch:p.1∉ch:=λz=>(hch p.1 z).2.2.2 p hp rfl;exact⟨keep p.1 p.2 ne nf nch e n,free p.1 p.2 nch e n,ne,nf,d⟩
theorem Inv.un {t':Nat}(I:Inv X pins σ H s)(u:Un X.fs [] H H' s.heap h')(hok:HOk X.prog X.w H' h'):Inv X pins σ H' {s with heap:=h',toks:=t'}:=by
 obtain⟨m,⟨o,es,ep,ho,r⟩,_⟩:=id I.loc;obtain⟨sl,hL⟩:=u.any ho I.free (by simp);exact I.step (g':=s.gens) (d':=s.drawn) (ch:=[]) (λ_ z=>nomatch z) (λb o _ hb _ e n=>u.keep b o e n hb (by simp)) (λb o _ hb _ e n=>u.slot b o e n hb (by simp)) (λb o _ e n=>u.free b o e n (by simp)) (λb o _ e=>u.there b o e (by simp)) u.tups u.frzs u.tbls (λm' hm=>by
  obtain⟨o',es',ep',ho',r'⟩:=hm;rw[ho]at ho';cases ho';exact⟨_,es',ep',hL,r'⟩) hok I.bare
theorem Inv.call {g':Array GenState}{t':Nat}{d':Drawn}{ch:List Addr}(I:Inv X pins σ H s)(u:Un (frs X.stack) ch H H' s.heap h')(hok:HOk X.prog X.w H' h')(hg:AllBare g')
  (hch:∀b∈ch,(b∈X.ex\/X.s₀.heap.objs.size<=b)/\b≠X.env.locals/\(∀x c,X.env.cells.lookup x=some c->c≠b)/\∀p∈X.pn++pins,p.1≠b):
  Inv X pins σ H' {s with heap:=h',gens:=g',drawn:=d',toks:=t'}:=by
 obtain⟨m,⟨o,es,ep,ho,r⟩,_⟩:=id I.loc;obtain⟨sl,hL⟩:=u.any ho I.free λz=>(hch _ z).2.1 rfl;exact I.step (ch:=ch) hch (λb o hL hb hc e n=>u.keep b o e n (λz=>(mem_cons.mp (I.stkSub b z)).elim hL hb) hc) (λb o _ _ hc e n=>u.any e n hc) (λb o hc e n=>u.free b o e n hc) (λb o hc e=>u.there b o e hc) u.tups u.frzs u.tbls (λm' hm=>by
  obtain⟨o',es',ep',ho',r'⟩:=hm;rw[ho]at ho';cases ho';exact⟨_,es',ep',hL,r'⟩) hok hg
theorem Inv.turned {t':Nat}{it:Addr}(I:Inv X pins σ H s)(k:∀b o,b≠it->s.heap.get? b=some o->h'.get? b=some o)(hn:H it=none)(hL:it≠X.env.locals)
  (h1:it∈X.ex\/X.s₀.heap.objs.size<=it)(h2:∀x c,X.env.cells.lookup x=some c->c≠it)(h3:∀p∈X.pn++pins,p.1≠it):Inv X pins σ H {s with heap:=h',toks:=t'}:=by
 have nit:∀b u,H b=some u->b≠it:=λb u e z=>by rw[z,hn]at e;cases e
 refine I.step (g':=s.gens) (d':=s.drawn) (ch:=[it]) (λb hb=> ?_) (λb o _ _ hc e _=>k b o (λz=>hc (by simp[z])) e) (λb o _ _ hc e _=> ⟨o.slots,k b o (λz=>hc (by simp[z])) e⟩) (λ_ _ _ _ n=>n)
  (λb o hc e=> ⟨o,k b o (λz=>hc (by simp[z])) e⟩) (λ_ _ e=>e) (λ_ _ _ e=>e) (λb ps e=> ⟨#[],by rw[e];simp⟩) (λm hm=> ?_) (λb u e=> ?_) I.bare
 ·have e:b=it:=by simpa using hb
  subst e;exact⟨h1,hL,h2,h3⟩
 ·obtain⟨o,es,ep,ho,r⟩:=hm;exact⟨o,es,ep,k _ o (Ne.symm hL) ho,r⟩
 ·refine(I.hok b u e).stay (λc v hc q=>k c v ?_ q) (λ_ q=>q) λ_ _ q=>q;rcases hc with z|z
  ·rw[z];exact nit b u e
  ·exact nit c _ z
theorem Inv.tok (I:Inv X pins σ H s)(t:Nat):Inv X pins σ H {s with toks:=t}:=I.un (h':=s.heap) (t':=t) Un.refl I.hok
theorem Inv.kept {t':Nat}(I:Inv X pins σ H s)(k:∀b u,s.heap.get? b=some u->h'.get? b=some u):Inv X pins σ H {s with heap:=h',toks:=t'}:=I.un (Un.kept k) (I.hok.kept k)
theorem Inv.laid {a:Addr}{o:HO}{t':Nat}(I:Inv X pins σ H s)(k:∀b u,s.heap.get? b=some u->h'.get? b=some u)(hp:s.heap.objs.size<=a)(new:ObjOk X.prog X.w (upd H a o) h' a o):
  Inv X pins σ (upd H a o) {s with heap:=h',toks:=t'}:=I.un (Un.laid k hp (I.hok.fresh hp)) (I.hok.laid k hp new)
theorem Inv.write {x e:Addr}{o:HO}{t':Nat}(I:Inv X pins σ H s)(mu:Mut (H x))(he:e=x\/H e=some (.own x))(k:∀b u,b≠e->s.heap.get? b=some u->h'.get? b=some u)(heo:∃u,h'.get? e=some u)
  (new:ObjOk X.prog X.w (upd H x o) h' x o):Inv X pins σ (upd H x o) {s with heap:=h',toks:=t'}:=I.un (Un.write mu he k heo) (I.hok.write mu he k heo new)
theorem Inv.weak {σ':List (Option V)}(I:Inv X pins σ H s)(hl:σ'.length=σ.length)(w:∀(i:Nat) v,σ'[i]?=some (some v)->σ[i]?=some (some v)):Inv X pins σ' H s:=
 ⟨I.ok,I.os,I.bare,I.base,let ⟨m,hn,hl'⟩:=I.loc;⟨m,hn,λi x v e1 e2 e3=>hl' i x v e1 (w i v e2) e3⟩,I.cell,I.free,I.freeC,I.pin,I.hok,hl.trans I.len⟩
theorem Inv.pins_of {pins':List (Addr×Obj)}(I:Inv X pins σ H s)(h:∀p∈pins',s.heap.get? p.1=some p.2/\H p.1=none/\p.1≠X.env.locals/\p.1∉X.fs/\∀v,p.2.data≠ .cell v):Inv X pins' σ H s:=
 ⟨I.ok,I.os,I.bare,I.base,I.loc,I.cell,I.free,I.freeC,λp hp=>(mem_append.mp hp).elim (λz=>I.pin p (mem_append_left _ z)) (h p),I.hok,I.len⟩
theorem vR {N:List Str}(hN:N.Nodup){i j:Nat}{x:Str}(a:N[i]?=some x)(b:N[j]?=some x):i=j:=by obtain⟨h1,e1⟩:=zjW.mp a;obtain⟨h2,e2⟩:=zjW.mp b;exact(List.getElem_inj hN).mp (e1.trans e2.symm)
theorem qJ {M:Model}{A:Around}{E:Value->Shared->Prop}{i:Nat}{x:Str}{v:V}{u:Value}{Q:Unit->Shared->Prop}(I:Inv X pins σ H s)(hN:X.N.Nodup)(hi:X.N[i]?=some x)(hx:Loc X.env.scope x)(r:RelV v u)
  (h:∀s',Inv X pins (σ.set i (some v)) H s'->(∃a,Heap.SameBut a s.heap s'.heap/\(a=X.env.locals\/X.env.cells.lookup x=some a))->Q () s')(hf:X.fn x=true\/X.env.scope.names.lookup x=some .local:=by first|exact .inl rfl|exact .inr rfl|assumption):wpAny M A (storeName X.env x u) Q E s:=by
 obtain⟨m,hn,hl⟩:=id I.loc;have hcls:(X.env.scope.kind== .class|| (X.env.scope.kind== .module&&X.env.locals !=X.env.globals))=false:=by rw[I.ok.kind];rfl
 have hiσ:i<σ.length:=by rw[I.len];exact(zjW.mp hi).1
 have cne:=I.cne;have tracked:∀{a:Addr}{h':Heap},(∃o,s.heap.get? a=some o/\H a=none)->Heap.SameBut a s.heap h'->HOk X.prog X.w H h':=fun{a h'} ha hs b ob e=>by
  obtain⟨_,_,hfree⟩:=ha;refine(I.hok b ob e).stay (λc w' hc q=>(hs.2 c ?_).trans q) (λ_ q=>q) λ_ _ q=>q;rintro rfl;rcases hc with rfl|hc
  ·rw[hfree]at e;cases e
  ·rw[hfree]at hc;cases hc
 rcases hx with hk|hk
 ·refine wpAny_storeName_local hk hn (λh' hn' hs=> ?_) hcls;obtain⟨oL,_,_,hoL,_⟩:=id hn;refine h _ ⟨I.ok,I.os,I.bare,⟨λb o e n hb hx=> ?_,λb o e n hb hx=> ?_,I.base.free,λb o e hx=> ?_,I.base.tups,I.base.frzs,I.base.tbls⟩,⟨_,hn',λj y v' e1 e2 e3=> ?_⟩,λy c e=> ?_,I.free,I.freeC,λp hp=> ?_,tracked ⟨oL,hoL,I.free⟩ hs,by simpa using I.len⟩ ⟨_,hs,.inl rfl⟩
  ·exact(hs.2 b (ne_of_lt (lt_of_lt_of_le (zjT e) I.ok.above))).trans (I.base.keep b o e n hb hx)
  ·obtain⟨sl,e1⟩:=I.base.slot b o e n hb hx;exact⟨sl,(hs.2 b (ne_of_lt (lt_of_lt_of_le (zjT e) I.ok.above))).trans e1⟩
  ·obtain⟨o',e1⟩:=I.base.there b o e hx;exact⟨o',(hs.2 b (ne_of_lt (lt_of_lt_of_le (zjT e) I.ok.above))).trans e1⟩
  ·by_cases hj:j=i
   ·subst hj;rw[hi]at e1;cases e1;rw[List.getElem?_set_self hiσ]at e2;cases e2;exact⟨u,r,.inl ⟨hk,by simp⟩⟩
   ·rw[List.getElem?_set_ne (Ne.symm hj)]at e2;obtain⟨u',r',q⟩:=hl j y v' e1 e2 e3;refine⟨u',r',?_⟩;rcases q with⟨k,e⟩| ⟨k,c,e,z⟩
    ·refine .inl ⟨k,?_⟩;have:y≠x:=λe=>hj (vR hN e1 (e▸hi));simp[this,e]
    ·exact .inr ⟨k,c,e,z.sameBut hs (cne y c e)⟩
  ·obtain⟨w',z⟩:=I.cell y c e;exact⟨w',z.sameBut hs (cne y c e)⟩
  ·obtain⟨e,n,ne,nf,d⟩:=I.pin p hp;exact⟨(hs.2 p.1 ne).trans e,n,ne,nf,d⟩
 ·have hfn:X.fn x=true:=by
   rcases hf with z|z
   ·exact z
   ·rw[z]at hk;cases hk
  obtain⟨c,hc⟩:=I.ok.has x (.inl hk);obtain⟨w',z⟩:=I.cell x c hc;refine wpAny_storeName_cell I.ok.kind hk hc z (λh' hc' hs=> ?_);obtain⟨oc,hoc,hocd⟩:=id z;refine h {s with heap:=h'} ⟨I.ok,I.os,I.bare,⟨λb o e n hb hx=> ?_,λb o e n hb hx=> ?_,I.base.free,λb o e hx=> ?_,I.base.tups,I.base.frzs,I.base.tbls⟩,⟨m,hn.sameBut hs (Ne.symm (cne x c hc)),λj y v' e1 e2 e3=> ?_⟩,λy c' e=> ?_,I.free,I.freeC,λp hp=> ?_,tracked ⟨oc,hoc,I.freeC x c hc⟩ hs,by simpa using I.len⟩ ⟨c,hs,.inr hc⟩
  ·exact(hs.2 b (ne_of_lt (lt_of_lt_of_le (zjT e) (I.ok.cab x c hfn hc)))).trans (I.base.keep b o e n hb hx)
  ·obtain⟨sl,e1⟩:=I.base.slot b o e n hb hx;exact⟨sl,(hs.2 b (ne_of_lt (lt_of_lt_of_le (zjT e) (I.ok.cab x c hfn hc)))).trans e1⟩
  ·obtain⟨o',e1⟩:=I.base.there b o e hx;exact⟨o',(hs.2 b (ne_of_lt (lt_of_lt_of_le (zjT e) (I.ok.cab x c hfn hc)))).trans e1⟩
  ·by_cases hj:j=i
   ·subst hj;rw[hi]at e1;cases e1;rw[List.getElem?_set_self hiσ]at e2;cases e2;exact⟨u,r,.inr ⟨.inl hk,c,hc,hc'⟩⟩
   ·rw[List.getElem?_set_ne (Ne.symm hj)]at e2;obtain⟨u',r',q⟩:=hl j y v' e1 e2 e3;refine⟨u',r',?_⟩;rcases q with q| ⟨k,c',e,z'⟩
    ·exact .inl q
    ·refine .inr ⟨k,c',e,z'.sameBut hs ?_⟩;rintro rfl;exact hj (vR hN e1 (I.ok.inj _ _ _ e hc▸hi))
  ·by_cases hcc:c'=c
   ·subst hcc;exact⟨_,hc'⟩
   ·obtain⟨w2,z2⟩:=I.cell y c' e;exact⟨w2,z2.sameBut hs hcc⟩
  ·obtain⟨e,n,ne,nf,d⟩:=I.pin p hp;refine⟨(hs.2 p.1 ?_).trans e,n,ne,nf,d⟩;intro q;rw[q,hoc]at e;have q':oc=p.2:=Option.some.inj e;exact d w' (by rw[←q'];exact hocd)
theorem jS {M:Model}{A:Around}{E:Value->Shared->Prop}{i:Nat}{x:Str}{v:V}{u:Value}{Q:Unit->Shared->Prop}(I:Inv X pins σ H s)(hN:X.N.Nodup)(hi:X.N[i]?=some x)(hx:Loc X.env.scope x)(r:RelV v u)
  (h:∀s',Inv X pins (σ.set i (some v)) H s'->Q () s')(hf:X.fn x=true\/X.env.scope.names.lookup x=some .local:=by first|exact .inl rfl|exact .inr rfl|assumption):wpAny M A (storeName X.env x u) Q E s:=
 qJ I hN hi hx r (λs' I' _=>h s' I') hf
theorem Inv.call' {s':Shared}{ch:List Addr}(I:Inv X pins σ H s)(ho:s'.os=s.os)(u:Un (frs X.stack) ch H H' s.heap s'.heap)(hok:HOk X.prog X.w H' s'.heap)(hg:AllBare s'.gens)
  (hch:∀b∈ch,(b∈X.ex\/X.s₀.heap.objs.size<=b)/\b≠X.env.locals/\(∀x c,X.env.cells.lookup x=some c->c≠b)/\∀p∈X.pn++pins,p.1≠b):Inv X pins σ H' s':=by
 obtain⟨h',g',d',t',o'⟩:=s';have e:o'=s.os:=ho;subst e;exact I.call (g':=g') (t':=t') (d':=d') u hok hg hch
end
noncomputable abbrev XK:=Value->Option Addr->Hp->Prop
noncomputable abbrev St:=List (Option V)
noncomputable abbrev VK:=V->Hp->Prop
noncomputable abbrev TE:=St->Hp->VK->Prop
noncomputable abbrev TT:=St->Hp->(Bool->Hp->Prop)->Prop
noncomputable abbrev TA:=St->Hp->(List V->Hp->Prop)->Prop
structure dR where
 nx:St->Hp->Prop
 rt:VK
 bk:St->Hp->Prop:=λ_ _=>False
 ct:St->Hp->Prop:=λ_ _=>False
noncomputable abbrev TS:=dR->St->Hp->Prop
noncomputable def EP (X:Cx)(pins:List (Addr×Obj))(σ:St)(Q:VK)(u:Value)(s':Shared):Prop:=∃v H',Inv X pins σ H' s'/\RelV v u/\Q v H'
noncomputable def TP (X:Cx)(pins:List (Addr×Obj))(σ:St)(Q:Bool->Hp->Prop)(b:Bool)(s':Shared):Prop:=∃H',Inv X pins σ H' s'/\Q b H'
noncomputable def AP (X:Cx)(pins:List (Addr×Obj))(σ:St)(Q:List V->Hp->Prop)(us:List Value)(s':Shared):Prop:=∃vs H',Inv X pins σ H' s'/\Vals vs us/\Q vs H'
noncomputable def SP (X:Cx)(pins:List (Addr×Obj))(D:dR)(f:Flow)(s':Shared):Prop:=
 match f with
 | .next=> ∃σ' H',Inv X pins σ' H' s'/\D.nx σ' H'
 | .brk=> ∃σ' H',Inv X pins σ' H' s'/\D.bk σ' H'
 | .cont=> ∃σ' H',Inv X pins σ' H' s'/\D.ct σ' H'
 | .ret u=> ∃v σ' H',Inv X pins σ' H' s'/\RelV v u/\D.rt v H'
noncomputable def PE (X:Cx)(e:Expr)(t:TE):Prop:=
 ∀(pins:List (Addr×Obj))(s:Shared)(σ:St)(H:Hp)(Q:VK),Inv X pins σ H s->t σ H Q->wpAny (model X.prog X.w) X.A (eval e X.env) (EP X pins σ Q) X.xe s
noncomputable def PT (X:Cx)(e:Expr)(t:TT):Prop:=
 ∀(pins:List (Addr×Obj))(s:Shared)(σ:St)(H:Hp)(Q:Bool->Hp->Prop),Inv X pins σ H s->t σ H Q->wpAny (model X.prog X.w) X.A (isTrue e X.env (eval e X.env)) (TP X pins σ Q) X.xe s
noncomputable def PW (X:Cx)(e:Expr)(t:TT):Prop:=
 ∀(whole:Sem Value)(pins:List (Addr×Obj))(s:Shared)(σ:St)(H:Hp)(Q:Bool->Hp->Prop),Inv X pins σ H s->t σ H Q->wpAny (model X.prog X.w) X.A (isTrue e X.env whole) (TP X pins σ Q) X.xe s
theorem PW.pt {X:Cx}{e:Expr}{t:TT}(h:PW X e t):PT X e t:=h _
noncomputable def PA (X:Cx)(es:List Expr)(t:TA):Prop:=
 ∀(pos:Pos)(pins:List (Addr×Obj))(s:Shared)(σ:St)(H:Hp)(Q:List V->Hp->Prop),Inv X pins σ H s->t σ H Q->wpAny (model X.prog X.w) X.A (spliced (backTo pos (starEach es X.env))) (AP X pins σ Q) X.xe s
noncomputable def PS (X:Cx)(st:Stmt)(t:TS):Prop:=
 ∀(pins:List (Addr×Obj))(s:Shared)(σ:St)(H:Hp)(D:dR),Inv X pins σ H s->t D σ H->wpAny (model X.prog X.w) X.A (exec st X.env) (SP X pins D) X.xe s
noncomputable def PSs (X:Cx)(st:List Stmt)(t:TS):Prop:=
 ∀(pins:List (Addr×Obj))(s:Shared)(σ:St)(H:Hp)(D:dR),Inv X pins σ H s->t D σ H->wpAny (model X.prog X.w) X.A (execs st X.env) (SP X pins D) X.xe s
theorem thn {α:Type}{t:Sem α}{Q Q':α->Shared->Prop}{M:Model}{A:Around}{E:Value->Shared->Prop}{s:Shared}(h:wpAny M A t Q E s)(hQ:∀a s,Q a s->Q' a s):wpAny M A t Q' E s:=wpAny_mono h hQ λ_ _ x=>x
section
variable {X:Cx}
noncomputable def dN (i:Nat):TE:=λσ H Q=> ∃v,σ[i]?=some (some v)/\Q v H
noncomputable def tC (v:V):TE:=λ_ H Q=>Q v H
theorem B0q {i:Nat}{x:Str}{pos:Pos}(hN:X.N[i]?=some x)(hv:Vis X.env.scope x)(hd:(x==("__debug__":Str))=false:=by decide)(hcd:(x==("__classdict__":Str))=false:=by decide):PE X (.Name x pos) (dN i):=by
 intro pins s σ H Q I h;obtain⟨v,e,h⟩:=h;obtain⟨m,hn,hl⟩:=I.loc;obtain⟨u,r,l⟩:=hl i x v hN e hv;have fin:EP X pins σ Q u s:=⟨v,H,I,r,h⟩;rcases l with⟨hk,hm⟩| ⟨hk,c,hc,hcell⟩
 ·exact wpAny_Name (wpAny_loadName_local I.ok.kind hk hn hm fin) hd
 ·rcases hk with hk|hk
  ·exact wpAny_Name (wpAny_loadName_cell I.ok.kind hk hc hcell fin) hd
  ·exact wpAny_Name (wpAny_loadName_free I.ok.kind hk hc hcell fin hcd) hd
theorem aV {i j pos}:PE X (.Constant (.int i) j pos) (tC (.int i)):=λ_ _ _ H _ I h=>wpAny_Constant_int ⟨.int i,H,I.tok _,⟨_,rfl⟩,h⟩
theorem cQ {b j pos}:PE X (.Constant (.bool b) j pos) (tC (.bl b)):=λ_ _ _ H _ I h=>Constant_bool ⟨.bl b,H,I,rfl,h⟩
theorem A1j {j pos}:PE X (.Constant .none j pos) (tC .non):=λ_ _ _ H _ I h=>Constant_none ⟨.non,H,I,rfl,h⟩
theorem lV {x j pos}:PE X (.Constant (.str x) j pos) (tC (.str x)):=λ_ _ _ H _ I h=>Calls.Constant_str ⟨.str x,H,I.tok _,⟨_,rfl⟩,h⟩
noncomputable def Gl (X:Cx)(x:Str):Prop:=X.env.kindOf x=some .globalImplicit
theorem nT {E:Value->Shared->Prop}{pins:List (Addr×Obj)}{s:Shared}{σ:St}{H:Hp}{x:Str}{u:Value}{pos:Pos}{Q:Value->Shared->Prop}(I:Inv X pins σ H s)(hg:Gl X x)(hm:X.mg x=some u)(h:Q u s)
  (hd:(x==("__debug__":Str))=false:=by decide):wpAny (model X.prog X.w) X.A (eval (.Name x pos) X.env) Q E s:=
 Calls.Name_function_global I.ok.kind hg (Calls.loadGlobal_global (by rw[I.ok.glob];exact I.mod.glob.keeps I.bk) hm h) hd
theorem jB {E:Value->Shared->Prop}{pins:List (Addr×Obj)}{s:Shared}{σ:St}{H:Hp}{x:Str}{u:Value}{pos:Pos}{Q:Value->Shared->Prop}(I:Inv X pins σ H s)(hg:Gl X x)(hm:X.mg x=none)(hv:bootBuiltins x=some u)(h:Q u s)
  (hn:x≠ "__name__":=by decide)(hd:(x==("__debug__":Str))=false:=by decide):wpAny (model X.prog X.w) X.A (eval (.Name x pos) X.env) Q E s:=by
 obtain⟨mb,h1,h2⟩:=I.mod.blt;exact Calls.Name_function_global I.ok.kind hg (Calls.loadGlobal_builtin (by rw[I.ok.glob];exact I.mod.glob.keeps I.bk) hm (by rw[I.ok.blt];exact h1.keeps I.bk) ((h2 x hn).trans hv) h) hd
theorem dS {x:Str}{v:V}{u:Value}{pos:Pos}(hg:Gl X x)(hm:X.mg x=some u)(r:RelV v u)(hd:(x==("__debug__":Str))=false:=by decide):PE X (.Name x pos) (tC v):=
 λ_ _ _ H _ I h=>nT I hg hm ⟨v,H,I,r,h⟩ hd
theorem fV {x:Str}{v:V}{u:Value}{pos:Pos}(hg:Gl X x)(hm:X.mg x=none)(hv:bootBuiltins x=some u)(r:RelV v u)(hn:x≠ "__name__":=by decide)(hd:(x==("__debug__":Str))=false:=by decide):PE X (.Name x pos) (tC v):=
 λ_ _ _ H _ I h=>jB I hg hm hv ⟨v,H,I,r,h⟩ hn hd
variable {a b:Expr}{ta tb:TE}{pos:Pos}
noncomputable def PC (X:Cx)(op:CmpOp)(a b:Expr)(t:TE):Prop:=
 ∀(pins:List (Addr×Obj))(s:Shared)(σ:St)(H:Hp)(Q:VK),Inv X pins σ H s->t σ H Q->
  wpAny (model X.prog X.w) X.A (eval a X.env) (λv s₁=>wpAny (model X.prog X.w) X.A (eval b X.env) (λu s₂=>wpAny (model X.prog X.w) X.A (compareOp op v u) (EP X pins σ Q) X.xe s₂) X.xe s₁) X.xe s
noncomputable def tB (t:TE):TT:=λσ H Q=>t σ H λx H1=> ∃c,x= .bl c/\Q c H1
theorem B2e {op:CmpOp}{t:TE}(h:PC X op a b t)(h1:behindInMarks op b=false:=by first|exact nobehind _ (by decide) (by decide)|rfl):PT X (.Compare a [op] [b] pos) (tB t):=by intro pins s σ H Q I hw;refine wpAny_isTrue_Compare1 (thn (h pins s σ H _ I hw) λv s1 h1=>thn h1 λu s2 h2=>thn h2 λc s3 ⟨x,H1,I1,r1,q1⟩=> ?_) h1;obtain⟨d,rfl,q⟩:=q1;cases r1;exact wpAny_truthy_bool ⟨H1,I1,q⟩
theorem bM {e:Expr}{t:TE}(h:PE X e t)(he:∀whole,isTrue e X.env whole=(do let v←whole;standAt e.pos;holding [v] (truthy v)):=by intro _;rfl):PT X e (tB t):=by intro pins s σ H Q I hw;refine isTrue_plain (thn (h pins s σ H _ I hw) λv s1 ⟨x,H1,I1,r1,q1⟩=> ?_) (he _);obtain⟨d,rfl,q⟩:=q1;cases r1;exact wpAny_truthy_bool ⟨H1,I1,q⟩
variable {tA tB':TT}{rest:List Expr}
noncomputable def B1i (t u:TT):TT:=λσ H Q=>t σ H λc H1=>if c=true then u σ H1 Q else Q false H1
noncomputable def tOr (t u:TT):TT:=λσ H Q=>t σ H λc H1=>if c=true then Q true H1 else u σ H1 Q
noncomputable def A7d (t:TT):TT:=λσ H Q=>t σ H λc H1=>Q (!c) H1
theorem lL (ha:PT X a tA):PW X (.BoolOp .And [a] pos) tA:=by
 intro wh pins s σ H Q I h;refine isTrue_and (thn (ha pins s σ H Q I h) λc s1 e=> ?_);cases c with
 |true=>exact isTrue_and_nil e
 |false=>exact e
theorem jX (ha:PT X a tA):PW X (.BoolOp .Or [a] pos) tA:=by
 intro wh pins s σ H Q I h;refine isTrue_or (thn (ha pins s σ H Q I h) λc s1 e=> ?_);cases c with
 |false=>exact isTrue_or_nil e
 |true=>exact e
theorem kU (ha:PT X a tA)(hb:PW X (.BoolOp .And (b::rest) pos) tB'):PW X (.BoolOp .And (a::b::rest) pos) (B1i tA tB'):=by
 intro wh pins s σ H Q I h;refine isTrue_and (thn (ha pins s σ H _ I h) λc s1 ⟨H1,I1,q1⟩=> ?_);cases c with
 |true=>exact hb wh pins s1 σ H1 Q I1 q1
 |false=>exact⟨H1,I1,q1⟩
theorem jA (ha:PT X a tA)(hb:PW X (.BoolOp .Or (b::rest) pos) tB'):PW X (.BoolOp .Or (a::b::rest) pos) (tOr tA tB'):=by
 intro wh pins s σ H Q I h;refine isTrue_or (thn (ha pins s σ H _ I h) λc s1 ⟨H1,I1,q1⟩=> ?_);cases c with
 |true=>exact⟨H1,I1,q1⟩
 |false=>exact hb wh pins s1 σ H1 Q I1 q1
theorem cC (ha:PT X a tA):PT X (.UnaryOp .Not a pos) (A7d tA):=by intro pins s σ H Q I h;exact isTrue_not (ha pins s σ H (λc H1=>Q (!c) H1) I h)
noncomputable def A4z (ta tb:TE):TE:=λσ H Q=>ta σ H λx H1=> ∃c,x= .bl c/\if c=true then tb σ H1 Q else Q (.bl false) H1
noncomputable def B09 (ta:TE):TE:=λσ H Q=>ta σ H λx H1=> ∃c,x= .bl c/\Q (.bl (!c)) H1
theorem fX {op}{t:TE}(h:PE X a t):PE X (.BoolOp op [a] pos) t:=λpins s σ H Q I hw=>BoolOp_one (h pins s σ H Q I hw)
theorem fS (ha:PE X a ta)(hb:PE X (.BoolOp .And (b::rest) pos) tb):PE X (.BoolOp .And (a::b::rest) pos) (A4z ta tb):=by
 intro pins s σ H Q I h;refine BoolOp_and (thn (ha pins s σ H _ I h) λv s1 ⟨x,H1,I1,r1,q1⟩=> ?_);obtain⟨c,rfl,q1⟩:=q1;cases r1;refine wpAny_truthy_bool ?_;cases c with
 |true=>exact hb pins s1 σ H1 Q I1 q1
 |false=>exact⟨.bl false,H1,I1,rfl,q1⟩
theorem A87 (ha:PE X a ta):PE X (.UnaryOp .Not a pos) (B09 ta):=by intro pins s σ H Q I h;refine UnaryOp_ (thn (ha pins s σ H _ I h) λv s1 ⟨x,H1,I1,r1,q1⟩=> ?_);obtain⟨c,rfl,q1⟩:=q1;cases r1;exact not_of (wpAny_truthy_bool ⟨.bl (!c),H1,I1,rfl,q1⟩)
noncomputable def tIf (t:TT)(ta tb:TE):TE:=λσ H Q=>t σ H λc H1=>if c=true then ta σ H1 Q else tb σ H1 Q
theorem tZ {c:Expr}(hc:PT X c tA)(ha:PE X a ta)(hb:PE X b tb):PE X (.IfExp c a b pos) (tIf tA ta tb):=by
 intro pins s σ H Q I h;refine wpAny_IfExp (thn (hc pins s σ H _ I h) λd s1 ⟨H1,I1,q1⟩=> ?_);cases d with
 |true=>exact ha pins s1 σ H1 Q I1 q1
 |false=>exact hb pins s1 σ H1 Q I1 q1
end
noncomputable def SqL (K:W.Frag)(H:Hp)(a:Addr)(xs:List V):Prop:=
 Rd H a (.lst xs)\/
  ∃(o:Obj)(its:Array Value)(n:Nat),K.lookup a=some o/\o.cls= .type "list"/\o.dict=none/\o.data= .seq its n/\its.size<=sizeLine/\Vals xs its.toList
noncomputable def SqT (K:W.Frag)(H:Hp)(a:Addr)(xs:List V):Prop:=
 Rd H a (.tup xs)\/
  ∃(o:Obj)(its:Array Value)(n:Nat),K.lookup a=some o/\o.cls= .type "tuple"/\o.data= .seq its n/\its.size<=sizeLine/\Vals xs its.toList
noncomputable def A9r:Value->Option V
 | .none=>some .non
 | .bool b=>some (.bl b)
 | .int i _=>some (.int i)
 | .str x _=>some (.str x)
 | .bytes b _=>some (.byt b)
 | .float b _=>some (.flt b)
 | .ref a=>some (.ref a)
 | .type n=>some (.ty n)
 |_=>none
theorem RelV.abs {x:V}{u:Value}(r:RelV x u):A9r u=some x:=by
 cases x with
 |non=>cases r;rfl
 |bl _=>cases r;rfl
 |int _=>obtain⟨t,rfl⟩:=r;rfl
 |str _=>obtain⟨t,rfl⟩:=r;rfl
 |byt _=>obtain⟨t,rfl⟩:=r;rfl
 |flt _=>obtain⟨t,rfl⟩:=r;rfl
 |ref _=>cases r;rfl
 |ty _=>cases r;rfl
theorem RelV.inj {x y:V}{u:Value}(r:RelV x u)(q:RelV y u):x=y:=Option.some.inj (r.abs.symm.trans q.abs)
theorem Vals.inj:∀{xs ys:List V}{us:List Value},Vals xs us->Vals ys us->xs=ys
 |_,_,_,.nil,.nil=>rfl
 |_,_,_,.cons r t,.cons r' t'=>by rw[r.inj r',Vals.inj t t']
section
variable {X:Cx}{pins:List (Addr×Obj)}{σ:St}{H:Hp}{s:Shared}{a:Addr}{xs ys:List V}
theorem SqL.of {K:W.Frag}(h:H a=some (.lst xs)):SqL K H a xs:=.inl (.inl h)
theorem SqT.of {K:W.Frag}(h:H a=some (.tup xs)):SqT K H a xs:=.inl (.inl h)
theorem Inv.list (I:Inv X pins σ H s)(h:SqL X.K H a xs):∃its:List Value,Vals xs its/\PlainL s.heap a its.toArray/\xs.length<=sizeLine:=by
 rcases h with h| ⟨o,its,n,hk,hc,hd,hs,hz,r⟩
 ·obtain⟨z,its,n,r,e⟩:=h.ok I.hok;exact⟨its,r,⟨_,n,e,rfl,rfl,rfl⟩,z⟩
 ·refine⟨its.toList,r,⟨o,n,I.kIn a o hk,hc,hd,by simpa using hs⟩,?_⟩;have e:=r.length;simp only[Array.length_toList]at e;omega
theorem Inv.tuple (I:Inv X pins σ H s)(h:SqT X.K H a xs):∃its:List Value,Vals xs its/\IsTup s.heap a its.toArray/\xs.length<=sizeLine:=by
 rcases h with h| ⟨o,its,n,hk,hc,hs,hz,r⟩
 ·obtain⟨z,its,r,p⟩:=h.ok I.hok;exact⟨its,r,p,z⟩
 ·refine⟨its.toList,r,⟨o,I.kIn a o hk,hc,n,by simpa using hs⟩,?_⟩;have e:=r.length;simp only[Array.length_toList]at e;omega
theorem Inv.list_inj (I:Inv X pins σ H s)(h:SqL X.K H a xs)(h':SqL X.K H a ys):xs=ys:=by
 obtain⟨its,r,⟨o,n,e,_,_,d⟩,_⟩:=I.list h;obtain⟨its',r',⟨o',n',e',_,_,d'⟩,_⟩:=I.list h';rw[e]at e';cases e';rw[d]at d';injection d' with d1 _
 have:its=its':=by simpa using congrArg Array.toList d1
 subst this;exact r.inj r'
theorem Inv.tuple_inj (I:Inv X pins σ H s)(h:SqT X.K H a xs)(h':SqT X.K H a ys):xs=ys:=by
 obtain⟨its,r,⟨o,e,_,n,d⟩,_⟩:=I.tuple h;obtain⟨its',r',⟨o',e',_,n',d'⟩,_⟩:=I.tuple h';rw[e]at e';cases e';rw[d]at d';injection d' with d1 _
 have:its=its':=by simpa using congrArg Array.toList d1
 subst this;exact r.inj r'
end
noncomputable abbrev Cx.wish (X:Cx)(E:Value->Shared->Prop):Cx:={X with xe:=E}
noncomputable abbrev Cx.nox (X:Cx):Cx:=X.wish λ_ _=>False
theorem Cx.Ok.wish {X:Cx}(ok:X.Ok)(E:Value->Shared->Prop):(X.wish E).Ok:=
 ⟨ok.mod,ok.kind,ok.glob,ok.blt,ok.above,ok.inj,ok.has,ok.cab,ok.hd,ok.frames,ok.stk,ok.exf,ok.bs,ok.bsz,ok.noex,ok.exfs,ok.funs,ok.frf⟩
theorem Cx.Ok.unwish {X:Cx}{E:Value->Shared->Prop}(ok:(X.wish E).Ok):X.Ok:=
 ⟨ok.mod,ok.kind,ok.glob,ok.blt,ok.above,ok.inj,ok.has,ok.cab,ok.hd,ok.frames,ok.stk,ok.exf,ok.bs,ok.bsz,ok.noex,ok.exfs,ok.funs,ok.frf⟩
section
variable {X:Cx}{pins:List (Addr×Obj)}{σ:St}{H:Hp}{s:Shared}{E:Value->Shared->Prop}
theorem Inv.wish (I:Inv X pins σ H s)(E:Value->Shared->Prop):Inv (X.wish E) pins σ H s:=⟨I.ok.wish E,I.os,I.bare,I.base,I.loc,I.cell,I.free,I.freeC,I.pin,I.hok,I.len⟩
theorem Inv.unwish (I:Inv (X.wish E) pins σ H s):Inv X pins σ H s:=⟨I.ok.unwish,I.os,I.bare,I.base,I.loc,I.cell,I.free,I.freeC,I.pin,I.hok,I.len⟩
theorem SP.unwish {D:dR}{f:Flow}{s':Shared}(h:SP (X.wish E) pins D f s'):SP X pins D f s':=by
 cases f with
 |next=>obtain⟨σ',H',I,q⟩:=h;exact⟨σ',H',I.unwish,q⟩
 |brk=>obtain⟨σ',H',I,q⟩:=h;exact⟨σ',H',I.unwish,q⟩
 |cont=>obtain⟨σ',H',I,q⟩:=h;exact⟨σ',H',I.unwish,q⟩
 |ret u=>obtain⟨v,σ',H',I,r,q⟩:=h;exact⟨v,σ',H',I.unwish,r,q⟩
theorem PSs.nox {st:List Stmt}{t:TS}(h:PSs X.nox st t):PSs X st t:=λpins s σ H D I hw=>
 wpAny_mono (h pins s σ H D (I.wish _) hw) (λ_ _ q=>q.unwish) λ_ _ z=>False.elim z
end
section
variable {X:Cx}{st:Stmt}{rest:List Stmt}{t u:TS}{e:Expr}{te:TE}{pos:Pos}
noncomputable def A4j:TS:=λD σ H=>D.nx σ H
noncomputable def zH (t u:TS):TS:=λD σ H=>t {D with nx:=u D} σ H
theorem bL:PSs X [] A4j:=λ_ _ σ H _ I h=>wpAny_execs_nil ⟨σ,H,I,h⟩
theorem aU (h1:PS X st t)(h2:PSs X rest u):PSs X (st::rest) (zH t u):=by
 intro pins s σ H D I h;refine wpAny_execs_cons (thn (h1 pins s σ H {D with nx:=u D} I h) λf s1 q=> ?_);cases f with
 |next=>
  obtain⟨σ',H',I',q⟩:=q;exact h2 pins s1 σ' H' D I' q
 |ret v=>exact q
 |brk=>exact q
 |cont=>exact q
theorem aM (h1:PS X st t):PSs X [st] t:=by
 intro pins s σ H D I h;refine wpAny_execs_cons (thn (h1 pins s σ H D I h) λf s1 q=> ?_);cases f with
 |next=>exact wpAny_execs_nil q
 |ret v=>exact q
 |brk=>exact q
 |cont=>exact q
theorem Inv.quiet {pins:List (Addr×Obj)}{σ:St}{H:Hp}{s:Shared}(I:Inv X pins σ H s):interactive X.env=false:=by simp[interactive,I.ok.kind]
noncomputable def A45 (te:TE):TS:=λD σ H=>te σ H λ_ H1=>D.nx σ H1
theorem cK (he:PE X e te)(hs:swapsWith e none pos.line X.env=pure false:=by rfl):PS X (.Expr e pos) (A45 te):=by intro pins s σ H D I h;exact wpAny_Expr_any (thn (he pins s σ H _ I h) λv s1 ⟨x,H1,I1,r1,q1⟩=> ⟨σ,H1,I1,q1⟩) I.quiet hs
noncomputable def oV (te:TE):TS:=λD σ H=>te σ H D.rt
theorem bC (he:PE X e te):PS X (.Return (some e) pos) (oV te):=by intro pins s σ H D I h;exact wpAny_Return_some (thn (he pins s σ H _ I h) λv s1 ⟨x,H1,I1,r1,q1⟩=> ⟨x,σ,H1,I1,r1,q1⟩)
noncomputable def A6x (c:TT)(t u:TS):TS:=λD σ H=>c σ H λb H1=>if b=true then t D σ H1 else u D σ H1
theorem bK {c:Expr}{a b:List Stmt}{tc:TT}(hc:PT X c tc)(ha:PSs X a t)(hb:PSs X b u):PS X (.If c a b pos) (A6x tc t u):=by
 intro pins s σ H D I h;refine wpAny_If (thn (hc pins s σ H _ I h) λd s1 ⟨H1,I1,q1⟩=> ?_);cases d with
 |true=>exact ha pins s1 σ H1 D I1 q1
 |false=>exact hb pins s1 σ H1 D I1 q1
noncomputable def B1a:TS:=λ_ _ _=>False
theorem fQ {sts:List Stmt}:PSs X sts B1a:=λ_ _ _ _ _ _ h=>h.elim
end
noncomputable abbrev TG:=V->St->Hp->(St->Hp->Prop)->Prop
noncomputable abbrev TGs:=List V->St->Hp->(St->Hp->Prop)->Prop
noncomputable def PG (X:Cx)(target:Expr)(t:TG):Prop:=
 ∀(pins:List (Addr×Obj))(s:Shared)(σ:St)(H:Hp)(v:V)(u:Value)(Q:St->Hp->Prop),Inv X pins σ H s->RelV v u->t v σ H Q->
  wpAny (model X.prog X.w) X.A (assign target X.env u) (λ_ s'=> ∃σ' H',Inv X pins σ' H' s'/\Q σ' H') X.xe s
noncomputable def PGs (X:Cx)(ts:List Expr)(t:TGs):Prop:=
 ∀(pins:List (Addr×Obj))(s:Shared)(σ:St)(H:Hp)(vs:List V)(us:List Value)(Q:St->Hp->Prop),Inv X pins σ H s->Vals vs us->t vs σ H Q->
  wpAny (model X.prog X.w) X.A (assignInOrder ((assignEach ts X.env).map (·.2)) us) (λ_ s'=> ∃σ' H',Inv X pins σ' H' s'/\Q σ' H') X.xe s
noncomputable abbrev pV:=V->V->V->Hp->(Hp->Prop)->Prop
noncomputable def A0e (X:Cx)(t:pV):Prop:=
 ∀(pins:List (Addr×Obj))(s:Shared)(σ:St)(H:Hp)(o i v:V)(ov iv u:Value)(Q:Hp->Prop),Inv X pins σ H s->RelV o ov->RelV i iv->RelV v u->t o i v H Q->
  wpAny (model X.prog X.w) X.A (setItem ov iv u) (λ_ s'=> ∃H',Inv X pins σ H' s'/\Q H') X.xe s
noncomputable abbrev TIp:=V->V->Hp->VK->Prop
noncomputable def PIp (X:Cx)(op:Operator)(t:TIp):Prop:=
 ∀(pins:List (Addr×Obj))(s:Shared)(σ:St)(H:Hp)(x y:V)(v u:Value)(Q:VK),Inv X pins σ H s->RelV x v->RelV y u->t x y H Q->
  wpAny (model X.prog X.w) X.A (inplaceOp op v u) (EP X pins σ Q) X.xe s
section
variable {X:Cx}{pos:Pos}
noncomputable def cT (i:Nat):TG:=λv σ H Q=>Q (σ.set i (some v)) H
theorem aK {i:Nat}{x:Str}(hN:X.N.Nodup)(hi:X.N[i]?=some x)(hx:Loc X.env.scope x)(hf:X.fn x=true\/X.env.scope.names.lookup x=some .local:=by first|exact .inl rfl|exact .inr rfl|assumption):PG X (.Name x pos) (cT i):=by intro pins s σ H v u Q I r h;exact wpAny_assign_Name (jS I hN hi hx r (λs' I'=> ⟨_,H,I',h⟩) hf)
theorem nm1 (i:Nat)(hN:X.N.Nodup)(hi:X.N[i]?=some x:=by rfl)(hx:Loc X.env.scope x:=by exact .inl rfl)(hf:X.fn x=true\/X.env.scope.names.lookup x=some .local:=by first|exact .inl rfl|exact .inr rfl|assumption):PG X (.Name x pos) (cT i):=aK hN hi hx hf
noncomputable def gQ:TGs:=λvs σ H Q=>vs=[]/\Q σ H
noncomputable def eF (t:TG)(u:TGs):TGs:=λvs σ H Q=> ∃v r,vs=v::r/\t v σ H λσ' H'=>u r σ' H' Q
theorem bR:PGs X [] gQ:=by intro pins s σ H vs us Q I r h;obtain⟨e,h⟩:=h;subst e;cases r;exact assignInOrder_nil ⟨σ,H,I,h⟩
theorem bA {e:Expr}{es:List Expr}{t:TG}{u:TGs}(h1:PG X e t)(h2:PGs X es u)
  (hs:(assignEach (e::es) X.env).map (·.2)=assign e X.env::(assignEach es X.env).map (·.2):=by rfl):PGs X (e::es) (eF t u):=by
 intro pins s σ H vs us Q I r h;obtain⟨v,vr,e1,h⟩:=h;subst e1;cases r with
 |cons r rr=>
  rw[hs];refine assignInOrder_cons (thn (h1 pins s σ H _ _ _ I r h) λ_ s1 ⟨σ1,H1,I1,q1⟩=> ?_);exact h2 pins s1 σ1 H1 _ _ Q I1 rr q1
noncomputable def gN (K:W.Frag)(n:Nat)(t:TGs):TG:=λv σ H Q=> ∃a xs,v= .ref a/\SqT K H a xs/\xs.length=n/\t xs σ H Q
theorem bP {es:List Expr}{k:Nat}{t:TGs}{n:Nat}(hc:X.calm=true)(h:PGs X es t)
  (hn:(assignEach es X.env).length=n:=by rfl)(hst:(assignEach es X.env).findIdx? (·.1)=none:=by rfl):PG X (.Tuple es k pos) (gN X.K n t):=by
 intro pins s σ H v u Q I r hw;obtain⟨a,xs,e1,hq,hl,hw⟩:=hw;subst e1;cases r;obtain⟨its,rv,ht,hz⟩:=I.tuple hq;refine assign_Tuple_tuple (I.ok.hd hc) ht (by simp[hn,←hl,rv.length]) hst λh' hx=> ?_;have I1:Inv X pins σ H {s with heap:=h'}:=I.kept (t':=s.toks) λb o e=>hx b o (ne_of_lt (zjT e)) e;exact h pins _ σ H xs _ Q I1 (by simpa using rv) hw
noncomputable def B0p (to ti:TE)(t:pV):TG:=λv σ H Q=>to σ H λo H1=>ti σ H1 λi H2=>t o i v H2 λH3=>Q σ H3
theorem tO {o i:Expr}{to ti:TE}{t:pV}(ho:PE X o to)(hi:PE X i ti)(hs:A0e X t)
  (ha:∀v,assign (.Subscript o i pos) X.env v=(do
   let ov←holding [v] (eval o X.env);let iv←holding [v,ov] (eval i X.env)
   standAt pos
   holding [v,ov,iv] (setItem ov iv v)
   release [v,ov,iv] []):=by intro _;rfl):PG X (.Subscript o i pos) (B0p to ti t):=by
 intro pins s σ H v u Q I r h;rw[ha];refine zjZ (wpAny_holding (thn (ho pins s σ H _ I h) λov s1 ⟨x,H1,I1,r1,q1⟩=> ?_));refine zjZ (wpAny_holding (thn (hi pins s1 σ H1 _ I1 q1) λiv s2 ⟨y,H2,I2,r2,q2⟩=> ?_));refine zjZ (wpAny_standAt (zjZ (wpAny_holding (thn (hs pins s2 σ H2 x y v ov iv u _ I2 r1 r2 r q2) λ_ s3 ⟨H3,I3,q3⟩=> ?_))));exact wpAny_release ⟨σ,H3,I3,q3⟩
noncomputable def kW (te:TE)(g:TG):TS:=λD σ H=>te σ H λx H1=>g x σ H1 D.nx
theorem eO {tg e:Expr}{te:TE}{g:TG}(he:PE X e te)(hg:PG X tg g)(hs:swapsWithSole [tg] e pos.line X.env=pure false:=by rfl)(hw:swappedStores [tg] e X.env=pure none:=by rfl)
  (h1:(assignEach [tg] X.env).map (·.2)=[assign tg X.env]:=by rfl):PS X (.Assign [tg] e pos) (kW te g):=by
 intro pins s σ H D I h;refine wpAny_Assign_stores (thn (he pins s σ H _ I h) λv s1 ⟨x,H1,I1,r1,q1⟩=> ?_) hs hw;rw[h1];exact thn (hg pins s1 σ H1 x v _ I1 r1 q1) λ_ s2 q=>q
theorem bX {i:Nat}{x:Str}{e:Expr}{te:TE}{pos':Pos}(hN:X.N.Nodup)(hi:X.N[i]?=some x)(hx:Loc X.env.scope x)(he:PE X e te)(hs:swapsWith e (some (.Name x pos')) pos.line X.env=pure false:=by rfl)(hf:X.fn x=true\/X.env.scope.names.lookup x=some .local:=by first|exact .inl rfl|exact .inr rfl|assumption):
  PS X (.Assign [.Name x pos'] e pos) (kW te (cT i)):=by
 intro pins s σ H D I h;refine wpAny_Assign_Name (thn (he pins s σ H _ I h) λv s1 ⟨y,H1,I1,r1,q1⟩=> ?_) hs;exact jS I1 hN hi hx r1 (λs2 I2=> ⟨_,H1,I2,q1⟩) hf
noncomputable def B0j (i j:Nat)(ta:TA):TS:=λD σ H=>ta σ H λvs H1=> ∃v w,vs=[v,w]/\D.nx ((σ.set i (some v)).set j (some w)) H1
theorem iF {i j:Nat}{x y:Str}{a b:Expr}{ta:TA}{px py pt:Pos}{kt k2 pt2}(hc:X.calm=true)(hN:X.N.Nodup)(hi:X.N[i]?=some x)(hj:X.N[j]?=some y)(hij:i≠j)
  (hx:X.env.scope.names.lookup x=some .local)(hy:X.env.scope.names.lookup y=some .local)(ha:PA X [a,b] ta)
  (hw:swappedStores [.Tuple [.Name x px,.Name y py] kt pt] (.Tuple [a,b] k2 pt2) X.env=pure (some [x,y]))
  (hs:swapsWithSole [.Tuple [.Name x px,.Name y py] kt pt] (.Tuple [a,b] k2 pt2) pos.line X.env=pure false:=by rfl):
  PS X (.Assign [.Tuple [.Name x px,.Name y py] kt pt] (.Tuple [a,b] k2 pt2) pos) (B0j i j ta):=by
 intro pins s σ H D I h;rw[exec_Assign_arm];refine zjZ (wpAny_standAt ?_);rw[hs];refine zjZ (zjY ?_);rw[if_neg (by decide)];refine zjZ (Tuple_ (thn (ha _ pins s σ H _ I h) λus s1 ⟨vs,H1,I1,r1,q1⟩=> ?_));obtain⟨v,w,e1,q1⟩:=q1;subst e1;obtain⟨u1,u2,rfl,rv,rw'⟩:∃u1 u2,us=[u1,u2]/\RelV v u1/\RelV w u2:=by
  cases r1 with
  |cons p q=>
   cases q with
   |cons p' q'=>
    cases q';exact⟨_,_,rfl,p,p'⟩
 refine wpAny_newObj_type ?_ (by show 2<=sizeLine;decide);have I2:Inv X pins σ H1 {s1 with heap:=s1.heap.push {cls:=.type "tuple",data:=.seq [u1,u2].toArray}}:=I1.kept (t':=s1.toks) λb o e=>zjX _ e;rw[hw];refine zjZ (zjY ?_)
 show wpAny (model X.prog X.w) X.A (do rule "assign.swapped-stores";let items←unpackItems (.ref s1.heap.objs.size) 2 none;assignInOrder [λv=>bindName X.env y v,λv=>bindName X.env x v] items.reverse;pure Flow.next) _ _ _;refine zjZ (wpAny_rule (zjZ (unpackItems_tuple (items:=#[u1,u2]) (I.ok.hd hc) (IsTup.new s1.heap _) λh' hx'=> ?_)));have I3:=I2.kept (h':=h') (t':=s1.toks) λb o e=>hx' b o (ne_of_lt (zjT e)) e;show wpAny _ _ (assignInOrder [λv=>bindName X.env y v,λv=>bindName X.env x v] [u2,u1]>>=λ_=>pure Flow.next) _ _ _;refine zjZ (assignInOrder_cons (wpAny_bindName (jS I3 hN hj (.inl hy) rw' (λs2 I4=> ?_) (.inr hy))));refine assignInOrder_cons (wpAny_bindName (jS I4 hN hi (.inl hx) rv (λs3 I5=>assignInOrder_nil (zjY ?_)) (.inr hx)));rw[List.set_comm _ _ (Ne.symm hij)]at I5;exact⟨_,H1,I5,q1⟩
noncomputable def A9i (i:Nat)(te:TE)(ti:TIp):TS:=λD σ H=> ∃x,σ[i]?=some (some x)/\te σ H λy H1=>ti x y H1 λz H2=>D.nx (σ.set i (some z)) H2
theorem A60 {i:Nat}{x:Str}{e:Expr}{te:TE}{op:Operator}{ti:TIp}{pos':Pos}(hN:X.N.Nodup)(hi:X.N[i]?=some x)(hx:Loc X.env.scope x)(he:PE X e te)(ho:PIp X op ti)(hf:X.fn x=true\/X.env.scope.names.lookup x=some .local:=by first|exact .inl rfl|exact .inr rfl|assumption):
  PS X (.AugAssign (.Name x pos') op e pos) (A9i i te ti):=by
 intro pins s σ H D I h;obtain⟨v,e1,h⟩:=h;obtain⟨m,hn,hl⟩:=I.loc;have vis:Vis X.env.scope x:=by rcases hx with k|k;exact .inl k;exact .inr (.inl k)
 obtain⟨u,r,l⟩:=hl i x v hi e1 vis;refine wpAny_AugAssign_Name ?_;have go:wpAny (model X.prog X.w) X.A (eval e X.env) (λw s₂=>wpAny (model X.prog X.w) X.A (inplaceOp op u w) (λr s₃=>wpAny (model X.prog X.w) X.A (storeName X.env x r) (λ_=>SP X pins D .next) X.xe s₃) X.xe s₂) X.xe s:=by
  refine thn (he pins s σ H _ I h) λw s1 ⟨y,H1,I1,r1,q1⟩=> ?_;refine thn (ho pins s1 σ H1 v y u w _ I1 r r1 q1) λz s2 ⟨zv,H2,I2,r2,q2⟩=> ?_;exact jS I2 hN hi hx r2 (λs3 I3=> ⟨_,H2,I3,q2⟩) hf
 rcases l with⟨hk,hm⟩| ⟨hk,c,hc,hcell⟩
 ·exact wpAny_loadName_local I.ok.kind hk hn hm go
 ·rcases hk with hk|hk
  ·exact wpAny_loadName_cell I.ok.kind hk hc hcell go
  ·rcases hx with k|k
   ·have:X.env.scope.names.lookup x=some .free:=hk;rw[k]at this;cases this
   ·have:X.env.scope.names.lookup x=some .free:=hk;rw[k]at this;cases this
noncomputable def ipI (f:Int->Int->Int):TIp:=λx y H Q=> ∃i j,x= .int i/\y= .int j/\Q (.int (f i j)) H
theorem B12:PIp X .Add (ipI λi j=>i+j):=by intro pins s σ H x y v u Q I r1 r2 h;obtain⟨i,j,e1,e2,q⟩:=h;subst e1;subst e2;obtain⟨t,rfl⟩:=r1;obtain⟨t',rfl⟩:=r2;exact iadd_int ⟨.int _,H,I.tok _,⟨_,rfl⟩,q⟩
end
section
variable {X:Cx}{pos:Pos}
noncomputable def A1m (c:TT)(tb:TS):TS:=λD σ H=> ∃W:Nat->St->Hp->Prop,(∃m,W m σ H)/\∀m σ H,W m σ H->
 c σ H λb H1=>if b=true then∃N:St->Hp->Prop,(∀σ' H',N σ' H'->∃m',m'<m/\W m' σ' H')/\tb {D with nx:=N,ct:=N,bk:=D.nx} σ H1 else D.nx σ H1
theorem tU {c:Expr}{body:List Stmt}{tc:TT}{tb:TS}(hp:PassesOwn (model X.prog X.w) X.A X.env X.xe)(hc:PT X c tc)(hb:PSs X body tb):PS X (.While c body [] pos) (A1m tc tb):=by
 intro pins s σ H D I h;obtain⟨W,⟨m0,w0⟩,turn⟩:=h;refine wpAny_While (codeAny_whileLoop (λn s'=> ∃σ' H',Inv X pins σ' H' s'/\W n σ' H') ?_ m0 ⟨σ,H,I,w0⟩);rintro n s1 ⟨σ1,H1,I1,w1⟩;refine wpAny_passesOwn hp (thn (hc pins s1 σ1 H1 _ I1 (turn n σ1 H1 w1)) λb s2 ⟨H2,I2,q2⟩=> ?_);cases b with
 |true=>
  obtain⟨N,hN,q2⟩:=q2;rw[if_pos rfl];refine wpAny_passesOwn hp (thn (hb pins s2 σ1 H2 _ I2 q2) λf s3 q3=> ?_);cases f with
  |next=>
   obtain⟨σ3,H3,I3,n3⟩:=q3;obtain⟨m',hm,w3⟩:=hN σ3 H3 n3;exact⟨m',hm,σ3,H3,I3,w3⟩
  |cont=>
   obtain⟨σ3,H3,I3,n3⟩:=q3;obtain⟨m',hm,w3⟩:=hN σ3 H3 n3;exact⟨m',hm,σ3,H3,I3,w3⟩
  |brk=>exact q3
  |ret v=>exact q3
 |false=>
  rw[if_neg Bool.false_ne_true];exact wpAny_execs_nil ⟨σ1,H2,I2,q2⟩
end
structure It where
 go:Nat->Hp->Prop
 yld:Nat->Hp->V->Hp->Prop
 stop:Nat->Hp->Prop
noncomputable def fO (X:Cx)(pins:List (Addr×Obj))(H:Hp)(b:Addr):Prop:=
 H b=none/\b≠X.env.locals/\b∉X.fs/\(b∈X.ex\/X.s₀.heap.objs.size<=b)/\(∀x c,X.env.cells.lookup x=some c->c≠b)/\∀p∈X.pn++pins,p.1≠b
theorem Inv.fpOk {X:Cx}{pins:List (Addr×Obj)}{σ:St}{H H':Hp}{s:Shared}{b:Addr}(I:Inv X pins σ H s)(hb:s.heap.objs.size<=b)(hn:H' b=none):fO X pins H' b:=by
 refine⟨hn,ne_of_gt (lt_of_lt_of_le I.lt hb),I.nofs hb,.inr (le_trans I.sz hb),λx c e z=> ?_,λp hp z=> ?_⟩
 ·obtain⟨v,q⟩:=I.cell x c e;exact absurd (lt_of_lt_of_le q.lt (by rw[z];exact hb)) (lt_irrefl _)
 ·exact absurd (lt_of_lt_of_le (zjT (I.pin p hp).1) (by rw[z];exact hb)) (lt_irrefl _)
structure hJ (P:Program)(w:World)(K:W.Frag)(tg:Expr)(J:It)(fp:List Addr)(it:Addr)(tn:Nat->Heap->Prop):Prop where
 mem:it∈fp
 obj:∀i h,tn i h->∀b∈fp,∃o,h.get? b=some o/\∀v,o.data≠ .cell v
 keep:∀i h h',tn i h->(∀b∈fp,∀o,h.get? b=some o->h'.get? b=some o)->tn i h'
 item:∀(X:Cx),X.prog=P->X.w=w->X.K=K->X.calm=true->∀(i:Nat)(pins:List (Addr×Obj))(s:Shared)(σ:St)(H:Hp)(E:Value->Shared->Prop),Inv X pins σ H s->(∀b∈fp,fO X pins H b)->tn i s.heap->J.go i H->
  wpAny (model P w) X.A (pyNext (.ref it)) (λr s1=> ∃u,r=some u/\
   wpAny (model P w) X.A (letOwnedTupleGo tg (.ref it) u) (λ_ s2=> ∃x H',Inv X pins σ H' s2/\RelV x u/\J.yld i H x H'/\tn (i+1) s2.heap/\∀b∈fp,H' b=none) E s1) E s
 done:∀(X:Cx),X.prog=P->X.w=w->X.K=K->X.calm=true->∀(i:Nat)(pins:List (Addr×Obj))(s:Shared)(σ:St)(H:Hp)(E:Value->Shared->Prop),Inv X pins σ H s->(∀b∈fp,fO X pins H b)->tn i s.heap->J.stop i H->
  wpAny (model P w) X.A (pyNext (.ref it)) (λr s1=>r=none/\Inv X pins σ H s1) E s
 self:∀(A:Around)(i:Nat)(s:Shared)(Q:Value->Shared->Prop)(E:Value->Shared->Prop),tn i s.heap->Q (.ref it) s->wpAny (model P w) A (pyIter (.ref it)) Q E s
noncomputable abbrev TI:=St->Hp->(It->Hp->Prop)->Prop
noncomputable def PIE (X:Cx)(pins:List (Addr×Obj))(σ:St)(tg:Expr)(R:It->Hp->Prop)(itv:Value)(s2:Shared):Prop:=
 ∃(it:Addr)(fp:List Addr)(tn:Nat->Heap->Prop)(J:It)(H':Hp),itv= .ref it/\Inv X pins σ H' s2/\hJ X.prog X.w X.K tg J fp it tn/\tn 0 s2.heap/\(∀b∈fp,fO X pins H' b)/\R J H'
noncomputable def PI (X:Cx)(tg iter:Expr)(wi:TI):Prop:=
 ∀(pins:List (Addr×Obj))(s:Shared)(σ:St)(H:Hp)(R:It->Hp->Prop),Inv X pins σ H s->wi σ H R->
  wpAny (model X.prog X.w) X.A (eval iter X.env) (λv s1=>wpAny (model X.prog X.w) X.A (pyIter v) (PIE X pins σ tg R) X.xe s1) X.xe s
theorem qD {M:Model}{A:Around}{E:Value->Shared->Prop}{s:Shared}{tg:Expr}{it:Addr}{u:Value}{o:Obj}{n:String}{vs:Array Value}{Q:Unit->Shared->Prop}(ho:s.heap.get? it=some o)(hc:o.cls= .type n)(hd:o.data= .fields vs)
    (hn:["enumerate","zip","dict_itemiterator","dict_reverseitemiterator","odict_iterator","itertools.zip_longest","itertools.pairwise"].contains n=false)(hQ:Q () s):wpAny M A (letOwnedTupleGo tg (.ref it) u) Q E s:=by
  unfold letOwnedTupleGo;cases tg<;>first
    |exact zjY hQ
    | (cases u<;>first
        |exact zjY hQ
        | (refine zjZ (wpAny_load ho ?_)
           rw[hc,hd];show wpAny M A (if (["enumerate","zip","dict_itemiterator","dict_reverseitemiterator","odict_iterator","itertools.zip_longest","itertools.pairwise"].contains n&&vs[0]?==some (rawInt _))=true then _ else _) Q E s;rw[if_neg (by intro h;rw[hn,Bool.false_and]at h;cases h)];exact zjY hQ))
noncomputable def Itl (K:W.Frag)(a:Addr):It:=
 ⟨λi H=> ∃xs x,SqL K H a xs/\xs[i]?=some x,λi H x H'=>H'=H/\∀xs,SqL K H a xs->xs[i]?=some x,λi H=> ∃xs,SqL K H a xs/\xs.length<=i⟩
noncomputable def Itt (K:W.Frag)(a:Addr):It:=
 ⟨λi H=> ∃xs x,SqT K H a xs/\xs[i]?=some x,λi H x H'=>H'=H/\∀xs,SqT K H a xs->xs[i]?=some x,λi H=> ∃xs,SqT K H a xs/\xs.length<=i⟩
noncomputable def Itr (lo:Int)(n:Nat):It:=⟨λi _=>i<n,λi H x H'=>H'=H/\x= .int (lo+i),λi _=>n<=i⟩
theorem A5q {P:Program}{w:World}{K:W.Frag}{tg:Expr}(a it:Addr):hJ P w K tg (Itl K a) [it] it (λi h=>h.IsListIter it a i)where
 mem:=by simp
 obj:=λi h st b hb=>by
  have e:b=it:=by simpa using hb
  subst e;obtain⟨o,e,c,d⟩:=st;exact⟨o,e,λv z=>by rw[d]at z;cases z⟩
 keep:=λi h h' st k=>st.at λo e=>k it (by simp) o e
 item:=by
  intro X hP hw hK hc i pins s σ H E I hf st hg;subst hP hw hK;obtain⟨xs,x,hq,hx⟩:=hg;obtain⟨its,rv,p,hz⟩:=I.list hq;obtain⟨u,hu,ru⟩:=rv.get hx;obtain⟨f0,f1,f2,f3,f4,f5⟩:=hf it (by simp);refine wpAny_pyNext_list_item st p.isList (x:=u) (by simpa using hu) λh' st' sb=> ?_;have I1:Inv X pins σ H {s with heap:=h'}:=I.turned (t':=s.toks) (λb o hb e=>(sb.2 b hb).trans e) f0 f1 f3 f4 f5;obtain⟨o,e,c,d⟩:=id st';exact⟨u,rfl,qD (s:={s with heap:=h'}) e c d (by decide) ⟨x,H,I1,ru,⟨rfl,λys hy=>by rw[I.list_inj hy hq];exact hx⟩,st',λb hb=>(hf b hb).1⟩⟩
 done:=by
  intro X hP hw hK hc i pins s σ H E I hf st hg;subst hP hw hK;obtain⟨xs,hq,hx⟩:=hg;obtain⟨its,rv,p,hz⟩:=I.list hq;obtain⟨f0,f1,f2,f3,f4,f5⟩:=hf it (by simp);have hl:=rv.length;exact wpAny_pyNext_list_end (I.ok.hd hc) st p.isList (by simp;omega) λh' eb=> ⟨rfl,I.turned (t':=s.toks) (λb o hb e=>eb b o hb e) f0 f1 f3 f4 f5⟩
 self:=λ_ _ _ _ _ st h=>wpAny_pyIter_listiter st h
theorem A7o {P:Program}{w:World}{K:W.Frag}{tg:Expr}(a it:Addr):hJ P w K tg (Itt K a) [it] it (λi h=>h.IsTupleIter it a i)where
 mem:=by simp
 obj:=λi h st b hb=>by
  have e:b=it:=by simpa using hb
  subst e;obtain⟨o,e,c,d⟩:=st;exact⟨o,e,λv z=>by rw[d]at z;cases z⟩
 keep:=λi h h' st k=>st.at λo e=>k it (by simp) o e
 item:=by
  intro X hP hw hK hc i pins s σ H E I hf st hg;subst hP hw hK;obtain⟨xs,x,hq,hx⟩:=hg;obtain⟨its,rv,p,hz⟩:=I.tuple hq;obtain⟨u,hu,ru⟩:=rv.get hx;obtain⟨f0,f1,f2,f3,f4,f5⟩:=hf it (by simp);refine wpAny_pyNext_tuple_item st (show s.heap.IsTuple a its.toArray from p) (x:=u) (by simpa using hu) λh' st' sb=> ?_;have I1:Inv X pins σ H {s with heap:=h'}:=I.turned (t':=s.toks) (λb o hb e=>(sb.2 b hb).trans e) f0 f1 f3 f4 f5;obtain⟨o,e,c,d⟩:=id st';exact⟨u,rfl,qD (s:={s with heap:=h'}) e c d (by decide) ⟨x,H,I1,ru,⟨rfl,λys hy=>by rw[I.tuple_inj hy hq];exact hx⟩,st',λb hb=>(hf b hb).1⟩⟩
 done:=by
  intro X hP hw hK hc i pins s σ H E I hf st hg;subst hP hw hK;obtain⟨xs,hq,hx⟩:=hg;obtain⟨its,rv,p,hz⟩:=I.tuple hq;obtain⟨f0,f1,f2,f3,f4,f5⟩:=hf it (by simp);have hl:=rv.length;exact wpAny_pyNext_tuple_end (I.ok.hd hc) st (show s.heap.IsTuple a its.toArray from p) (by simp;omega) λh' eb=> ⟨rfl,I.turned (t':=s.toks) (λb o hb e=>eb b o hb e) f0 f1 f3 f4 f5⟩
 self:=λ_ _ _ _ _ st h=>wpAny_pyIter_tupleiter st h
theorem B1l {P:Program}{w:World}{K:PySem.W.Frag}{tg:Expr}(it:Addr)(lo:Int)(n:Nat):hJ P w K tg (Itr lo n) [it] it (λi h=>IsRangeIter h it (lo+(i:Nat)*1) ((n:Int) -(i:Nat)) 1)where
 mem:=by simp
 obj:=λi h st b hb=>by
  have e:b=it:=by simpa using hb
  subst e;exact⟨_,st,λv z=>by
   have z':Data.fields _=Data.cell v:=z;cases z'⟩
 keep:=λi h h' st k=>k it (by simp) _ st
 item:=by
  intro X hP hw hK hc i pins s σ H E I hf st hg;subst hP hw hK;obtain⟨f0,f1,f2,f3,f4,f5⟩:=hf it (by simp);have W:=Walks.range (prog:=X.prog) (w:=X.w) (I.ok.hd hc) it lo 1 n;refine W.item i s _ _ hg st λv h' tk hv st' kk=> ?_;obtain⟨t,rfl⟩:=hv;have I1:Inv X pins σ H {s with heap:=h',toks:=tk}:=I.turned (λb o hb e=>kk b o (by simpa using hb) e) f0 f1 f3 f4 f5;refine⟨_,rfl,qD (s:={s with heap:=h',toks:=tk}) (n:="range_iterator") st' rfl rfl (by decide) ⟨.int (lo+i),H,I1,⟨t,?_⟩,⟨rfl,rfl⟩,st',λb hb=>(hf b hb).1⟩⟩;rw[Int.mul_one]
 done:=by
  intro X hP hw hK hc i pins s σ H E I hf st hg;subst hP hw hK;obtain⟨f0,f1,f2,f3,f4,f5⟩:=hf it (by simp);exact wpAny_pyNext_range_end (I.ok.hd hc) st (by have:n<=i:=hg;omega) λh' eb=> ⟨rfl,I.turned (t':=s.toks) (λb o hb e=>eb b o hb e) f0 f1 f3 f4 f5⟩
 self:=λ_ _ _ _ _ st h=>wpAny_pyIter_rangeiter st h
section
variable {X:Cx}{tg:Expr}
noncomputable def A96 (K:W.Frag)(tl:TE):TI:=λσ H R=>tl σ H λx H1=> ∃a,x= .ref a/\(∃xs,SqL K H1 a xs)/\R (Itl K a) H1
noncomputable def A50 (K:W.Frag)(tl:TE):TI:=λσ H R=>tl σ H λx H1=> ∃a,x= .ref a/\(∃xs,SqT K H1 a xs)/\R (Itt K a) H1
theorem cV {l:Expr}{tl:TE}(hl:PE X l tl):PI X tg l (A96 X.K tl):=by
 intro pins s σ H R I h;refine thn (hl pins s σ H _ I h) λv s1 ⟨x,H1,I1,r1,q1⟩=> ?_;obtain⟨a,e,⟨xs,hq⟩,q⟩:=q1;subst e;cases r1;obtain⟨its,rv,p,hz⟩:=I1.list hq;refine wpAny_pyIter_list p.isList ?_;refine⟨s1.heap.objs.size,[s1.heap.objs.size],_,_,H1,rfl,I1.kept (t':=s1.toks) λb o e=>zjX _ e,A5q a _,⟨_,get?_push_size _ rfl,rfl,rfl⟩,λb hb=> ?_,q⟩;have e:b=s1.heap.objs.size:=by simpa using hb
 subst e;exact I1.fpOk (zjQ _) (I1.hok.fresh (zjQ _))
theorem cR {l:Expr}{tl:TE}(hl:PE X l tl):PI X tg l (A50 X.K tl):=by
 intro pins s σ H R I h;refine thn (hl pins s σ H _ I h) λv s1 ⟨x,H1,I1,r1,q1⟩=> ?_;obtain⟨a,e,⟨xs,hq⟩,q⟩:=q1;subst e;cases r1;obtain⟨its,rv,p,hz⟩:=I1.tuple hq;refine wpAny_pyIter_tuple (show s1.heap.IsTuple a its.toArray from p) ?_;refine⟨s1.heap.objs.size,[s1.heap.objs.size],_,_,H1,rfl,I1.kept (t':=s1.toks) λb o e=>zjX _ e,A7o a _,⟨_,get?_push_size _ rfl,rfl,rfl⟩,λb hb=> ?_,q⟩;have e:b=s1.heap.objs.size:=by simpa using hb
 subst e;exact I1.fpOk (zjQ _) (I1.hok.fresh (zjQ _))
theorem A7l {pins:List (Addr×Obj)}{σ:St}{H:Hp}{s:Shared}{R:It->Hp->Prop}{E:Value->Shared->Prop}{lo hi:Int}{t u v:Tok}{tk:Nat}(I:Inv X pins σ H s)(h1:-(2^62)<=lo)(h2:lo<2^62)(h3:-(2^62)<=hi)(h4:hi<2^62)
  (q:R (Itr lo (hi - lo).toNat) H):wpAny (model X.prog X.w) X.A (pyIter (.ref s.heap.objs.size)) (PIE X pins σ tg R) E {s with heap:=s.heap.push {cls:=.type "range",data:=.fields #[.int lo t,.int hi u,.int 1 v]},toks:=tk}:=by
 refine wpAny_pyIter_range (IsRange.new ..) (small_one h1 h2 h3 h4) ?_;have I1:Inv X pins σ H {s with heap:=s.heap.push {cls:=.type "range",data:=.fields #[.int lo t,.int hi u,.int 1 v]},toks:=tk}:=I.kept λb o e=>zjX _ e;refine⟨(s.heap.push {cls:=.type "range",data:=.fields #[.int lo t,.int hi u,.int 1 v]}).objs.size,[(s.heap.push {cls:=.type "range",data:=.fields #[.int lo t,.int hi u,.int 1 v]}).objs.size],_,_,H,rfl,
  I1.kept (t':=tk) λb o e=>zjX _ e,B1l _ lo (hi - lo).toNat,?_,λb hb=> ?_,q⟩
 ·have e1:lo+((0:Nat):Int)*1=lo:=by simp
  have e2:(((hi - lo).toNat:Nat):Int) -((0:Nat):Int)=Builtin.Range.rangeSize lo hi 1:=by rw[rangeSize_one];split<;>omega
  show IsRangeIter _ _ (lo+((0:Nat):Int)*1) ((((hi - lo).toNat:Nat):Int) -((0:Nat):Int)) 1;rw[e1,e2];exact get?_push_size _ rfl
 ·have e:b=(s.heap.push {cls:=.type "range",data:=.fields #[.int lo t,.int hi u,.int 1 v]}).objs.size:=by simpa using hb
  subst e;exact I1.fpOk (zjQ _) (I1.hok.fresh (zjQ _))
noncomputable def A3r (ta:TA):TI:=λσ H R=>ta σ H λvs H1=> ∃j:Int,vs=[.int j]/\-(2^62)<=j/\j<2^62/\R (Itr 0 j.toNat) H1
theorem kX {a:Expr}{ta:TA}{p pos:Pos}(hg:Gl X "range")(hm:X.mg "range" =none)(ha:PA X [a] ta)(hs:starEach [a] X.env=[(false,eval a X.env)]:=by rfl):PI X tg (.Call (.Name "range" p) [a] [] pos) (A3r ta):=by
 intro pins s σ H R I h;refine Call_ (jB I hg hm boot_range (PyProof.Rows.callWith_type1 (thn (ha pos pins s σ H _ I h) λus s1 ⟨vs,H1,I1,r1,q1⟩=> ?_) hs rfl));obtain⟨j,e,q1,q2,q⟩:=q1;subst e;cases r1 with
 |cons r rr=>
  cases rr;obtain⟨t,rfl⟩:=r;exact call_range_1 (A7l I1 (by omega) (by omega) q1 q2 (by simpa using q))
noncomputable def A6l (wi:TI)(g:TG)(tb:TS):TS:=λD σ H=>wi σ H λJ H1=> ∃W:Nat->Nat->St->Hp->Prop,(∃m,W 0 m σ H1)/\∀i m σ H,W i m σ H->
 (J.stop i H/\D.nx σ H)\/(J.go i H/\∃N:St->Hp->Prop,(∀σ' H',N σ' H'->∃m',m'<m/\W (i+1) m' σ' H')/\∀x H',J.yld i H x H'->g x σ H' λσ2 H2=>tb {D with nx:=N,ct:=N,bk:=D.nx} σ2 H2)
noncomputable def lE (fp:List Addr)(h:Heap):List (Addr×Obj):=fp.filterMap λb=>(h.get? b).map λo=>(b,o)
theorem mB {fp:List Addr}{h:Heap}{b:Addr}{o:Obj}(hb:b∈fp)(e:h.get? b=some o):(b,o)∈lE fp h:=mem_filterMap.mpr ⟨b,hb,by rw[e];rfl⟩
theorem A6m {fp:List Addr}{h:Heap}{p:Addr×Obj}(hp:p∈lE fp h):p.1∈fp/\h.get? p.1=some p.2:=by
 obtain⟨b,hb,e⟩:=mem_filterMap.mp hp;cases q:h.get? b with
 |none=>rw[q]at e;cases e
 |some o=>
  rw[q]at e;have e':(b,o)=p:=Option.some.inj e;subst e';exact⟨hb,q⟩
theorem Inv.pinned {pins:List (Addr×Obj)}{σ:St}{H:Hp}{s:Shared}{fp:List Addr}(I:Inv X pins σ H s)(hf:∀b∈fp,fO X pins H b)(ho:∀b∈fp,∃o,s.heap.get? b=some o/\∀v,o.data≠ .cell v):Inv X (pins++lE fp s.heap) σ H s:=
 I.pins_of λp hp=>(mem_append.mp hp).elim (λz=>I.pin p (mem_append_right _ z)) λz=>by
  obtain⟨hb,e⟩:=A6m z;obtain⟨f0,f1,f2,_⟩:=hf p.1 hb;obtain⟨o,e',d⟩:=ho p.1 hb;rw[e]at e';cases e';exact⟨e,f0,f1,f2,d⟩
theorem Inv.unpinned {pins pl:List (Addr×Obj)}{σ:St}{H:Hp}{s:Shared}(I:Inv X (pins++pl) σ H s):Inv X pins σ H s:=I.pins_of λp hp=>I.pin p (mem_append_right _ (mem_append_left _ hp))
theorem dX {iter:Expr}{body:List Stmt}{wi:TI}{g:TG}{tb:TS}{pos:Pos}(hp:PassesOwn (model X.prog X.w) X.A X.env X.xe)(hc:X.calm=true)(hi:PI X tg iter wi)(hg:PG X tg g)(hb:PSs X body tb)
  (hs:∀x,foldedSetIterable iter X.env x=pure x:=by intro _;rfl):PS X (.For tg iter body [] pos) (A6l wi g tb):=by
 intro pins s σ H D I h;refine wpAny_For (thn (hi pins s σ H _ I h) λv s1 h1=>thn h1 λitv s2 h2=> ?_) hs;obtain⟨it,fp,tn,J,H2,e,I2,T,st2,f2,W,⟨m0,w0⟩,turn⟩:=h2;subst e;have stat:∀{H':Hp},(∀b∈fp,H' b=none)->∀b∈fp,fO X pins H' b:=λhn b hb=> ⟨hn b hb,(f2 b hb).2⟩;refine codeAny_forLoop_any (λn s'=> ∃i σ' H',Inv X pins σ' H' s'/\tn i s'.heap/\(∀b∈fp,H' b=none)/\W i n σ' H') ?_ m0 ⟨0,σ,H2,I2,st2,λb hb=>(f2 b hb).1,w0⟩;rintro n s3 ⟨i,σ3,H3,I3,st3,fr3,w3⟩;rcases turn i n σ3 H3 w3 with⟨stop,qn⟩| ⟨go,N,hN,step⟩
 ·refine wpAny_passesOwn hp (thn (T.done X rfl rfl rfl hc i pins s3 σ3 H3 X.xe I3 (stat fr3) st3 stop) λr s4 ⟨hr,I4⟩=> ?_);subst hr;exact wpAny_execs_nil ⟨σ3,H3,I4,qn⟩
 ·refine wpAny_passesOwn hp (thn (T.item X rfl rfl rfl hc i pins s3 σ3 H3 X.xe I3 (stat fr3) st3 go) λr s4 ⟨u,hr,h4⟩=> ?_);subst hr;refine wpAny_passesOwn hp (thn h4 λ_ s5 ⟨x,H5,I5,r5,y5,st5,fr5⟩=> ?_);have I5':=I5.pinned (stat fr5) (T.obj _ _ st5);refine wpAny_passesOwn hp (thn (hg _ s5 σ3 H5 x u _ I5' r5 (step x H5 y5)) λ_ s6 ⟨σ6,H6,I6,q6⟩=> ?_);refine wpAny_passesOwn hp (thn (hb _ s6 σ6 H6 _ I6 q6) λf s7 q7=> ?_);have again:∀{σ7:St}{H7:Hp},Inv X (pins++lE fp s5.heap) σ7 H7 s7->N σ7 H7->∃m,m<n/\∃i σ' H',Inv X pins σ' H' s7/\tn i s7.heap/\(∀b∈fp,H' b=none)/\W i m σ' H':=fun{σ7 H7} I7 n7=>by
   obtain⟨m',hm,w7⟩:=hN σ7 H7 n7;refine⟨m',hm,i+1,σ7,H7,I7.unpinned,T.keep _ _ _ st5 λb hb o e=>(I7.pin (b,o) (mem_append_right _ (mem_append_right _ (mB hb e)))).1,λb hb=> ?_,w7⟩;obtain⟨o,e,d⟩:=T.obj _ _ st5 b hb;exact(I7.pin (b,o) (mem_append_right _ (mem_append_right _ (mB hb e)))).2.1
  cases f with
  |next=>obtain⟨σ7,H7,I7,n7⟩:=q7;exact again I7 n7
  |cont=>obtain⟨σ7,H7,I7,n7⟩:=q7;exact again I7 n7
  |brk=>obtain⟨σ7,H7,I7,q7⟩:=q7;exact⟨σ7,H7,I7.unpinned,q7⟩
  |ret v=>obtain⟨x7,σ7,H7,I7,r7,q7⟩:=q7;exact⟨x7,σ7,H7,I7.unpinned,r7,q7⟩
end
theorem dI {K:PySem.W.Frag}{a:Addr}{xs:List V}{g:TG}{tb:TS}{D:dR}{σ:St}{H:Hp}(Pv:Nat->St->Hp->Prop)(h0:Pv 0 σ H)(hl:∀i σ H,i<=xs.length->Pv i σ H->SqL K H a xs)
  (hs:∀i x σ H,xs[i]?=some x->Pv i σ H->g x σ H λσ2 H2=>tb {D with nx:=Pv (i+1),ct:=Pv (i+1),bk:=D.nx} σ2 H2)(hd:∀σ H,Pv xs.length σ H->D.nx σ H):
  ∃W:Nat->Nat->St->Hp->Prop,(∃m,W 0 m σ H)/\∀i m σ H,W i m σ H->
   ((Itl K a).stop i H/\D.nx σ H)\/((Itl K a).go i H/\∃N:St->Hp->Prop,(∀σ' H',N σ' H'->∃m',m'<m/\W (i+1) m' σ' H')/\∀x H',(Itl K a).yld i H x H'->g x σ H' λσ2 H2=>tb {D with nx:=N,ct:=N,bk:=D.nx} σ2 H2):=by
 refine⟨λi m σ H=>m=xs.length - i/\i<=xs.length/\Pv i σ H,⟨xs.length,by simp,zero_le _,h0⟩,?_⟩;rintro i m σ H ⟨rfl,hi,p⟩;have q:=hl i σ H hi p;by_cases hlt:i<xs.length
 ·refine .inr ⟨⟨xs,xs[i],q,by simp[hlt]⟩,Pv (i+1),λσ' H' p'=> ⟨xs.length -(i+1),by omega,rfl,hlt,p'⟩,λx H' y=> ?_⟩;obtain⟨e,y⟩:=y;subst e;exact hs i x σ _ (y xs q) p
 ·have e:i=xs.length:=by omega
  subst e;exact .inl ⟨⟨xs,q,zjQ _⟩,hd σ H p⟩
theorem gG {K:PySem.W.Frag}{a:Addr}{xs:List V}{g:TG}{tb:TS}{D:dR}{σ:St}{H:Hp}(Pv:Nat->St->Hp->Prop)(h0:Pv 0 σ H)(hl:∀i σ H,i<=xs.length->Pv i σ H->SqT K H a xs)
  (hs:∀i x σ H,xs[i]?=some x->Pv i σ H->g x σ H λσ2 H2=>tb {D with nx:=Pv (i+1),ct:=Pv (i+1),bk:=D.nx} σ2 H2)(hd:∀σ H,Pv xs.length σ H->D.nx σ H):
  ∃W:Nat->Nat->St->Hp->Prop,(∃m,W 0 m σ H)/\∀i m σ H,W i m σ H->
   ((Itt K a).stop i H/\D.nx σ H)\/((Itt K a).go i H/\∃N:St->Hp->Prop,(∀σ' H',N σ' H'->∃m',m'<m/\W (i+1) m' σ' H')/\∀x H',(Itt K a).yld i H x H'->g x σ H' λσ2 H2=>tb {D with nx:=N,ct:=N,bk:=D.nx} σ2 H2):=by
 refine⟨λi m σ H=>m=xs.length - i/\i<=xs.length/\Pv i σ H,⟨xs.length,by simp,zero_le _,h0⟩,?_⟩;rintro i m σ H ⟨rfl,hi,p⟩;have q:=hl i σ H hi p;by_cases hlt:i<xs.length
 ·refine .inr ⟨⟨xs,xs[i],q,by simp[hlt]⟩,Pv (i+1),λσ' H' p'=> ⟨xs.length -(i+1),by omega,rfl,hlt,p'⟩,λx H' y=> ?_⟩;obtain⟨e,y⟩:=y;subst e;exact hs i x σ _ (y xs q) p
 ·have e:i=xs.length:=by omega
  subst e;exact .inl ⟨⟨xs,q,zjQ _⟩,hd σ H p⟩
theorem lQ {lo:Int}{n:Nat}{g:TG}{tb:TS}{D:dR}{σ:St}{H:Hp}(Pv:Nat->St->Hp->Prop)(h0:Pv 0 σ H)
  (hs:∀i σ H,i<n->Pv i σ H->g (.int (lo+i)) σ H λσ2 H2=>tb {D with nx:=Pv (i+1),ct:=Pv (i+1),bk:=D.nx} σ2 H2)(hd:∀σ H,Pv n σ H->D.nx σ H):
  ∃W:Nat->Nat->St->Hp->Prop,(∃m,W 0 m σ H)/\∀i m σ H,W i m σ H->
   ((Itr lo n).stop i H/\D.nx σ H)\/((Itr lo n).go i H/\∃N:St->Hp->Prop,(∀σ' H',N σ' H'->∃m',m'<m/\W (i+1) m' σ' H')/\∀x H',(Itr lo n).yld i H x H'->g x σ H' λσ2 H2=>tb {D with nx:=N,ct:=N,bk:=D.nx} σ2 H2):=by
 refine⟨λi m σ H=>m=n - i/\i<=n/\Pv i σ H,⟨n,by simp,zero_le _,h0⟩,?_⟩;rintro i m σ H ⟨rfl,hi,p⟩;by_cases hlt:i<n
 ·refine .inr ⟨hlt,Pv (i+1),λσ' H' p'=> ⟨n -(i+1),by omega,rfl,hlt,p'⟩,λx H' y=> ?_⟩;obtain⟨e,y⟩:=y;subst e y;exact hs i σ _ hlt p
 ·have e:i=n:=by omega
  subst e;exact .inl ⟨zjQ _,hd σ H p⟩
theorem A5g {c:TT}{tb:TS}{D:dR}{σ:St}{H:Hp}(Pv:St->Hp->Prop)(μ:St->Hp->Nat)(h0:Pv σ H)
  (hs:∀σ H,Pv σ H->c σ H λb H1=>if b=true then tb {D with nx:=λσ' H'=>Pv σ' H'/\μ σ' H'<μ σ H,ct:=λσ' H'=>Pv σ' H'/\μ σ' H'<μ σ H,bk:=D.nx} σ H1 else D.nx σ H1)
  (mono:∀σ H Q Q',(∀b H1,Q b H1->Q' b H1)->c σ H Q->c σ H Q'):A1m c tb D σ H:=by
 refine⟨λm σ H=>m=μ σ H/\Pv σ H,⟨_,rfl,h0⟩,?_⟩;rintro m σ H ⟨rfl,p⟩;refine mono σ H _ _ (λb H1 q=> ?_) (hs σ H p);cases b with
 |true=>exact⟨_,λσ' H' ⟨p',l⟩=> ⟨_,l,rfl,p'⟩,q⟩
 |false=>exact q
noncomputable abbrev R2:=V->V->Hp->VK->Prop
noncomputable def OpR (X:Cx)(f:Value->Value->Sem Value)(r:R2):Prop:=
 ∀(pins:List (Addr×Obj))(s:Shared)(σ:St)(H:Hp)(x y:V)(v u:Value)(Q:VK),Inv X pins σ H s->RelV x v->RelV y u->r x y H Q->
  wpAny (model X.prog X.w) X.A (f v u) (EP X pins σ Q) X.xe s
noncomputable def UnR (X:Cx)(f:Value->Sem Value)(r:V->Hp->VK->Prop):Prop:=
 ∀(pins:List (Addr×Obj))(s:Shared)(σ:St)(H:Hp)(x:V)(v:Value)(Q:VK),Inv X pins σ H s->RelV x v->r x H Q->
  wpAny (model X.prog X.w) X.A (f v) (EP X pins σ Q) X.xe s
noncomputable def eD (X:Cx)(f:Value)(r:List V->Hp->VK->Prop):Prop:=
 ∀(pins:List (Addr×Obj))(s:Shared)(σ:St)(H:Hp)(xs:List V)(us:List Value)(Q:VK),Inv X pins σ H s->Vals xs us->r xs H Q->
  wpAny (model X.prog X.w) X.A (call f us) (EP X pins σ Q) X.xe s
noncomputable def tOp (r:R2)(ta tb:TE):TE:=λσ H Q=>ta σ H λx H1=>tb σ H1 λy H2=>r x y H2 Q
noncomputable def tUn (r:V->Hp->VK->Prop)(ta:TE):TE:=λσ H Q=>ta σ H λx H1=>r x H1 Q
noncomputable def rI (C:Int->Int->Prop)(g:Int->Int->V):R2:=λx y H Q=> ∃i j,x= .int i/\y= .int j/\C i j/\Q (g i j) H
noncomputable def rI0 (g:Int->Int->V):R2:=λx y H Q=> ∃i j,x= .int i/\y= .int j/\Q (g i j) H
noncomputable def rU (g:Int->V):V->Hp->VK->Prop:=λx H Q=> ∃i,x= .int i/\Q (g i) H
section
variable {X:Cx}{a b c:Expr}{ta tb tc:TE}{pos:Pos}
theorem tF (ha:PE X a ta)(hb:PE X b tb){pins:List (Addr×Obj)}{s:Shared}{σ:St}{H:Hp}{R:V->V->Hp->Prop}(I:Inv X pins σ H s)
  (h:ta σ H λx H1=>tb σ H1 λy H2=>R x y H2){Q:Value->Shared->Prop}{f:Value->Value->Sem Value}
  (hf:∀v u s2 x y H2,Inv X pins σ H2 s2->RelV x v->RelV y u->R x y H2->wpAny (model X.prog X.w) X.A (f v u) Q X.xe s2):
  wpAny (model X.prog X.w) X.A (eval a X.env) (λv s₁=>wpAny (model X.prog X.w) X.A (eval b X.env) (λu s₂=>wpAny (model X.prog X.w) X.A (f v u) Q X.xe s₂) X.xe s₁) X.xe s:=by
 refine thn (ha pins s σ H _ I h) λv s1 ⟨x,H1,I1,r1,q1⟩=> ?_;refine thn (hb pins s1 σ H1 _ I1 q1) λu s2 ⟨y,H2,I2,r2,q2⟩=> ?_;exact hf v u s2 x y H2 I2 r1 r2 q2
theorem bG {op:Operator}{r:R2}(ho:OpR X (binaryOp op) r)(ha:PE X a ta)(hb:PE X b tb):PE X (.BinOp a op b pos) (tOp r ta tb):=by intro pins s σ H Q I h;exact wpAny_BinOp (tF ha hb I h λv u s2 x y H2 I2 rx ry q=>ho pins s2 σ H2 x y v u Q I2 rx ry q)
theorem jW {op:UnaryOp}{r:V->Hp->VK->Prop}(ho:UnR X (unaryOp op) r)(ha:PE X a ta):PE X (.UnaryOp op a pos) (tUn r ta):=by intro pins s σ H Q I h;exact UnaryOp_ (thn (ha pins s σ H _ I h) λv s1 ⟨x,H1,I1,r1,q1⟩=>ho pins s1 σ H1 x v Q I1 r1 q1)
theorem opI {f:Value->Value->Sem Value}{C:Int->Int->Prop}{g:Int->Int->Int}
  (rule:∀(i j:Int)(t u:Tok)(s:Shared)(Q:Value->Shared->Prop)(E:Value->Shared->Prop),C i j->Q (.int (g i j) s.toks) {s with toks:=s.toks+1}->wpAny (model X.prog X.w) X.A (f (.int i t) (.int j u)) Q E s):
  OpR X f (rI C λi j=> .int (g i j)):=by
 intro pins s σ H x y v u Q I rx ry h;obtain⟨i,j,rfl,rfl,hc,q⟩:=h;obtain⟨t,rfl⟩:=rx;obtain⟨t',rfl⟩:=ry;exact rule i j t t' s _ _ hc ⟨.int (g i j),H,I.tok _,⟨_,rfl⟩,q⟩
theorem zG {f:Value->Value->Sem Value}{g:Int->Int->Int}
  (rule:∀(i j:Int)(t u:Tok)(s:Shared)(Q:Value->Shared->Prop)(E:Value->Shared->Prop),Q (.int (g i j) s.toks) {s with toks:=s.toks+1}->wpAny (model X.prog X.w) X.A (f (.int i t) (.int j u)) Q E s):
  OpR X f (rI0 λi j=> .int (g i j)):=by
 intro pins s σ H x y v u Q I rx ry h;obtain⟨i,j,rfl,rfl,q⟩:=h;obtain⟨t,rfl⟩:=rx;obtain⟨t',rfl⟩:=ry;exact rule i j t t' s _ _ ⟨.int (g i j),H,I.tok _,⟨_,rfl⟩,q⟩
theorem nX {f:Value->Value->Sem Value}{g:Int->Int->Bool}
  (rule:∀(i j:Int)(t u:Tok)(s:Shared)(Q:Value->Shared->Prop)(E:Value->Shared->Prop),Q (.bool (g i j)) s->wpAny (model X.prog X.w) X.A (f (.int i t) (.int j u)) Q E s):
  OpR X f (rI0 λi j=> .bl (g i j)):=by
 intro pins s σ H x y v u Q I rx ry h;obtain⟨i,j,rfl,rfl,q⟩:=h;obtain⟨t,rfl⟩:=rx;obtain⟨t',rfl⟩:=ry;exact rule i j t t' s _ _ ⟨.bl (g i j),H,I,rfl,q⟩
noncomputable def A7p (i j:Int):Prop:=0<j/\j<1073741824
noncomputable def A4g (i j:Int):Prop:=0<=j/\j<=1000000/\i.natAbs<2^64
noncomputable def CMul (i j:Int):Prop:=(-(2^64)<i/\i<2^64)\/(-(2^64)<j/\j<2^64)
theorem CMul.ok {i j:Int}(h:CMul i j):IntMulOk i j:=by
 rcases h with⟨h1,h2⟩| ⟨h1,h2⟩
 ·exact .of_left (intBits_le_64 h1 h2)
 ·exact .of_right (intBits_le_64 h1 h2)
theorem eT:OpR X (binaryOp .Add) (rI0 λi j=> .int (i+j)):=zG λ_ _ _ _ _ _ _ q=>add_int q
theorem fK:OpR X (binaryOp .Sub) (rI0 λi j=> .int (i - j)):=zG λ_ _ _ _ _ _ _ q=>sub_int q
theorem fT:OpR X (binaryOp .Mult) (rI CMul λi j=> .int (i*j)):=opI λ_ _ _ _ _ _ _ hc q=>mul_int q hc.ok
theorem oQ:OpR X (binaryOp .FloorDiv) (rI A7p λi j=> .int (i/j)):=opI λi j _ _ _ _ _ hc q=>by
 have h1:(0:Int)<j:=hc.1;have h2:j<1073741824:=hc.2;exact floordiv_int (by omega) (by rw[Int.fdiv_eq_ediv_of_nonneg i (by omega)];exact q) (.inl (PyProof.noPylong_small (by omega)))
theorem gX:OpR X (binaryOp .Mod) (rI (λ_ j=>0<j) λi j=> .int (i%j)):=opI λi j _ _ _ _ _ hc q=>by
 have h1:(0:Int)<j:=hc;exact mod_int' (by omega) (by rw[Int.fmod_eq_emod_of_nonneg i (by omega)];exact q)
theorem B0a:OpR X (binaryOp .Pow) (rI A4g λi j=> .int (i^j.toNat)):=opI λ_ _ _ _ _ _ _ hc q=>pow_int_small hc.1 hc.2.1 hc.2.2 q
theorem unI {f:Value->Sem Value}{g:Int->Int}
  (rule:∀(i:Int)(t:Tok)(s:Shared)(Q:Value->Shared->Prop)(E:Value->Shared->Prop),Q (.int (g i) s.toks) {s with toks:=s.toks+1}->wpAny (model X.prog X.w) X.A (f (.int i t)) Q E s):
  UnR X f (rU λi=> .int (g i)):=by
 intro pins s σ H x v Q I rx h;obtain⟨i,rfl,q⟩:=h;obtain⟨t,rfl⟩:=rx;exact rule i t s _ _ ⟨.int (g i),H,I.tok _,⟨_,rfl⟩,q⟩
theorem jL:UnR X (unaryOp .USub) (rU λi=> .int (-i)):=unI λ_ _ _ _ _ q=>neg_int q
end
noncomputable def scal:V->V->Bool
 | .non,.non=>true| .non,.int _=>true| .int _,.non=>true| .non,.bl _=>true| .bl _,.non=>true| .non,.str _=>true| .str _,.non=>true
 | .int _,.int _=>true| .bl _,.bl _=>true| .str _,.str _=>true| .byt _,.byt _=>true
 | .int _,.str _=>true| .str _,.int _=>true| .bl _,.str _=>true| .str _,.bl _=>true
 |_,_=>false
noncomputable def rEq:R2:=λx y H Q=>scal x y=true/\Q (.bl (decide (x=y))) H
noncomputable def rNe:R2:=λx y H Q=>scal x y=true/\Q (.bl (!decide (x=y))) H
theorem uX {i j:Int}:decide (V.int i=V.int j)=(i==j):=by rw[Bool.eq_iff_iff];simp
theorem wJ {i j:Bool}:decide (V.bl i=V.bl j)=(i==j):=by rw[Bool.eq_iff_iff];simp
theorem vG {i j:Str}:decide (V.str i=V.str j)=(i==j):=by rw[Bool.eq_iff_iff];simp
theorem zE {i j:Array UInt8}:decide (V.byt i=V.byt j)=(i.toList==j.toList):=by rw[Bool.eq_iff_iff];cases i;cases j;simp
section
variable {X:Cx}{a b c:Expr}{ta tb tc:TE}{pos:Pos}
theorem cI {pins:List (Addr×Obj)}{σ:St}{H:Hp}{s:Shared}{Q:VK}{k k':Bool}(I:Inv X pins σ H s)(q:Q (.bl k) H)(e:k=k'):EP X pins σ Q (.bool k') s:=by subst e;exact⟨.bl k,H,I,rfl,q⟩
theorem eG:OpR X (compareOp .Eq) rEq:=by
 intro pins s σ H x y v u Q I rx ry h;obtain⟨hs,q⟩:=h;cases x with
 |non=>
  cases rx;cases y with
  |non=>cases ry;exact PySem.EqNone.eq_none_none (cI I q (by simp))
  |bl j=>cases ry;exact PySem.EqNone.eq_none_bool (cI I q (by simp))
  |int j=>obtain⟨t',rfl⟩:=ry;exact PySem.EqNone.eq_none_int (cI I q (by simp))
  |str j=>obtain⟨t',rfl⟩:=ry;exact PySem.EqNone.eq_none_str (cI I q (by simp))
  |_=>exact absurd (show false=true from hs) Bool.false_ne_true
 |bl i=>
  cases rx;cases y with
  |non=>cases ry;exact PySem.EqNone.eq_bool_none (cI I q (by simp))
  |bl j=>cases ry;exact eq_bool (cI I q wJ)
  |str j=>obtain⟨t',rfl⟩:=ry;exact PySem.EqMixed.eq_bool_str (cI I q (by simp))
  |_=>exact absurd (show false=true from hs) Bool.false_ne_true
 |int i=>
  obtain⟨t,rfl⟩:=rx;cases y with
  |non=>cases ry;exact PySem.EqNone.eq_int_none (cI I q (by simp))
  |int j=>obtain⟨t',rfl⟩:=ry;exact eq_int (cI I q uX)
  |str j=>obtain⟨t',rfl⟩:=ry;exact PySem.EqMixed.eq_int_str (cI I q (by simp))
  |_=>exact absurd (show false=true from hs) Bool.false_ne_true
 |str i=>
  obtain⟨t,rfl⟩:=rx;cases y with
  |non=>cases ry;exact PySem.EqNone.eq_str_none (cI I q (by simp))
  |bl j=>cases ry;exact PySem.EqMixed.eq_str_bool (cI I q (by simp))
  |int j=>obtain⟨t',rfl⟩:=ry;exact PySem.EqMixed.eq_str_int (cI I q (by simp))
  |str j=>obtain⟨t',rfl⟩:=ry;exact eq_str (cI I q vG)
  |_=>exact absurd (show false=true from hs) Bool.false_ne_true
 |byt i=>
  obtain⟨t,rfl⟩:=rx;cases y with
  |byt j=>obtain⟨t',rfl⟩:=ry;exact W.eq_bytes (cI I q zE)
  |_=>exact absurd (show false=true from hs) Bool.false_ne_true
 |_=>cases y<;>exact absurd (show false=true from hs) Bool.false_ne_true
theorem pE:OpR X (compareOp .NotEq) rNe:=by
 intro pins s σ H x y v u Q I rx ry h;obtain⟨hs,q⟩:=h;cases x with
 |non=>
  cases rx;cases y with
  |non=>cases ry;exact PySem.EqNone.ne_none_none (cI I q (by simp))
  |bl j=>cases ry;exact PySem.EqNone.ne_none_bool (cI I q (by simp))
  |int j=>obtain⟨t',rfl⟩:=ry;exact PySem.EqNone.ne_none_int (cI I q (by simp))
  |str j=>obtain⟨t',rfl⟩:=ry;exact PySem.EqNone.ne_none_str (cI I q (by simp))
  |_=>exact absurd (show false=true from hs) Bool.false_ne_true
 |bl i=>
  cases rx;cases y with
  |non=>cases ry;exact PySem.EqNone.ne_bool_none (cI I q (by simp))
  |bl j=>cases ry;exact ne_bool (cI I q (congrArg not wJ))
  |str j=>obtain⟨t',rfl⟩:=ry;exact PySem.EqMixed.ne_bool_str (cI I q (by simp))
  |_=>exact absurd (show false=true from hs) Bool.false_ne_true
 |int i=>
  obtain⟨t,rfl⟩:=rx;cases y with
  |non=>cases ry;exact PySem.EqNone.ne_int_none (cI I q (by simp))
  |int j=>obtain⟨t',rfl⟩:=ry;exact ne_int (cI I q (congrArg not uX))
  |str j=>obtain⟨t',rfl⟩:=ry;exact PySem.EqMixed.ne_int_str (cI I q (by simp))
  |_=>exact absurd (show false=true from hs) Bool.false_ne_true
 |str i=>
  obtain⟨t,rfl⟩:=rx;cases y with
  |non=>cases ry;exact PySem.EqNone.ne_str_none (cI I q (by simp))
  |bl j=>cases ry;exact PySem.EqMixed.ne_str_bool (cI I q (by simp))
  |int j=>obtain⟨t',rfl⟩:=ry;exact PySem.EqMixed.ne_str_int (cI I q (by simp))
  |str j=>obtain⟨t',rfl⟩:=ry;exact ne_str (cI I q (congrArg not vG))
  |_=>exact absurd (show false=true from hs) Bool.false_ne_true
 |byt i=>
  obtain⟨t,rfl⟩:=rx;cases y with
  |byt j=>obtain⟨t',rfl⟩:=ry;exact W.ne_bytes (cI I q (congrArg not zE))
  |_=>exact absurd (show false=true from hs) Bool.false_ne_true
 |_=>cases y<;>exact absurd (show false=true from hs) Bool.false_ne_true
theorem iQ:OpR X (compareOp .Lt) (rI0 λi j=> .bl (decide (i<j))):=nX λ_ _ _ _ _ _ _ q=>lt_int q
theorem iS:OpR X (compareOp .LtE) (rI0 λi j=> .bl (decide (i<=j))):=nX λ_ _ _ _ _ _ _ q=>le_int q
theorem vH:OpR X (compareOp .Gt) (rI0 λi j=> .bl (decide (j<i))):=nX λ_ _ _ _ _ _ _ q=>gt_int q
theorem mK:OpR X (compareOp .GtE) (rI0 λi j=> .bl (decide (j<=i))):=nX λ_ _ _ _ _ _ _ q=>ge_int q
theorem A0u:OpR X (compareOp .Is) (λx y H Q=>y= .non/\Q (.bl (decide (x= .non))) H):=by
 intro pins s σ H x y v u Q I rx ry h;obtain⟨rfl,q⟩:=h;cases ry;refine is_none_gen (cI I q ?_);cases x<;>first
  | (cases rx;rfl)
  | (obtain⟨t,rfl⟩:=rx;rfl)
theorem nomark (b:Expr){op:CmpOp}(h:op≠ .In:=by decide)(h2:op≠ .NotIn:=by decide):behindInMarks op b=false:=by
 have e1:(op==CmpOp.In)=false:=by cases op<;>first|rfl|exact absurd rfl h
 have e2:(op==CmpOp.NotIn)=false:=by cases op<;>first|rfl|exact absurd rfl h2
 cases b<;>simp[behindInMarks,e1,e2]
theorem eW {op:CmpOp}{r:R2}(ho:OpR X (compareOp op) r)(ha:PE X a ta)(hb:PE X b tb)(hm:behindInMarks op b=false):PE X (.Compare a [op] [b] pos) (tOp r ta tb):=by intro pins s σ H Q I h;exact wpAny_Compare1 (tF ha hb I h λv u s2 x y H2 I2 rx ry q=>ho pins s2 σ H2 x y v u Q I2 rx ry q) hm
noncomputable def A7e (t:TE):TT:=λσ H Q=>t σ H λx H'=> ∃k,x= .bl k/\Q k H'
theorem bV {op:CmpOp}{r:R2}(ho:OpR X (compareOp op) r)(ha:PE X a ta)(hb:PE X b tb)(hm:behindInMarks op b=false):PT X (.Compare a [op] [b] pos) (A7e (tOp r ta tb)):=by
 intro pins s σ H Q I h;refine wpAny_isTrue_Compare1 (thn (ha pins s σ H _ I h) λv s1 ⟨x,H1,I1,r1,q1⟩=>thn (hb pins s1 σ H1 _ I1 q1) λu s2 ⟨y,H2,I2,r2,q2⟩=>
  thn (ho pins s2 σ H2 x y v u _ I2 r1 r2 q2) λc s3 ⟨z,H3,I3,r3,k,e,q3⟩=> ?_) hm
 subst e;cases r3;exact wpAny_truthy_bool ⟨H3,I3,q3⟩
noncomputable def A7w (r r':R2)(ta tb tc:TE):TE:=λσ H Q=>ta σ H λx H1=>tb σ H1 λy H2=>r x y H2 λz H3=> ∃k,z= .bl k/\
 (if k=true then tc σ H3 λw' H4=>r' y w' H4 Q else Q (.bl false) H3)
theorem qC {op op':CmpOp}{r r':R2}(ho:OpR X (compareOp op) r)(ho':OpR X (compareOp op') r')(ha:PE X a ta)(hb:PE X b tb)(hc:PE X c tc)
  (hm:lastMarks [op,op'] [b,c]=false:=by with_unfolding_all rfl):PE X (.Compare a [op,op'] [b,c] pos) (A7w r r' ta tb tc):=by
 intro pins s σ H Q I h;refine Compare_chain (thn (ha pins s σ H _ I h) λv s1 ⟨x,H1,I1,r1,q1⟩=>chain_link (thn (hb pins s1 σ H1 _ I1 q1) λu s2 ⟨y,H2,I2,r2,q2⟩=>
  thn (ho pins s2 σ H2 x y v u _ I2 r1 r2 q2) λd s3 ⟨z,H3,I3,r3,k,e,q3⟩=> ?_)) hm
 subst e;cases r3;refine wpAny_truthy_bool ?_;cases k with
 |false=>exact ite_ff ⟨.bl false,H3,I3,rfl,q3⟩
 |true=>exact ite_tt (chain_last (thn (hc pins s3 σ H3 _ I3 q3) λw' s4 ⟨z',H4,I4,r4,q4⟩=>ho' pins s4 σ H4 y z' u w' Q I4 r2 r4 q4))
theorem nP:(sizeLine:Nat)<2^63:=by rw[sizeLine_eq];decide
theorem eZ {x:V}{us:List Value}(r:Vals [x] us):∃u,us=[u]/\RelV x u:=by
 cases r with
 |cons r1 r2=>cases r2;exact⟨_,rfl,r1⟩
theorem kE {x y:V}{us:List Value}(r:Vals [x,y] us):∃u w',us=[u,w']/\RelV x u/\RelV y w':=by
 cases r with
 |cons r1 r2=>
  cases r2 with
  |cons r3 r4=>cases r4;exact⟨_,_,rfl,r1,r3⟩
theorem iH:eD X (.builtin "abs") (λxs H Q=> ∃i,xs=[.int i]/\Q (.int (if i<0 then -i else i)) H):=by intro pins s σ H xs us Q I r h;obtain⟨i,rfl,q⟩:=h;obtain⟨u,rfl,t,rfl⟩:=eZ r;exact call_abs_int λu tk=> ⟨.int (if i<0 then -i else i),H,I.tok _,⟨_,rfl⟩,q⟩
theorem vN:eD X (.type "int") (λxs H Q=>(∃i,xs=[.int i]/\Q (.int i) H)\/ ∃k,xs=[.bl k]/\Q (.int (if k then 1 else 0)) H):=by
 intro pins s σ H xs us Q I r h;rcases h with⟨i,rfl,q⟩| ⟨k,rfl,q⟩
 ·obtain⟨u,rfl,t,rfl⟩:=eZ r;exact call_int_int ⟨.int i,H,I,⟨_,rfl⟩,q⟩
 ·obtain⟨u,rfl,r1⟩:=eZ r;cases r1;exact call_int_bool ⟨.int (if k then 1 else 0),H,I.tok _,⟨_,rfl⟩,q⟩
end
structure ObjM (h:Heap)(x dx C:Addr)(mA:Str->Option Value):Prop where
 obj:h.get? x=some (W.instObj C dx)
 ns:h.Ns1 dx mA
 ne:dx≠x
theorem A2i {h:Heap}{dx:Addr}{mA:Str->Option Value}(n:h.Ns1 dx mA):∃od,h.get? dx=some od/\∀name,W.lookIn name od=some (mA name):=by
 obtain⟨o,es,ep,ho,hd,hk,_,hm⟩:=n;refine⟨o,ho,λname=> ?_⟩;have e:=hm name;unfold nsFind findBy at e;rw[←Array.find?_toList]at e;unfold W.lookIn;rw[hd];dsimp only
 split
 ·rename_i y q;rw[q]at e;exact congrArg some e
 ·rename_i q;rw[q]at e;have a:es.toList.any (·.refKey)=false:=by
   rw[List.any_eq_false];intro y hy;obtain⟨z,t,hkey⟩:=hk y (Array.mem_toList_iff.mp hy);simp[DictEntry.refKey,hkey]
  have a':¬es.toList.any (·.refKey)=true:=by rw[a];exact Bool.false_ne_true
  rw[if_neg a'];exact congrArg some e
theorem ObjM.look {h:Heap}{x dx C:Addr}{mA:Str->Option Value}(I:ObjM h x dx C mA):∃od,W.InstAt h x (W.instObj C dx) C (some od)/\∀name,W.lookIn name od=some (mA name):=
 let ⟨od,ho,hl⟩:=A2i I.ns
 ⟨od,⟨I.obj,rfl,rfl,ho⟩,hl⟩
section
variable {prog:Program}{w:World}{A:Around}{E:Value->Shared->Prop}{s:Shared}{K:W.Frag}{x dx C f:Addr}{mA:Str->Option Value}{name:Str}{v:Value}
end
noncomputable def fP (f:Str)(v:V):List (Str×V)->List (Str×V)
 | []=> [(f,v)]
 | (g,x)::r=>if g=f then(g,v)::r else(g,x)::fP f v r
theorem RelO.some_of {v:V}{o:Option Value}(r:RelO (some v) o):∃u,o=some u/\RelV v u:=by
 cases o with
 |none=>exact(show False from r).elim
 |some u=>exact⟨u,rfl,r⟩
section
variable {P:Program}{w:World}{H H':Hp}{h h':Heap}{a C dx:Addr}{fs fs':List (Str×V)}
theorem A3c (hok:HOk P w H h)(e:H a=some (.ins C dx fs)):∃mA,ObjM h a dx C mA/\(∀f,RelO (fs.lookup f) (mA f))/\PySem.Within mA (fs.map (·.1))/\fs.length<=1000/\H dx=some (.own a):=by obtain⟨d,z,ne,ob,mA,n,r,q⟩:=(show ObjOk P w H h a (.ins C dx fs)from hok a _ e);exact⟨mA,⟨ob,n,ne⟩,r,q,z,d⟩
end
structure Cls (K:W.Frag)(C:Addr):Prop where
 pg:W.plainGet K C Str.empty=true
 hd:W.hasDictIn K C=true
 po:W.plainOver K C=true
 sa:W.findIn K (.ref C) "__setattr__" =some (some (.builtin "object.__setattr__"))
theorem Cls.get {K:W.Frag}{C:Addr}(c:Cls K C)(f:Str):W.plainGet K C f=true:=c.pg
section
variable {X:Cx}{pins:List (Addr×Obj)}{σ:St}{H:Hp}{s:Shared}{a C dx:Addr}{fs:List (Str×V)}{f:Str}{v:V}{A:Around}{E:Value->Shared->Prop}
end
section
variable {X:Cx}{o e value:Expr}{f:Str}{pos pos' tpos:Pos}{ta tv:TE}
end
section
variable {X:Cx}{pins:List (Addr×Obj)}{σ:St}{H:Hp}{s:Shared}{A:Around}{E:Value->Shared->Prop}{Q:Value->Shared->Prop}{c:Value}{b:Bool}
inductive TyOf (K:W.Frag) (H:Hp):V->Value->Prop where
 |non:TyOf K H .non (.type "NoneType")
 |bl (x:Bool):TyOf K H (.bl x) (.type "bool")
 |int (i:Int):TyOf K H (.int i) (.type "int")
 |str (x:Str):TyOf K H (.str x) (.type "str")
 |flt (x:UInt64):TyOf K H (.flt x) (.type "float")
 |lst {a:Addr} {xs:List V} (e:H a=some (.lst xs)):TyOf K H (.ref a) (.type "list")
 |frz {a:Addr} {o:Obj} {xs:List V} (e:H a=some (.frz o (.lst xs))):TyOf K H (.ref a) (.type "list")
 |tup {a:Addr} {xs:List V} (e:H a=some (.tup xs)):TyOf K H (.ref a) (.type "tuple")
 |dK {a:Addr} {kvs:List (Key×V)} (e:H a=some (.dK kvs)):TyOf K H (.ref a) (.type "dict")
 |dT {a:Addr} {kvs:List (List Key×V)} (e:H a=some (.dT kvs)):TyOf K H (.ref a) (.type "dict")
 |ins {a C dx:Addr} {fs:List (Str×V)} (e:H a=some (.ins C dx fs)) (cl:Cls K C) (ha:W.findIn K (.ref C) "__class__" =some (some (.builtin "object.__class__")))
   (hn:W.specialIn K (.builtin "object.__class__") "__get__" =some (some (.builtin "getset_descriptor.__get__"))) (htk:W.takesIn K (.builtin "object.__class__")=some true)
   (hm:W.mroIn K C (.type "object")=some true):TyOf K H (.ref a) (.ref C)
theorem B1q {x:V}{u t:Value}(I:Inv X pins σ H s)(rx:RelV x u)(ty:TyOf X.K H x t)(e:W.kitOne X.K t c=some b)(h:∀tk,Q (.bool b) {s with toks:=tk}):
  wpAny (model X.prog X.w) A (call (.builtin "isinstance") [u,c]) Q E s:=by
 cases ty with
 |non=>cases (show u=Value.none from rx);exact W.kia_one W.kitx_none I.kIn True.intro e (λz=>nomatch z) h
 |bl y=>cases (show u=Value.bool y from rx);exact W.kia_one W.kitx_bool I.kIn True.intro e (λz=>nomatch z) h
 |int i=>obtain⟨t,q⟩:=(show∃t,u=Value.int i t from rx);cases q;exact W.kia_one W.kitx_int I.kIn True.intro e (λz=>nomatch z) h
 |str y=>obtain⟨t,q⟩:=(show∃t,u=Value.str y t from rx);cases q;exact W.kia_one W.kitx_str I.kIn True.intro e (λz=>nomatch z) h
 |flt y=>obtain⟨t,q⟩:=(show∃t,u=Value.float y t from rx);cases q;exact W.kia_one W.kitx_float I.kIn True.intro e (λz=>nomatch z) h
 | @lst a xs ea=>
  cases (show u=Value.ref a from rx);obtain⟨_,_,n,_,h1⟩:=(show ObjOk X.prog X.w H s.heap a (.lst xs)from I.hok a _ ea);exact W.kia_one W.kitx_list I.kIn ⟨_,h1,rfl⟩ e (λz=>nomatch z) h
 | @frz a ob xs ea=>
  cases (show u=Value.ref a from rx);obtain⟨_,_,_,n,_,h1⟩:=(show ObjOk X.prog X.w H s.heap a (.frz ob (.lst xs))from I.hok a _ ea);exact W.kia_one W.kitx_list I.kIn ⟨_,h1,rfl⟩ e (λz=>nomatch z) h
 | @tup a xs ea=>
  cases (show u=Value.ref a from rx);obtain⟨_,_,_,p⟩:=(show ObjOk X.prog X.w H s.heap a (.tup xs)from I.hok a _ ea);obtain⟨o,h1,h2,_⟩:=p;exact W.kia_one W.kitx_tuple I.kIn ⟨o,h1,h2⟩ e (λz=>nomatch z) h
 | @dK a kvs ea=>
  cases (show u=Value.ref a from rx);obtain⟨_,_,vs,_,p⟩:=(show ObjOk X.prog X.w H s.heap a (.dK kvs)from I.hok a _ ea);obtain⟨o,es,ep,h1,h2,_⟩:=p;exact W.kia_one W.kitx_dict I.kIn ⟨o,h1,h2.1⟩ e (λz=>nomatch z) h
 | @dT a kvs ea=>
  cases (show u=Value.ref a from rx);obtain⟨_,_,xs,_,o,es,ep,h1,h2,_⟩:=(show ObjOk X.prog X.w H s.heap a (.dT kvs)from I.hok a _ ea);exact W.kia_one W.kitx_dict I.kIn ⟨o,h1,h2.1⟩ e (λz=>nomatch z) h
 | @ins a C dx fs ea cl ha hn htk hm=>
  cases (show u=Value.ref a from rx);obtain⟨mA,O,_⟩:=A3c I.hok ea;obtain⟨od,J,_⟩:=O.look;exact W.kia_one (W.kitx_own (cl.get _) cl.hd ha hn htk hm) I.kIn J e (λz=>nomatch z) h
end
structure Room (k:Nat)(A:Around):Prop where
 hd:A.handled=none
 dp:A.depth+3*k+5<recursionLimit
 un:A.units+16*k+200<cLine
 gd:A.guards=some []
theorem Room.mono {j k:Nat}{A:Around}(r:Room k A)(h:j<=k):Room j A:=⟨r.hd,by have:=r.dp;omega,by have:=r.un;omega,r.gd⟩
theorem Room.deeper {k:Nat}{A:Around}(r:Room (k+1) A)(env:Env):Room k (A.deeper env):=
 ⟨r.hd,by have:=r.dp;show A.depth+1+3*k+5<_;omega,by have:=r.un;show A.units+3+16*k+200<_;omega,r.gd⟩
theorem Room.depth {k:Nat}{A:Around}(r:Room k A):A.depth<recursionLimit:=by have:=r.dp;omega
theorem Room.units {k:Nat}{A:Around}(r:Room k A):A.units+64<cLine:=by have:=r.un;omega
noncomputable def iN:TA:=λ_ H Q=>Q [] H
noncomputable def dM (ta:TE)(tr:TA):TA:=λσ H Q=>ta σ H λx H1=>tr σ H1 λxs H2=>Q (x::xs) H2
section
variable {X:Cx}{e:Expr}{es:List Expr}{te:TE}{t:TA}{pos:Pos}
theorem aB:PA X [] iN:=λ_ _ _ _ H Q I h=>Calls.spliced_nil ⟨[],H,I,.nil,h⟩
theorem bD (ha:PE X e te)(hr:PA X es t)(hs:starEach (e::es) X.env=(false,eval e X.env)::starEach es X.env:=by rfl):PA X (e::es) (dM te t):=by intro pos pins s σ H Q I h;rw[hs];show wpAny _ _ (spliced ((false,eval e X.env)::backTo pos (starEach es X.env))) _ _ s;refine Calls.spliced_cons (thn (ha pins s σ H _ I h) λu s1 ⟨x,H1,I1,r1,q1⟩=> ?_);exact thn (hr pos pins s1 σ H1 _ I1 q1) λus s2 ⟨xs,H2,I2,r2,q2⟩=> ⟨x::xs,H2,I2,.cons r1 r2,q2⟩
noncomputable def nM (t:TA):TE:=λσ H Q=>t σ H λxs H1=>xs.length<=sizeLine/\∀p,H1 p=none->Q (.ref p) (upd H1 p (.tup xs))
noncomputable def pA (t:TA):TE:=λσ H Q=>t σ H λxs H1=>xs.length<=sizeLine/\∀p,H1 p=none->Q (.ref p) (upd H1 p (.lst xs))
theorem dC {x1}(h:PA X es t):PE X (.Tuple es x1 pos) (nM t):=by intro pins s σ H Q I hq;refine wpAny_Tuple_spliced (thn (h pos pins s σ H _ I hq) λus s1 ⟨xs,H1,I1,r,z,q⟩=> ⟨by rw[←r.length];exact z,?_⟩);have hf:H1 s1.heap.objs.size=none:=I1.hok.fresh (zjQ _);refine⟨.ref s1.heap.objs.size,upd H1 s1.heap.objs.size (.tup xs),I1.laid (t':=s1.toks) (λb u e=>zjX _ e) (zjQ _) ?_,rfl,q _ hf⟩;exact⟨z,us,r,⟨_,get?_push_size _ rfl,rfl,_,rfl⟩⟩
theorem cX (h:PA X es t):PE X (.List es pos) (pA t):=by intro pins s σ H Q I hq;refine wpAny_List_spliced (thn (h pos pins s σ H _ I hq) λus s1 ⟨xs,H1,I1,r,z,q⟩=> ⟨by rw[←r.length];exact z,?_⟩);have hf:H1 s1.heap.objs.size=none:=I1.hok.fresh (zjQ _);refine⟨.ref s1.heap.objs.size,upd H1 s1.heap.objs.size (.lst xs),I1.laid (t':=s1.toks) (λb u e=>zjX _ e) (zjQ _) ?_,rfl,q _ hf⟩;exact⟨z,us,0,r,get?_push_size _ rfl⟩
end
noncomputable abbrev Sp:=List V->Hp->VK->XK->Prop
noncomputable abbrev CXT:=List Env->Hp->Shared->XK->Value->Shared->Prop
structure mX (P:Program)(w:World)(K:W.Frag)(mg:Str->Option Value)(base:Heap)(A:Around)(outer:List Env)(s:Shared)(H:Hp):Prop where
 frames:A.frames=some outer
 mod:Mod K mg base
 bs:∀b o,base.get? b=some o->s.heap.get? b=some o/\H b=none
 bsz:base.objs.size<=s.heap.objs.size
 funs:s.heap.FunFrames base outer
 frf:∀b∈frs outer,H b=none
 hok:HOk P w H s.heap
 bare:AllBare s.gens
noncomputable def CE (outer:List Env)(P:Program)(w:World)(H:Hp)(s:Shared)(Q:VK)(u:Value)(s':Shared):Prop:=
 ∃v H',s'.os=s.os/\AllBare s'.gens/\Un (frs outer) [] H H' s.heap s'.heap/\HOk P w H' s'.heap/\RelV v u/\Q v H'
noncomputable def CR (CX:CXT)(outer:List Env)(P:Program)(w:World)(H:Hp)(s:Shared)(Q:VK)(E:XK)(r:Result)(s':Shared):Prop:=
 match r with
 | .ok (.ret u)=>CE outer P w H s Q u s'
 | .ok _=>False
 | .error e=>CX outer H s E e s'
structure FnOk (P:Program)(w:World)(K:W.Frag)(mg:Str->Option Value)(base:Heap)(CX:CXT)(k:Nat)(f:Addr)(fd:FuncData)(ps:List Str)(sp:Sp):Prop where
 len:∀vs H Q E,sp vs H Q E->vs.length=ps.length
 run:∀(A:Around)(outer:List Env)(s:Shared)(H:Hp)(args:Args)(us:List Value)(vs:List V)(Q:VK)(E:XK),Room k A->mX P w K mg base A outer s H->BindsTo s fd args (ps.zip us)->Vals vs us->sp vs H Q E->
  codeAny (model P w) A (.call (.ref f) args) (CR CX outer P w H s Q E) s
theorem FnOk.imp {P:Program}{w:World}{K:W.Frag}{mg:Str->Option Value}{base:Heap}{CX:CXT}{k:Nat}{f:Addr}{fd:FuncData}{ps:List Str}{sp sp':Sp}(F:FnOk P w K mg base CX k f fd ps sp)
  (h:∀vs H Q E,sp' vs H Q E->sp vs H Q E):FnOk P w K mg base CX k f fd ps sp':=
 ⟨λvs H Q E q=>F.len vs H Q E (h _ _ _ _ q),λA outer s H args us vs Q E hr he hb hv hs=>F.run A outer s H args us vs Q E hr he hb hv (h _ _ _ _ hs)⟩
section
variable {X:Cx}{pins:List (Addr×Obj)}{σ:St}{H:Hp}{s s':Shared}
theorem Inv.env0 (I:Inv X pins σ H s):mX X.prog X.w X.K X.mg X.base X.A X.stack s H:=
 ⟨I.ok.frames,I.ok.mod,I.bs,le_trans I.ok.bsz I.sz,I.stack,I.stkFree,I.hok,I.bare⟩
theorem Inv.after {Q:VK}{u:Value}(I:Inv X pins σ H s)(h:CE X.stack X.prog X.w H s Q u s'):EP X pins σ Q u s':=by obtain⟨v,H',os,bare,un,hok,r,q⟩:=h;obtain⟨hh,g,d,t,os'⟩:=s';obtain rfl:os'=s.os:=os;exact⟨v,H',I.call (h':=hh) (g':=g) (d':=d) (t':=t) (ch:=[]) un hok bare (λb z=>absurd z (by simp)),r,q⟩
end
noncomputable def qU (sp:Sp)(dvs:List V)(E:XK)(t:TA):TE:=λσ H Q=>t σ H λvs H1=>sp (vs++dvs) H1 Q E
noncomputable def Binds (K:W.Frag)(fd:FuncData)(ps:List Str)(ds:List Value):Prop:=
 ∀(s:Shared)(us:List Value),K.In s.heap->(us++ds).length=ps.length->BindsTo s fd ⟨us,[]⟩ (ps.zip (us++ds))
theorem Binds.all {K:W.Frag}{fd:FuncData}{ps:List Str}(h:∀us:List Value,us.length=ps.length->bindArgs fd ⟨us,[]⟩=pure (ps.zip us)):Binds K fd ps []:=λs us _ hl=>by
 rw[append_nil]at hl⊢;exact .of_eq (h us hl)
noncomputable def oF (CX:CXT)(X:Cx)(E:XK):Prop:=∀(pins:List (Addr×Obj))(σ:St)(H:Hp)(s:Shared)(e:Value)(s':Shared),Inv X pins σ H s->CX X.stack H s E e s'->X.xe e s'
section
variable {X:Cx}{CX:CXT}{k:Nat}{f C:Addr}{fd:FuncData}{ps:List Str}{sp:Sp}{dvs:List V}{ds:List Value}{E:XK}{x m:Str}{p pos apos:Pos}{e o:Expr}{es:List Expr}{ta:TE}{t:TA}
theorem B2q {pins:List (Addr×Obj)}{σ:St}{H:Hp}{s:Shared}{Q:VK}{us:List Value}{vs:List V}(F:FnOk X.prog X.w X.K X.mg X.base CX k f fd ps sp)(hr:Room k X.A)(hb:Binds X.K fd ps ds)(hd:Vals dvs ds)(hx:oF CX X E)
  (I:Inv X pins σ H s)(r:Vals vs us)(h:sp (vs++dvs) H Q E):wpAny (model X.prog X.w) X.A (call (.ref f) us) (EP X pins σ Q) X.xe s:=by
 have r2:Vals (vs++dvs) (us++ds):=r.append hd;have hl:(us++ds).length=ps.length:=by rw[←r2.length];exact F.len _ _ _ _ h
 refine wpAny_call (codeAny_mono (F.run X.A X.stack s H ⟨us,[]⟩ (us++ds) (vs++dvs) Q E hr I.env0 (hb s us I.kIn hl) r2 h) λr s' hq=> ?_);cases r with
 |error e=>exact hx pins σ H s e s' I hq
 |ok fl=>
  cases fl with
  |ret u=>exact I.after hq
  |next=>exact False.elim hq
  |brk=>exact False.elim hq
  |cont=>exact False.elim hq
theorem rW (F:FnOk X.prog X.w X.K X.mg X.base CX k f fd ps sp)(hr:Room k X.A)(hg:Gl X x)(hm:X.mg x=some (.ref f))(hk:W.keepIn X.K (.ref f)=true)(hb:Binds X.K fd ps ds)(hd:Vals dvs ds)(hx:oF CX X E)
  (ha:PA X (e::es) t)(hdb:(x==("__debug__":Str))=false:=by decide)(he:starEach (e::es) X.env=(false,eval e X.env)::starEach es X.env:=by rfl)(hpl:(backTo pos (starEach es X.env)).any (·.1)=false:=by rfl):
  PE X (.Call (.Name x p) (e::es) [] pos) (qU sp dvs E t):=by
 intro pins s σ H Q I h;refine wpAny_Call_Name_kw (nT I hg hm ?_ hdb);refine W.callWith_K (h₀:=X.base) I.ok.mod.kin hk (thn (ha pos pins s σ H _ I h) λus s1 ⟨vs,H1,I1,r,q⟩=> ⟨I1.kIn,?_⟩) he hpl;exact B2q F hr hb hd hx I1 r q
end
section
variable {X:Cx}{CX:CXT}{k:Nat}{f C:Addr}{fd:FuncData}{ps ks:List Str}{sp:Sp}{E:XK}{x m:Str}{p pos apos kpos:Pos}{e o:Expr}{es:List Expr}{kws:List Keyword}{te ta:TE}{t tk:TA}{nm:Option Str}
variable {g:List Value->List Value->List Value}{gV:List V->List V->List V}
end
structure fN (N P:List Str)(sc:Scope):Prop where
 kind:sc.kind= .function
 co:sc.isCoroutine=false
 gen:sc.isGenerator=false
 nd:N.Nodup
 pre:N.take P.length=P
 par:∀x∈P,sc.names.lookup x=some .local\/sc.names.lookup x=some .cell
 nofree:∀y∈sc.names,y.2≠ .free
theorem zL {kindOf:Str->Option NameKind}{x:Str}:∀{binds:List (Str×Value)}{m:Str->Option Value},(∀v,(x,v)∉binds)->bindL kindOf binds m x=m x
 | [],_,_=>rfl
 | (n,v)::r,m,h=>by
  unfold bindL;rw[zL λw hw=>h w (zjS _ hw)]
  split
  ·have:x≠n:=by rintro rfl;exact h v zjR
   simp[this]
  ·rfl
theorem vP {kindOf:Str->Option NameKind}{x:Str}:∀{binds:List (Str×Value)}{m:Str->Option Value},(∀v,(x,v)∉binds)->bindC kindOf binds m x=m x
 | [],_,_=>rfl
 | (n,v)::r,m,h=>by
  unfold bindC;rw[vP λw hw=>h w (zjS _ hw)]
  split
  ·rfl
  ·have:x≠n:=by rintro rfl;exact h v zjR
   simp[this]
theorem vU {kindOf:Str->Option NameKind}{x:Str}{v:Value}:∀{P:List Str}{vs:List Value}{i:Nat}{m:Str->Option Value},P.Nodup->P[i]?=some x->vs[i]?=some v->kindOf x=some .local->
  bindL kindOf (P.zip vs) m x=some v
 | [],_,_,_,_,h,_,_=>by simp at h
 |_::_,[],_,_,_,_,h,_=>by simp at h
 |p::P,w::vs,0,m,nd,h1,h2,hk=>by
  simp at h1 h2;subst h1;subst h2;show bindL kindOf ((p,w)::P.zip vs) m p=_;unfold bindL;rw[zL λv hv=>(nodup_cons.mp nd).1 (of_mem_zip hv).1,if_pos hk];simp
 |p::P,w::vs,i+1,m,nd,h1,h2,hk=>by
  show bindL kindOf ((p,w)::P.zip vs) m x=_;unfold bindL;exact vU (i:=i) (nodup_cons.mp nd).2 (by simpa using h1) (by simpa using h2) hk
theorem vC {kindOf:Str->Option NameKind}{x:Str}{v:Value}:∀{P:List Str}{vs:List Value}{i:Nat}{m:Str->Option Value},P.Nodup->P[i]?=some x->vs[i]?=some v->kindOf x≠some .local->
  bindC kindOf (P.zip vs) m x=some v
 | [],_,_,_,_,h,_,_=>by simp at h
 |_::_,[],_,_,_,_,h,_=>by simp at h
 |p::P,w::vs,0,m,nd,h1,h2,hk=>by
  simp at h1 h2;subst h1;subst h2;show bindC kindOf ((p,w)::P.zip vs) m p=_;unfold bindC;rw[vP λv hv=>(nodup_cons.mp nd).1 (of_mem_zip hv).1,if_neg hk];simp
 |p::P,w::vs,i+1,m,nd,h1,h2,hk=>by
  show bindC kindOf ((p,w)::P.zip vs) m x=_;unfold bindC;exact vC (i:=i) (nodup_cons.mp nd).2 (by simpa using h1) (by simpa using h2) hk
noncomputable def start (N:List Str)(vs:List V):St:=vs.map some++replicate (N.length - vs.length) none
noncomputable def dJ (CX:CXT)(P:Program)(w:World)(K:W.Frag)(mg:Str->Option Value)(base:Heap)(N:List Str)(qual:Str)(scope:Scope)(f:Addr)(cd:Value)(A:Around)(outer:List Env)(s:Shared)(H:Hp)(E:XK):Cx where
 prog:=P
 w:=w
 K:=K
 mg:=mg
 base:=base
 A:=A.deeper (envOfC qual scope s.heap.objs.size f cd)
 N:=N
 s₀:=s
 H₀:=H
 env:=envOfC qual scope s.heap.objs.size f cd
 outer:=outer
 stack:=envOfC qual scope s.heap.objs.size f cd::outer
 ex:=[]
 calm:=true
 fn:=λ_=>true
 pn:=[]
 xe:=λe s'=>wpAny (model P w) (A.deeper (envOfC qual scope s.heap.objs.size f cd)) (leaving (envOfC qual scope s.heap.objs.size f cd) e) (λ_ s''=>CX outer H s E e s'') (λe' s''=>CX outer H s E e' s'') s'
theorem A0y {sc:Scope}{n:Nat}{x:Str}(h:sc.names.lookup x=some .cell):∃c,(cellsFrom n sc.names []).lookup x=some c:=by have q:=W.cellsFrom_some sc.names n [] (.inl h);exact Option.isSome_iff_exists.mp q
theorem zS {CX:CXT}{P:Program}{w:World}{K:W.Frag}{mg:Str->Option Value}{base:Heap}{N ps:List Str}{qual:Str}{scope:Scope}{f:Addr}{cd:Value}{A:Around}{outer:List Env}{s s1:Shared}{H:Hp}{E:XK}{us:List Value}{vs:List V}
  (S:fN N ps scope)(hd:A.handled=none)(e0:mX P w K mg base A outer s H)(hl:vs.length=ps.length)(r:Vals vs us)
  (x:InCallC s s.heap.objs.size (bindL (envOfC qual scope s.heap.objs.size f cd).kindOf (ps.zip us) λ_=>none) (cellsFrom (s.heap.objs.size+1) scope.names []) (bindC (envOfC qual scope s.heap.objs.size f cd).kindOf (ps.zip us) λ_=>none) s1):
  Inv (dJ CX P w K mg base N qual scope f cd A outer s H E) [] (start N vs) H s1:=by
 have hpl:ps.length<=N.length:=by have:=congrArg List.length S.pre;rw[length_take]at this;omega
 obtain⟨h1,tk,rfl,hk⟩:=x.done;have noA:∀b:Addr,b∉(dJ CX P w K mg base N qual scope f cd A outer s H E).ex:=λb z=>absurd (show b∈([]:List Addr)from z) (by simp);refine⟨⟨e0.mod,S.kind,rfl,rfl,zjQ _,λy z c h1 h2=> ?_,λy hy=> ?_,λy c _ h=> ?_,λ_=>hd,Around.frames_deeper e0.frames,.inr ⟨rfl,rfl⟩,λb z=>absurd z (noA b),e0.bs,e0.bsz,λb _ _=>noA b,λb z=>absurd z (noA b),e0.funs,e0.frf⟩,
  rfl,e0.bare,Un.kept hk,⟨_,x.toInCall.ns,λi y v h1 h2 h3=> ?_⟩,λy c h=> ⟨_,x.cell y c h⟩,e0.hok.fresh (zjQ _),λy c h=> ?_,λp hp=>absurd (show p∈([]:List (Addr×Obj))from hp) (by simp),e0.hok.kept hk,?_⟩
 ·exact name_of_addr x.apart (PySem.mem_of_lookup h1) (PySem.mem_of_lookup h2)
 ·have hy:scope.names.lookup y=some .cell\/scope.names.lookup y=some .free:=hy;rcases hy with hy|hy
  ·exact A0y hy
  ·exact absurd rfl (S.nofree _ (PySem.mem_of_lookup hy))
 ·exact le_of_lt (x.above y c (PySem.mem_of_lookup h))
 ·have hi:i<vs.length:=by
   unfold start at h2;by_cases hi:i<vs.length
   ·exact hi
   ·rw[getElem?_append_right (by simpa using hi)]at h2;rw[getElem?_replicate]at h2
    split at h2<;>cases h2
  have ha:vs[i]?=some v:=by
   unfold start at h2;rw[getElem?_append_left (by simpa using hi),getElem?_map]at h2;cases e:vs[i]? with
   |none=>rw[e]at h2;cases h2
   |some a=>rw[e]at h2;cases h2;rfl
  obtain⟨u,hu,rv⟩:=r.get ha;have hp:ps[i]?=some y:=by
   rw[←S.pre,List.getElem?_take_of_lt (by omega)];exact h1
  have ndP:ps.Nodup:=by rw[←S.pre];exact S.nd.sublist (take_sublist _ _)
  refine⟨u,rv,?_⟩;rcases S.par y (mem_of_getElem? hp)with k|k
  ·exact .inl ⟨k,vU ndP hp hu k⟩
  ·obtain⟨c,e⟩:=A0y (n:=s.heap.objs.size+1) k;refine .inr ⟨.inl k,c,e,?_⟩;have q:=x.cell y c e;rw[vC ndP hp hu (by show scope.names.lookup y≠_;rw[k];decide)]at q;exact q
 ·exact e0.hok.fresh (le_of_lt (x.above y c (PySem.mem_of_lookup h)))
 ·unfold start;show _=N.length;rw[length_append,length_map,List.length_replicate];omega
theorem yR {CX:CXT}{P:Program}{w:World}{K:W.Frag}{mg:Str->Option Value}{base:Heap}{k:Nat}{f:Addr}{name qual:Str}{params:Arguments}{body:List Stmt}{scope:Scope}{dV kV doc pm cdv ct oc:Value}{an od:Option Addr}
  {osl:Array (Option Value)}{N ps:List Str}{sp:Sp}(lk:K.lookup f=some ⟨oc,od,.func (W.fnOf name qual params body scope dV kV doc pm an cdv ct),osl⟩)(hcd:W.codeIn K cdv qual=true)(S:fN N ps scope)
  (len:∀vs H Q E,sp vs H Q E->vs.length=ps.length)
  (hbody:∀(A:Around)(outer:List Env)(s:Shared)(H:Hp)(vs:List V)(Q:VK)(E:XK),Room k (A.deeper (envOfC qual scope s.heap.objs.size f cdv))->sp vs H Q E->
   ∃t,PSs (dJ CX P w K mg base N qual scope f cdv A outer s H E) body t/\t {nx:=λ_ H'=>Q .non H',rt:=Q} (start N vs) H):
  FnOk P w K mg base CX (k+1) f (W.fnOf name qual params body scope dV kV doc pm an cdv ct) ps sp:=by
 refine⟨len,λA outer s H args us vs Q E hr e0 hb r hsp=> ?_⟩;have hl:=len _ _ _ _ hsp;have KX:K.In s.heap:=e0.mod.kin.keeps λb o e=>(e0.bs b o e).1;have lim:s.heap.NoLimit:=e0.mod.nolimit.keeps λb o e=>(e0.bs b o e).1;have hkind:∀y∈ps.zip us,scope.names.lookup y.1=some .local\/(scope.names.lookup y.1=some .cell/\((cellsFrom (s.heap.objs.size+1) scope.names []).lookup y.1).isSome=true):=λ⟨n,v⟩ hy=>by
  rcases S.par n (of_mem_zip hy).1 with q|q
  ·exact .inl q
  ·exact .inr ⟨q,W.cellsFrom_some _ _ _ (.inl q)⟩
 refine codeAny_call_function hr.depth (KX _ _ lk) rfl S.co S.gen rfl (W.codeRec_of KX hcd) (hb _ _ _ _ ?_);refine wpAny_newFunctionEnv_cells S.kind hkind λenv he s1 x=> ?_;subst he;refine⟨lim.keeps x.toInCall.keep,codeAny_func ?_⟩;obtain⟨t,ht,hq⟩:=hbody A outer s H vs Q E (hr.deeper _) hsp;have I:Inv (dJ CX P w K mg base N qual scope f cdv A outer s H E) [] (start N vs) H s1:=zS S hr.hd e0 hl r x;refine wpAny_mono (ht [] s1 (start N vs) H _ I hq) (λfl s' hs=> ?_) λe s' hs=>hs;have fin:∀{σ':St}{H':Hp}{v:V}{u:Value},Inv (dJ CX P w K mg base N qual scope f cdv A outer s H E) [] σ' H' s'->RelV v u->Q v H'->CE outer P w H s Q u s':=
  fun{σ' H' v u} J rv q=> ⟨v,H',J.os,J.bare,J.base,J.hok,rv,q⟩
 cases fl with
 |ret u=>
  obtain⟨v,σ',H',J,rv,q⟩:=hs;exact fin J rv q
 |next=>
  obtain⟨σ',H',J,q⟩:=hs;exact fin (v:=V.non) (u:=Value.none) J rfl q
 |brk=>
  obtain⟨_,_,_,q⟩:=hs;exact False.elim q
 |cont=>
  obtain⟨_,_,_,q⟩:=hs;exact False.elim q
section
variable {X:Cx}{x:Str}{p pos:Pos}{e:Expr}{es:List Expr}{t:TA}{id T:String}{r:List V->Hp->VK->Prop}
noncomputable def tCB (r:List V->Hp->VK->Prop)(t:TA):TE:=λσ H Q=>t σ H λvs H1=>r vs H1 Q
theorem bE (hc:eD X (.builtin id) r)(hg:Gl X x)(hm:X.mg x=none)(hv:bootBuiltins x=some (.builtin id))(ha:PA X (e::es) t)(hn:x≠ "__name__":=by decide)(hdb:(x==("__debug__":Str))=false:=by decide)
  (he:starEach (e::es) X.env=(false,eval e X.env)::starEach es X.env:=by rfl)(hpl:(backTo pos (starEach es X.env)).any (·.1)=false:=by rfl):PE X (.Call (.Name x p) (e::es) [] pos) (tCB r t):=by
 intro pins s σ H Q I h;refine wpAny_Call_Name_kw (jB I hg hm hv ?_ hn hdb);exact PyProof.Rows.callWith_builtin1 (thn (ha pos pins s σ H _ I h) λus s1 ⟨vs,H1,I1,r1,q1⟩=>hc pins s1 σ H1 vs us Q I1 r1 q1) he hpl
theorem fC (hc:eD X (.type T) r)(hg:Gl X x)(hm:X.mg x=none)(hv:bootBuiltins x=some (.type T))(ha:PA X (e::es) t)(hn:x≠ "__name__":=by decide)(hdb:(x==("__debug__":Str))=false:=by decide)
  (he:starEach (e::es) X.env=(false,eval e X.env)::starEach es X.env:=by rfl)(hpl:(backTo pos (starEach es X.env)).any (·.1)=false:=by rfl):PE X (.Call (.Name x p) (e::es) [] pos) (tCB r t):=by
 intro pins s σ H Q I h;refine wpAny_Call_Name_kw (jB I hg hm hv ?_ hn hdb);exact PyProof.Rows.callWith_type1 (thn (ha pos pins s σ H _ I h) λus s1 ⟨vs,H1,I1,r1,q1⟩=>hc pins s1 σ H1 vs us Q I1 r1 q1) he hpl
end
end L2
namespace HT
open PySem PyProof.Rows
noncomputable def lexLt:List Int->List Int->Bool
 | [],[]=>false
 | [],_::_=>true
 |_::_,[]=>false
 |x::xs,y::ys=>if x=y then lexLt xs ys else decide (x<y)
theorem lexLt_cons (x y:Int)(xs ys:List Int):lexLt (x::xs) (y::ys)=if x=y then lexLt xs ys else decide (x<y):=rfl
theorem B0k:lexLt [] []=false:=rfl
theorem A8t (y:Int)(ys:List Int):lexLt [] (y::ys)=true:=rfl
theorem A8q (x:Int)(xs:List Int):lexLt (x::xs) []=false:=rfl
theorem A5o (A:Around)(s:Shared)(a:Int)(t:Tok)(c:Int)(u:Tok):∃e,SeqAt.EqAt A s (.int a t) (.int c u) e/\(e=true↔a=c):=
 ⟨(a==c),SeqAt.EqAt.int_int a t c u,by simp⟩
theorem A8w (A:Around)(s:Shared)(a:Int)(t:Tok)(c:Int)(u:Tok)(prog:Program)(w:World)(E:Value->Shared->Prop)(Q:Value->Shared->Prop)(h:Q (.bool (decide (a<c))) s):
  wpAny (model prog w) A (richCompare .Lt (.int a t) (.int c u)) Q E s:=
 (PyProof.Rows.lt_int h:wpAny (model prog w) A (compareOp .Lt (.int a t) (.int c u)) Q E s)
section
open PySem.SeqAt
open PySem.AutoSeq1 (wpAny_loadPart')
open PySem.MeetsSeq PySem.MeetsSeq2 PySem.MeetsSeq3
theorem B2j (l b:Addr)(items items2:Array Value)(n n2:Nat)(dd dd2:Option Addr)(sl sl2:Array (Option Value))(ns ms:List Int)(hi:IntsAre items.toList ns)(hj:IntsAre items2.toList ms):
  Meets (Builtin.«tuple.__lt__» ⟨[.ref l,.ref b],[]⟩)
   (λ_ R s=>s.heap.get? l=some {cls:=.type "tuple",dict:=dd,data:=.seq items n,slots:=sl}/\s.heap.get? b=some {cls:=.type "tuple",dict:=dd2,data:=.seq items2 n2,slots:=sl2}/\
    R (.ok (.ret (.bool (lexLt ns ms)))) s):=
 .of_wp λprog w A R s h=>by
  obtain⟨hp,g,d,tk,os⟩:=s;obtain⟨hl,hb,h⟩:=h;have f2:=AutoSeq1.sub_tuple_tuple;have z1:items.size=ns.length:=by rw[←hi.length];simp
  have z2:items2.size=ms.length:=by rw[←hj.length];simp
  wp_walk using wpAny_loadPart' hl,wpAny_loadPart' hb,wpAny_forIn_list _ (λrest b s'=>b.1=none/\s'=⟨hp,g,d,tk,os⟩/\∃(vs ws:List Value)(ns' ms':List Int),rest=vs.zip ws/\
   IntsAre vs ns'/\IntsAre ws ms'/\ns'.length+items2.size=ms'.length+items.size/\R (.ok (.ret (.bool (lexLt ns' ms')))) ⟨hp,g,d,tk,os⟩) _
  case turn=>
   rintro⟨y,x⟩ rest b s' ⟨hb',rfl,vs,ws,ns',ms',hz,hvi,hwi,hlen,hR⟩;cases hvi with
   |nil=>rw[List.zip_nil_left]at hz;cases hz
   |cons a t hvi'=>
    cases hwi with
    |nil=>rw[List.zip_nil_right]at hz;cases hz
    |cons c u hwi'=>
     rw[zip_cons_cons]at hz;injection hz with hyx hrest
     injection hyx with hy hx;subst hy hx;rw[lexLt_cons]at hR;simp only[length_cons]at hlen;obtain⟨e,he,hiff⟩:=A5o A.in1 ⟨hp,g,d,tk,os⟩ a t c u;refine zjZ (he prog w _ _ ?_);cases e with
     |true=>
      rw[if_pos (hiff.mp rfl)]at hR
      wp_walk
      exact⟨rfl,rfl,_,_,_,_,hrest,hvi',hwi',by omega,hR⟩
     |false=>
      rw[if_neg (λq=>absurd (hiff.mpr q) Bool.false_ne_true)]at hR;have hri:=A8w A.in1 ⟨hp,g,d,tk,os⟩ a t c u prog w
      wp_walk using hri
      exact⟨_,rfl,by simpa using hR⟩
  case fin=>
   rintro⟨b1,b2⟩ s' ⟨hb',rfl,vs,ws,ns',ms',hz,hvi,hwi,hlen,hR⟩;simp only at hb';subst hb';have hv:lexLt ns' ms'=decide (items.size<items2.size):=by
    cases hvi with
    |nil=>
     cases hwi with
     |nil=>
      simp only[length_nil]at hlen;rw[B0k];exact(zjU (by omega)).symm
     |cons c u hw=>
      simp only[length_nil,length_cons]at hlen;rw[A8t];exact(zjV (by omega)).symm
    |cons a t hv=>
     cases hwi with
     |nil=>
      simp only[length_nil,length_cons]at hlen;rw[A8q];exact(zjU (by omega)).symm
     |cons c u hw=>
      rw[zip_cons_cons]at hz;cases hz
   rw[hv]at hR
   wp_walk
   exact⟨_,rfl,by simpa [Builtin.Tuple.tupleCompareSizes]using hR⟩
  case h=>
   exact⟨rfl,rfl,items.toList,items2.toList,ns,ms,rfl,hi,hj,by omega,h⟩
end
section
variable {prog:Program}{w:World}{A:Around}{E:Value->Shared->Prop}{s:Shared}
theorem lt_tupInts {l b:Addr}{items items2:Array Value}{ns ms:List Int}{Q:Value->Shared->Prop}(hl:IsTup s.heap l items)(hb:IsTup s.heap b items2)(hi:IntsAre items.toList ns)(hj:IntsAre items2.toList ms)
  (hu:A.units<cLine)(h:Q (.bool (lexLt ns ms)) s):wpAny (model prog w) A (compareOp .Lt (.ref l) (.ref b)) Q E s:=by
 obtain⟨⟨cls,dd,data,sl⟩,ho,hc,n,hd⟩:=id hl;obtain⟨⟨cls2,dd2,data2,sl2⟩,ho2,hc2,n2,hd2⟩:=id hb;simp only at hc hd hc2 hd2;subst hc hd hc2 hd2;exact richCompare_meets_room (op:=.Lt) ⟨_,ho,rfl⟩ ⟨_,ho2,rfl⟩ PySem.F.slot_tuple_lt PySem.F.entry_tuple_lt (PySem.F.args_tuple_lt_2 _ _) (B2j l b items items2 n n2 dd dd2 sl sl2 ns ms hi hj)
  ⟨ho,ho2,show Value.bool (lexLt ns ms)≠Value.notImplemented/\Q (.bool (lexLt ns ms)) s from⟨(λx=>nomatch x),h⟩⟩ hu
theorem cat_tup {t b:Addr}{vs ws:List Value}{Q:Value->Shared->Prop}(ht:IsTup s.heap t vs.toArray)(hb:IsTup s.heap b ws.toArray)(hv:vs≠[])
  (h1:ws=[]->Q (.ref t) s)(h2:ws≠[]->Q (.ref s.heap.objs.size) {s with heap:=s.heap.push {cls:=.type "tuple",data:=.seq (vs++ws).toArray}})
  (hsz:vs.length+ws.length<=sizeLine):wpAny (model prog w) A (binaryOp .Add (.ref t) (.ref b)) Q E s:=by
 obtain⟨⟨cls,dd,data,sl⟩,ho,hc,n,hd⟩:=id ht;obtain⟨⟨cls2,dd2,data2,sl2⟩,ho2,hc2,n2,hd2⟩:=id hb;simp only at hc hd hc2 hd2;subst hc hd hc2 hd2;have e:vs.toArray++ws.toArray=(vs++ws).toArray:=by simp
 by_cases hw:ws=[]
 ·exact concat_meets ⟨_,ho,rfl⟩ ⟨_,ho2,rfl⟩ noFill_tuple_add seq_tuple_add PySem.F.slot_tuple_add PySem.F.entry_tuple_add (PySem.F.args_tuple_add_2 _ _)
   (tuple_addW1 t b vs.toArray ws.toArray n n2 dd dd2 sl sl2 (by simpa using hv) (by simp[hw])) ⟨ho,ho2,h1 hw⟩
 ·refine concat_meets ⟨_,ho,rfl⟩ ⟨_,ho2,rfl⟩ noFill_tuple_add seq_tuple_add PySem.F.slot_tuple_add PySem.F.entry_tuple_add (PySem.F.args_tuple_add_2 _ _)
   (tuple_addW2 t b vs.toArray ws.toArray n n2 dd dd2 sl sl2 (by simpa using hv) (by simpa using hw) (by rw[size_toArray,size_toArray];exact hsz)) ⟨ho,ho2,?_⟩
  rw[e];exact h2 hw
noncomputable def sIx (n d:Nat):Option Int->Nat
 |none=>d
 |some v=>if v<0 then(v+(n:Int)).toNat else min v.toNat n
theorem sIx_nat (n d k:Nat):sIx n d (some (k:Int))=min k n:=by show(if (k:Int)<0 then((k:Int)+(n:Int)).toNat else min (k:Int).toNat n)=min k n;rw[if_neg (by omega),Int.toNat_natCast]
end
end HT
namespace L2
open PySem PySem.Spec PyProof.Rows
noncomputable abbrev TO:=St->Hp->(Option Int->Hp->Prop)->Prop
noncomputable def PO (X:Cx)(e:Option Expr)(t:TO):Prop:=
 ∀(pins:List (Addr×Obj))(s:Shared)(σ:St)(H:Hp)(Q:Option Int->Hp->Prop),Inv X pins σ H s->t σ H Q->
  wpAny (model X.prog X.w) X.A (evalPart e X.env) (λu s'=> ∃o H',Inv X pins σ H' s'/\IsPart u o/\Q o H') X.xe s
noncomputable def A5p:TO:=λ_ H Q=>Q none H
noncomputable def A3x (t:TE):TO:=λσ H Q=>t σ H λx H1=> ∃i,x= .int i/\Q (some i) H1
theorem wX {ns:List Int}:∀{us:List Value},Vals (ns.map V.int) us->IntsAre us ns:=by
 induction ns with
 |nil=>intro us r;rw[map_nil]at r;cases r;exact .nil
 |cons n ns ih=>
  intro us r;rw[map_cons]at r;cases r with
  |cons r1 r2=>
   obtain⟨t,e⟩:=r1;subst e;exact .cons n t (ih r2)
section
variable {X:Cx}{e:Expr}{te:TE}{lo hi:Option Expr}{tl th:TO}{pos p2:Pos}
theorem nL:PO X none A5p:=by intro pins s σ H Q I h;rw[evalPart_none];exact zjY ⟨none,H,I,.none,h⟩
theorem gZ (h:PE X e te):PO X (some e) (A3x te):=by intro pins s σ H Q I hw;rw[evalPart_some];refine thn (h pins s σ H _ I hw) λu s1 ⟨x,H1,I1,r1,q1⟩=> ?_;obtain⟨i,rfl,q⟩:=q1;obtain⟨t,rfl⟩:=r1;exact⟨some i,H1,I1,.int i t,q⟩
noncomputable def SlR (X:Cx)(r:V->Option Int->Option Int->Hp->VK->Prop):Prop:=
 ∀(pins:List (Addr×Obj))(s:Shared)(σ:St)(H:Hp)(x:V)(v vl vu:Value)(lo hi:Option Int)(sl:Addr)(Q:VK),Inv X pins σ H s->RelV x v->s.heap.IsSliceOf sl vl vu .none->IsPart vl lo->IsPart vu hi->r x lo hi H Q->
  ∃T id,typeLookup (.type T) "__getitem__" =pure (some (.builtin id))/\s.TypeIs v T/\wpAny (model X.prog X.w) X.A (getItem v (.ref sl)) (EP X pins σ Q) X.xe s
noncomputable def tSl (r:V->Option Int->Option Int->Hp->VK->Prop)(te:TE)(tl th:TO):TE:=λσ H Q=>te σ H λx H1=>tl σ H1 λl H2=>th σ H2 λu H3=>r x l u H3 Q
theorem jV {r:V->Option Int->Option Int->Hp->VK->Prop}(hr:SlR X r)(he:PE X e te)(hl:PO X lo tl)(hu:PO X hi th):PE X (.Subscript e (.Slice lo hi none p2) pos) (tSl r te tl th):=by intro pins s σ H Q I h;refine Subscript_ (thn (he pins s σ H _ I h) λv s1 ⟨x,H1,I1,r1,q1⟩=> ?_);refine wpAny_Slice (thn (hl pins s1 σ H1 _ I1 q1) λvl s2 ⟨l,H2,I2,pl,q2⟩=>thn (hu pins s2 σ H2 _ I2 q2) λvu s3 ⟨u,H3,I3,pu,q3⟩=> ?_);rw[evalPart_none];refine zjY ?_;have I4:Inv X pins σ H3 {s3 with heap:=s3.heap.push {cls:=.type "slice",data:=.fields #[vl,vu,.none]}}:=I3.kept (t':=s3.toks) λb ob q=>zjX _ q;obtain⟨T,id,hT,ht,hg⟩:=hr pins {s3 with heap:=s3.heap.push {cls:=.type "slice",data:=.fields #[vl,vu,.none]}} σ H3 x v vl vu l u s3.heap.objs.size Q I4 r1 (Heap.IsSliceOf.new ..) pl pu q3;show wpAny (model X.prog X.w) X.A (subscriptTail e (.Slice lo hi none p2) v (.ref s3.heap.objs.size)) (EP X pins σ Q) X.xe {s3 with heap:=s3.heap.push {cls:=.type "slice",data:=.fields #[vl,vu,.none]}};exact tail_any (ops:=[.ref s3.heap.objs.size,v]) ht hT hg (by with_unfolding_all rfl)
noncomputable def cutV (xs:List V)(lo hi:Option Int):List V:=(xs.drop (HT.sIx xs.length 0 lo)).take (HT.sIx xs.length xs.length hi - HT.sIx xs.length 0 lo)
theorem lJ (xs:List V)(lo hi:Option Int):(cutV xs lo hi).length<=xs.length:=by unfold cutV;rw[length_take,length_drop];omega
noncomputable def A3w (K:W.Frag):R2:=λx y H Q=> ∃a b ns ms,x= .ref a/\y= .ref b/\SqT K H a (ns.map V.int)/\SqT K H b (ms.map V.int)/\Q (.bl (HT.lexLt ns ms)) H
theorem A2u (hu:X.A.units<cLine):OpR X (compareOp .Lt) (A3w X.K):=by intro pins s σ H x y v u Q I rx ry h;obtain⟨a,b,ns,ms,rfl,rfl,ha,hb,q⟩:=h;cases rx;cases ry;obtain⟨its,r1,p1,_⟩:=I.tuple ha;obtain⟨its2,r2,p2,_⟩:=I.tuple hb;have i1:IntsAre its.toArray.toList ns:=wX r1;have i2:IntsAre its2.toArray.toList ms:=wX r2;exact HT.lt_tupInts p1 p2 i1 i2 hu ⟨.bl (HT.lexLt ns ms),H,I,rfl,q⟩
theorem Vals.nil_iff {xs:List V}{us:List Value}(r:Vals xs us):us=[]↔xs=[]:=by
 cases r with
 |nil=>simp
 |cons _ _=>simp
end
noncomputable def ixN (n:Nat)(i:Int):Option Nat:=if 0<=i then(if i<n then some i.toNat else none)else if -(n:Int)<=i then some (i+n).toNat else none
noncomputable def atI {α:Type}(xs:List α)(i:Int):Option α:=(ixN xs.length i).bind λj=>xs[j]?
theorem A02 {n:Nat}{i:Int}{j:Nat}(h:ixN n i=some j):seqIndex? i n=some j/\j<n/\-(n:Int)<=i/\i<n:=by
 unfold ixN at h;by_cases h0:0<=i
 ·rw[if_pos h0]at h;by_cases h1:i<n
  ·rw[if_pos h1]at h;have e:i.toNat=j:=Option.some.inj h;exact⟨by rw[seqIndex_of h0 h1,e],by omega,by omega,h1⟩
  ·rw[if_neg h1]at h;cases h
 ·rw[if_neg h0]at h;by_cases h1:-(n:Int)<=i
  ·rw[if_pos h1]at h;have e:(i+n).toNat=j:=Option.some.inj h;exact⟨by rw[seqIndex_neg (by omega) h1,e],by omega,h1,by omega⟩
  ·rw[if_neg h1]at h;cases h
theorem lO {α:Type}{xs:List α}{i:Int}{v:α}(h:atI xs i=some v):∃j,seqIndex? i xs.length=some j/\xs[j]?=some v/\j<xs.length/\-(xs.length:Int)<=i/\i<xs.length:=by
 unfold atI at h;cases e:ixN xs.length i with
 |none=>rw[e]at h;cases h
 |some j=>
  rw[e]at h;obtain⟨h1,h2,h3,h4⟩:=A02 e;exact⟨j,h1,h,h2,h3,h4⟩
theorem cB {α:Type}{xs:List α}{j:Nat}{v:α}(h:xs[j]?=some v):atI xs (j:Int)=some v:=by
 have hj:j<xs.length:=(zjW.mp h).1;have e:ixN xs.length (j:Int)=some j:=by
  unfold ixN;rw[if_pos (by omega),if_pos (by omega)];simp
 unfold atI;rw[e];exact h
noncomputable def A20 (b:Expr):Prop:=∀o i,subscripted b false o i=operate [o,i] (getItem o i)
noncomputable def IxR (X:Cx)(r:R2):Prop:=
 ∀(value slice:Expr)(pins:List (Addr×Obj))(s:Shared)(σ:St)(H:Hp)(x y:V)(v u:Value)(Q:VK),Inv X pins σ H s->RelV x v->RelV y u->r x y H Q->
  subscripted slice false v u=operate [v,u] (getItem v u)->wpAny (model X.prog X.w) X.A (subscriptTail value slice v u) (EP X pins σ Q) X.xe s
noncomputable def MtR (X:Cx)(id:String)(r:V->List V->Hp->VK->Prop):Prop:=
 ∀(pins:List (Addr×Obj))(s:Shared)(σ:St)(H:Hp)(x:V)(xs:List V)(v:Value)(us:List Value)(Q:VK),Inv X pins σ H s->RelV x v->Vals xs us->r x xs H Q->
  wpAny (model X.prog X.w) X.A (call (.builtin id) (v::us)) (EP X pins σ Q) X.xe s
section
variable {X:Cx}{a b:Expr}{ta tb:TE}{pos:Pos}
theorem bJ {r:R2}(hr:IxR X r)(ha:PE X a ta)(hb:PE X b tb)(hs:A20 b):PE X (.Subscript a b pos) (tOp r ta tb):=by intro pins s σ H Q I h;exact Subscript_ (tF ha hb I h λv u s2 x y H2 I2 rx ry q=>hr a b pins s2 σ H2 x y v u Q I2 rx ry q (hs _ _))
noncomputable def A7n (K:W.Frag):R2:=λx y H Q=> ∃p xs i v,x= .ref p/\y= .int i/\SqL K H p xs/\atI xs i=some v/\Q v H
noncomputable def iW (K:W.Frag):R2:=λx y H Q=> ∃p xs i v,x= .ref p/\y= .int i/\SqT K H p xs/\atI xs i=some v/\Q v H
theorem eR:IxR X (A7n X.K):=by
 intro value slice pins s σ H x y v u Q I rx ry h hs;obtain⟨p,xs,i,z,rfl,rfl,hq,he,q⟩:=h;cases rx;obtain⟨t,rfl⟩:=ry;obtain⟨its,r,pl,hz⟩:=I.list hq;obtain⟨j,h1,h2,h3,h4,h5⟩:=lO he;obtain⟨w,ew,rw'⟩:=r.get h2;have hl:=r.length;have hn:=nP;have fin:EP X pins σ Q w s:=⟨z,H,I,rw',q⟩;by_cases h0:0<=i
 ·have hj:i.toNat=j:=by
   rw[seqIndex_of h0 h5]at h1;exact Option.some.inj h1
  exact item_listR pl.isList h0 (by omega) (by rw[hj];simpa using ew) fin hs
 ·have hj:(i+(its.toArray.size:Int)).toNat=j:=by
   rw[seqIndex_neg (by omega) h4]at h1;rw[size_toArray,←hl];exact Option.some.inj h1
  exact subscriptTail_builtinR (x:=w) pl.isList.typeIs slot_list_getitem.lookup
   (wpAny_getItem_list_neg (Q:=λr s'=>r=w/\EP X pins σ Q r s') pl.isList (by omega) (by rw[size_toArray]<;>omega) (by omega) (by rw[hj];simpa using ew) ⟨rfl,fin⟩) hs
theorem cA:IxR X (iW X.K):=by
 intro value slice pins s σ H x y v u Q I rx ry h hs;obtain⟨p,xs,i,z,rfl,rfl,hq,he,q⟩:=h;cases rx;obtain⟨t,rfl⟩:=ry;obtain⟨its,r,pl,hz⟩:=I.tuple hq;obtain⟨j,h1,h2,h3,h4,h5⟩:=lO he;obtain⟨w,ew,rw'⟩:=r.get h2;have hl:=r.length;have hn:=nP;have fin:EP X pins σ Q w s:=⟨z,H,I,rw',q⟩;exact subscriptTail_builtinR (x:=w) pl.typeIs slot_tuple_getitem.lookup
  (getItem_tuple (j:=j) (Q:=λr s'=>r=w/\EP X pins σ Q r s') pl (by omega) (by omega) (by rw[size_toArray,←hl];exact h1) (by simpa using ew) ⟨rfl,fin⟩) hs
theorem A32 (its:List Value)(n j:Nat)(u:Value):Obj.mapSeq (·.setIfInBounds j u) {cls:=.type "list",data:=.seq its.toArray n}={cls:=.type "list",data:=.seq (its.set j u).toArray n}:=by simp[Obj.mapSeq]
theorem Inv.lst {pins:List (Addr×Obj)}{σ:St}{H:Hp}{s:Shared}{p:Addr}{xs:List V}(I:Inv X pins σ H s)(h:H p=some (.lst xs)):
  ∃(its:List Value)(n:Nat),Vals xs its/\s.heap.get? p=some {cls:=.type "list",data:=.seq its.toArray n}/\xs.length<=sizeLine:=by
 obtain⟨z,its,n,r,e⟩:=I.hok p _ h;exact⟨its,n,r,e,z⟩
theorem Inv.lstUpd {pins:List (Addr×Obj)}{σ:St}{H:Hp}{s:Shared}{p:Addr}{xs ys:List V}{its its':List Value}{n n':Nat}{f:Obj->Obj}(I:Inv X pins σ H s)(h:H p=some (.lst xs))
  (ho:s.heap.get? p=some {cls:=.type "list",data:=.seq its.toArray n})(hf:f {cls:=.type "list",data:=.seq its.toArray n}={cls:=.type "list",data:=.seq its'.toArray n'})(r:Vals ys its')(hz:ys.length<=sizeLine)(t:Nat):
  Inv X pins σ (upd H p (.lst ys)) {s with heap:=s.heap.update p f,toks:=t}:=by
 have e:(s.heap.update p f).get? p=some {cls:=.type "list",data:=.seq its'.toArray n'}:=by
  rw[get?_update_self f ho (by rw[hf]<;>rfl),hf]
 refine I.write (x:=p) (e:=p) (by rw[h];trivial) (.inl rfl) (λb u hb q=>(get?_update_other _ _ (Ne.symm hb)).trans q) ⟨_,e⟩ ?_;exact⟨hz,its',n',r,e⟩
noncomputable def A38:V->V->V->Hp->(Hp->Prop)->Prop:=λo i v H Q=> ∃p xs k j,o= .ref p/\i= .int k/\H p=some (.lst xs)/\ixN xs.length k=some j/\Q (upd H p (.lst (xs.set j v)))
theorem rG:A0e X A38:=by
 intro pins s σ H o i v ov iv u Q I ro ri rv h;obtain⟨p,xs,k,j,rfl,rfl,hp,hj,q⟩:=h;cases ro;obtain⟨t,rfl⟩:=ri;obtain⟨its,n,r,ho,hz⟩:=I.lst hp;obtain⟨h1,h2,h3,h4⟩:=A02 hj;have hl:=r.length;have hn:=nP;have I':Inv X pins σ (upd H p (.lst (xs.set j v))) {s with heap:=s.heap.update p (Obj.mapSeq (·.setIfInBounds j u))}:=
  I.lstUpd hp ho (A32 its n j u) (r.set rv j) (by rw[List.length_set];exact hz) s.toks
 by_cases h0:0<=k
 ·have hk:k.toNat=j:=by
   rw[seqIndex_of h0 h4]at h1;exact Option.some.inj h1
  exact W.ki_setAt ho h0 (by omega) (by rw[size_toArray,←hl];exact h4) (by rw[hk];exact⟨_,I',q⟩)
 ·have hk:(k+(its.toArray.size:Int)).toNat=j:=by
   rw[seqIndex_neg (by omega) h3]at h1;rw[size_toArray,←hl];exact Option.some.inj h1
  exact W.ki_setBack ho (by omega) (by rw[size_toArray,←hl];exact h3) (by omega) (by rw[hk];exact⟨_,I',q⟩)
theorem B2g (lo hi:Option Int)(n:Nat):(sliceBounds lo hi none n).1=((HT.sIx n 0 lo:Nat):Int)/\(sliceBounds lo hi none n).2.1=((HT.sIx n n hi:Nat):Int)/\(sliceBounds lo hi none n).2.2=1:=by
 refine⟨?_,?_,rfl⟩
 ·cases lo with
  |none=>simp[sliceBounds,HT.sIx]
  |some i=>
   simp only[sliceBounds,HT.sIx,Option.getD_none,show(1:Int)>0 by decide,if_true];by_cases h:i<0
   ·simp only[h,if_true]<;>omega
   ·simp only[h,if_false]<;>omega
 ·cases hi with
  |none=>simp[sliceBounds,HT.sIx]
  |some i=>
   simp only[sliceBounds,HT.sIx,Option.getD_none,show(1:Int)>0 by decide,if_true];by_cases h:i<0
   ·simp only[h,if_true]<;>omega
   ·simp only[h,if_false]<;>omega
theorem A8s (its:List Value)(lo hi:Option Int):slicePick its.toArray lo hi none=((its.drop (HT.sIx its.length 0 lo)).take (HT.sIx its.length its.length hi - HT.sIx its.length 0 lo)).toArray:=by obtain⟨h1,h2,h3⟩:=B2g lo hi its.toArray.size;unfold slicePick;rw[h1,h2,h3];simp only[sliceRange_one,pick_run,size_toArray]<;>rfl
noncomputable def A5h (K:W.Frag):V->Option Int->Option Int->Hp->VK->Prop:=λx lo hi H Q=> ∃a xs,x= .ref a/\SqL K H a xs/\∀p,H p=none->Q (.ref p) (upd H p (.lst (cutV xs lo hi)))
theorem jY:SlR X (A5h X.K):=by intro pins s σ H x v vl vu lo hi sl Q I rx hs pl pu h;obtain⟨a,xs,rfl,hx,q⟩:=h;cases rx;obtain⟨its,r,ht,hz⟩:=I.list hx;have hlen:=r.length;refine⟨"list",_,slot_list_getitem.lookup,ht.isList.typeIs,?_⟩;refine wpAny_getItem_list_slice ht.isList hs pl pu .none (by simp) ?_ (by rw[size_toArray]<;>omega);rw[A8s,←hlen];refine⟨.ref s.heap.objs.size,_,I.laid (t':=s.toks) (o:=.lst (cutV xs lo hi)) (λb ob q=>zjX _ q) (zjQ _) ?_,rfl,q _ (I.hok.fresh (zjQ _))⟩;exact⟨le_trans (lJ xs lo hi) hz,_,0,(r.drop (HT.sIx xs.length 0 lo)).take (HT.sIx xs.length xs.length hi - HT.sIx xs.length 0 lo),get?_push_size _ rfl⟩
theorem fF:eD X (.builtin "len") (λxs H Q=> ∃p ys,xs=[.ref p]/\(SqL X.K H p ys\/SqT X.K H p ys)/\Q (.int ys.length) H):=by
 intro pins s σ H xs us Q I r h;obtain⟨p,ys,rfl,hq,q⟩:=h;obtain⟨u,rfl,rx⟩:=eZ r;cases rx;have hn:=nP;rcases hq with hq|hq
 ·obtain⟨its,r',pl,hz⟩:=I.list hq;have hlen:=r'.length;exact Calls.call_len_list pl.isList (by simp only[size_toArray]<;>omega) ⟨.int ys.length,H,I.tok _,⟨s.toks+1,by rw[size_toArray,hlen]⟩,q⟩
 ·obtain⟨its,r',pl,hz⟩:=I.tuple hq;have hlen:=r'.length;exact len_tuple pl (by simp only[size_toArray]<;>omega) ⟨.int ys.length,H,I.tok _,⟨s.toks+1,by rw[size_toArray,hlen]⟩,q⟩
theorem gD:eD X (.type "tuple") (λxs H Q=> ∃p ys,xs=[.ref p]/\((SqL X.K H p ys/\∀l,H l=none->Q (.ref l) (upd H l (.tup ys)))\/(SqT X.K H p ys/\Q (.ref p) H))):=by
 intro pins s σ H xs us Q I r h;obtain⟨p,ys,rfl,h⟩:=h;obtain⟨u,rfl,rx⟩:=eZ r;cases rx;rcases h with⟨hq,q⟩| ⟨hq,q⟩
 ·obtain⟨its,r',pl,hz⟩:=I.list hq;have hlen:=r'.length;refine call_tuple_list pl.isList (λh' kp=> ?_) (by simp only[size_toArray]<;>omega);have I1:Inv X pins σ H {s with heap:=h'}:=I.kept (t':=s.toks) kp;have I2:Inv X pins σ (upd H h'.objs.size (.tup ys)) {s with heap:=h'.push {cls:=.type "tuple",data:=.seq its.toArray}}:=
   I1.laid (t':=s.toks) (λb o e=>zjX _ e) (zjQ _) (show ObjOk X.prog X.w _ _ _ (.tup ys)from⟨hz,its,r',IsTup.new _ _⟩)
  exact⟨.ref h'.objs.size,_,I2,rfl,q _ (I1.hok.fresh (zjQ _))⟩
 ·obtain⟨its,r',pl,hz⟩:=I.tuple hq;exact call_tuple_same pl ⟨.ref p,H,I,rfl,q⟩
noncomputable def tyV (K:W.Frag)(T:String)(x:V)(H:Hp):Prop:=match x with
 | .str _=>T= "str"
 | .int _=>T= "int"
 | .ref p=>(T= "list"/\∃xs,SqL K H p xs)\/(T= "tuple"/\∃o,K.lookup p=some o/\o.cls= .type "tuple"/\o.dict=none)\/
   (T= "dict"/\((∃kvs,H p=some (.dK kvs))\/ ∃kvs,H p=some (.dT kvs)))\/(T= "set"/\∃S n,H p=some (.set S n))
 |_=>False
theorem B0x {pins:List (Addr×Obj)}{σ:St}{H:Hp}{s:Shared}{T:String}{x:V}{v:Value}(I:Inv X pins σ H s)(r:RelV x v)(ty:tyV X.K T x H):
  s.TypeIs v T/\∀a,v= .ref a->∃ob,s.heap.get? a=some ob/\ob.dict=none:=by
 cases x with
 |str z=>
  obtain⟨t,rfl⟩:=r;cases (show T= "str" from ty);exact⟨typeIs_str s z t,λ_ e=>nomatch e⟩
 |int i=>
  obtain⟨t,rfl⟩:=r;cases (show T= "int" from ty);exact⟨typeIs_int s i t,λ_ e=>nomatch e⟩
 |ref p=>
  cases r;rcases ty with⟨rfl,xs,hq⟩| ⟨rfl,o,hk,hc,hd⟩| ⟨rfl,hk⟩| ⟨rfl,S,n,hk⟩
  ·obtain⟨its,_,pl,_⟩:=I.list hq;refine⟨pl.isList.typeIs,λa e=> ?_⟩;cases e;obtain⟨o,n,e,c,hd,_⟩:=pl;exact⟨o,e,hd⟩
  ·refine⟨⟨o,I.kIn p o hk,hc⟩,λa e=> ?_⟩;cases e;exact⟨o,I.kIn _ o hk,hd⟩
  ·have z:∃o,s.heap.get? p=some o/\o.ExactDict:=by
    rcases hk with⟨kvs,hk⟩| ⟨kvs,hk⟩
    ·obtain⟨_,_,_,_,o,_,_,e,ex,_⟩:=I.hok p _ hk;exact⟨o,e,ex⟩
    ·obtain⟨_,_,_,_,o,_,_,e,ex,_⟩:=I.hok p _ hk;exact⟨o,e,ex⟩
   obtain⟨o,e,ex⟩:=z;refine⟨⟨o,e,ex.1⟩,λa e2=> ?_⟩;cases e2;exact⟨o,e,ex.2.1⟩
  ·obtain⟨o,_,_,_,e,ex,_⟩:=I.hok p _ hk;refine⟨⟨o,e,ex.1⟩,λa e2=> ?_⟩;cases e2;exact⟨o,e,ex.2.1⟩
 |_=>exact False.elim ty
noncomputable def tBM (K:W.Frag)(T:String)(r:V->List V->Hp->VK->Prop)(to:TE)(t:TA):TE:=λσ H Q=>to σ H λx H1=>tyV K T x H1/\t σ H1 λxs H2=>r x xs H2 Q
variable {o e:Expr}{es:List Expr}{to:TE}{t:TA}{name:Str}{apos cpos:Pos}{T id:String}{r:V->List V->Hp->VK->Prop}
theorem gI (pa:PlainAttrs T)(slot:Slot T name id)(hty:typeOf (.builtin id)=pure (.type "method_descriptor"))(hm:MtR X id r)(ho:PE X o to)(ha:PA X (e::es) t)
  (hbase:attributeBase o name X.env (eval o X.env)=eval o X.env:=by rfl)
  (hfew:((backTo cpos (starEach (e::es) X.env)).all (λx=> !x.1)&&(backToKw cpos (keywordEach [] X.env)).all (λx=>x.1.isSome)
   &&decide ((e::es).length+([]:List Keyword).length+(if ([]:List Keyword).isEmpty then 0 else 1)<30))=true:=by rfl)
  (hline:(apos.endLine==cpos.line)=true:=by rfl)(hs:starEach (e::es) X.env=(false,eval e X.env)::starEach es X.env:=by rfl)(hplain:(backTo cpos (starEach es X.env)).any (·.1)=false:=by rfl):
  PE X (.Call (.Attribute o name apos) (e::es) [] cpos) (tBM X.K T r to t):=by
 intro pins s σ H Q I h;refine wpAny_Call_method_late hbase hfew hline rfl (thn (ho pins s σ H _ I h) λv s1 ⟨x,H1,I1,r1,ty,q1⟩=> ?_);obtain⟨h1,h2⟩:=B0x I1 r1 ty;refine⟨T,id,pa,slot,hty,h1,h2,?_⟩;have hA:=ha cpos pins s1 σ H1 _ I1 q1;rw[hs]at hA⊢;refine Calls.callWith_builtin (by show(false|| (backTo cpos (starEach es X.env)).any (·.1))=false;rw[hplain]<;>rfl) (Calls.evalArgs_plain ?_);exact thn hA λus s2 ⟨vs,H2,I2,r2,q2⟩=>hm pins s2 σ H2 x vs v us Q I2 r1 r2 q2
/- xs.append(e),list.index on a module's tuple .. are MtR facts of 06m -/
end
noncomputable def MtM (X:Cx)(id:String)(r:V->List V->Hp->VK->Prop):Prop:=
 ∀(pins:List (Addr×Obj))(s:Shared)(σ:St)(H:Hp)(x:V)(xs:List V)(v:Value)(us:List Value)(Q:VK),Inv X pins σ H s->RelV x v->Vals xs us->r x xs H Q->
  wpAny (model X.prog X.w) X.A (call (.builtin id) (v::us)) (EP X pins σ Q) X.xe s
theorem Vals.one:∀{x:V}{us:List Value},Vals [x] us->∃u,us=[u]/\RelV x u
 |_,_,.cons r .nil=> ⟨_,rfl,r⟩
theorem Vals.two:∀{x y:V}{us:List Value},Vals [x,y] us->∃u v,us=[u,v]/\RelV x u/\RelV y v
 |_,_,_,.cons r (.cons q .nil)=> ⟨_,_,rfl,r,q⟩
theorem Vals.rep {xs:List V}{us:List Value}(h:Vals xs us):∀k:Nat,Vals (replicate k xs).flatten (replicate k us).flatten
 |0=> .nil
 |k+1=>by
  rw[replicate_succ,replicate_succ,flatten_cons,flatten_cons];exact Vals.append h (Vals.rep h k)
theorem vT (its:List Value):∀(k:Nat)(acc:List Value),
  foldl (λx1 x2=>x1++x2) acc.toArray (replicate k its.toArray)=(acc++(replicate k its).flatten).toArray
 |0,acc=>by simp
 |k+1,acc=>by
  have e:acc.toArray++its.toArray=(acc++its).toArray:=by simp
  have e2:(acc++its)++(replicate k its).flatten=acc++(replicate (k+1) its).flatten:=by
   rw[replicate_succ,flatten_cons,append_assoc]
  rw[←e2,←vT its k (acc++its),←e,replicate_succ,foldl_cons]
section
variable {X:Cx}{pins:List (Addr×Obj)}{σ:St}{H:Hp}{s:Shared}{l b:Addr}{xs ys zs:List V}
theorem Inv.lset {its its':List Value}{n:Nat}{f:Array Value->Array Value}{t':Nat}(I:Inv X pins σ H s)(hH:H l=some (.lst xs))
  (e:s.heap.get? l=some {cls:=.type "list",data:=.seq its.toArray n})(hf:f its.toArray=its'.toArray)(hv:Vals ys its')(hz:ys.length<=sizeLine):
  Inv X pins σ (upd H l (.lst ys)) {s with heap:=s.heap.update l (Obj.mapSeq f),toks:=t'}:=by
 have q:=PySem.IsL.update e f;rw[hf]at q;refine I.write (x:=l) (e:=l) (by rw[hH];exact trivial) (.inl rfl) (λb' u hb hu=>(get?_update_other s.heap (Obj.mapSeq f) (Ne.symm hb)).trans hu) ⟨_,q⟩ ?_;exact⟨hz,its',_,hv,q⟩
theorem Inv.lnew {its:List Value}{t':Nat}(I:Inv X pins σ H s)(hv:Vals ys its)(hz:ys.length<=sizeLine):
  Inv X pins σ (upd H s.heap.objs.size (.lst ys)) {s with heap:=s.heap.push {cls:=.type "list",data:=.seq its.toArray},toks:=t'}:=
 I.laid (λ_ _ q=>zjX _ q) (zjQ _) ⟨hz,its,0,hv,get?_push_size _ rfl⟩
theorem Inv.fresh (I:Inv X pins σ H s):H s.heap.objs.size=none:=I.hok.fresh (zjQ _)
theorem Inv.lstM (I:Inv X pins σ H s)(hH:H l=some (.lst xs)):xs.length<=sizeLine/\∃(its:List Value)(n:Nat),Vals xs its/\xs.length=its.length/\s.heap.get? l=some {cls:=.type "list",data:=.seq its.toArray n}:=by obtain⟨z,its,n,r,e⟩:=I.hok l _ hH;exact⟨z,its,n,r,r.length,e⟩
theorem tV {n:Nat}(h:n<=sizeLine):Builtin.List.listTooLong n=false:=by unfold Builtin.List.listTooLong;exact zjU (by omega)
end
section
variable {X:Cx}
noncomputable def A6i:V->List V->Hp->VK->Prop:=λx vs H Q=> ∃l xs y,x= .ref l/\vs=[y]/\H l=some (.lst xs)/\xs.length<sizeLine/\Q .non (upd H l (.lst (xs++[y])))
theorem iA:MtM X "list.append" A6i:=by intro pins s σ H x vs v us Q I rx rv h;obtain⟨l,xs,y,rfl,rfl,hH,hz,q⟩:=h;cases rx;obtain⟨u,rfl,ru⟩:=rv.one;obtain⟨z,its,n,r,hl,e⟩:=I.lstM hH;refine call_meets F.slot_list_append ⟨_,e,rfl⟩ F.entry_list_append (F.args_list_append_2 _ _) (PySem.list_append l its.toArray n u (by rw[size_toArray];omega)) ⟨e,?_⟩;refine⟨.non,_,I.lset (its':=its++[u]) hH e (by simp) (r.append (.cons ru .nil)) ?_,rfl,q⟩;rw[length_append,length_singleton];omega
noncomputable def A67:V->List V->Hp->VK->Prop:=λx vs H Q=> ∃l b xs zs,x= .ref l/\vs=[.ref b]/\H l=some (.lst xs)/\H b=some (.lst zs)/\xs.length+zs.length<=sizeLine/\Q .non (upd H l (.lst (xs++zs)))
theorem qK:MtM X "list.extend" A67:=by
 intro pins s σ H x vs v us Q I rx rv h;obtain⟨l,b,xs,zs,rfl,rfl,hH,hB,hz,q⟩:=h;cases rx;obtain⟨u,rfl,ru⟩:=rv.one;cases ru;obtain⟨z,its,n,r,hl,e⟩:=I.lstM hH;obtain⟨z2,its2,n2,r2,hl2,e2⟩:=I.lstM hB;have hsz:its.toArray.size+its2.toArray.size<=sizeLine:=by rw[size_toArray,size_toArray];omega
 have hlong:¬(!its.toArray.isEmpty&&Builtin.List.listTooLong (its.toArray.size+its2.toArray.size))=true:=by
  rw[tV hsz,Bool.and_false];exact Bool.false_ne_true
 refine call_meets F.slot_list_extend ⟨_,e,rfl⟩ F.entry_list_extend (F.args_list_extend_2 _ _)
  (AutoSeq1.list_extend_list_list_0 l its.toArray n b its2.toArray n2 hlong (by rw[size_toArray];omega) (by omega)) ⟨e,e2,?_⟩
 refine⟨.non,_,I.lset (its':=its++its2) hH e (by simp) (r.append r2) ?_,rfl,q⟩;rw[length_append];omega
noncomputable def A31:R2:=λx y H Q=> ∃l b xs zs,x= .ref l/\y= .ref b/\H l=some (.lst xs)/\H b=some (.lst zs)/\xs.length+zs.length<=sizeLine/\∀p,H p=none->Q (.ref p) (upd H p (.lst (xs++zs)))
theorem mY:OpR X (binaryOp .Add) A31:=by
 intro pins s σ H x y v u Q I rx ry h;obtain⟨l,b,xs,zs,rfl,rfl,hH,hB,hz,q⟩:=h;cases rx;cases ry;obtain⟨z,its,n,r,hl,e⟩:=I.lstM hH;obtain⟨z2,its2,n2,r2,hl2,e2⟩:=I.lstM hB;refine PySem.P.add_list e e2 ?_ (by rw[size_toArray,size_toArray];omega);have ea:its.toArray++its2.toArray=(its++its2).toArray:=by simp
 rw[ea];exact⟨.ref _,_,I.lnew (t':=s.toks) (r.append r2) (by rw[length_append];omega),rfl,q _ I.fresh⟩
noncomputable def B05:R2:=λx y H Q=> ∃l k xs,x= .ref l/\y= .int k/\H l=some (.lst xs)/\-(2^63)<=k/\k<2^63/\xs.length*k.toNat<=sizeLine/\
 ∀p,H p=none->Q (.ref p) (upd H p (.lst (replicate k.toNat xs).flatten))
theorem A6p {α:Type}(xs:List α)(k:Nat):(replicate k xs).flatten.length=k*xs.length:=by
 induction k with
 |zero=>simp
 |succ k ih=>rw[replicate_succ,flatten_cons,length_append,ih,Nat.succ_mul,Nat.add_comm]
theorem xN:OpR X (binaryOp .Mult) B05:=by
 intro pins s σ H x y v u Q I rx ry h;obtain⟨l,k,xs,rfl,rfl,hH,h1,h2,hz,q⟩:=h;cases rx;obtain⟨t,rfl⟩:=ry;obtain⟨z,its,n,r,hl,e⟩:=I.lstM hH;have hlen:its.toArray.size*k.toNat<=sizeLine:=by rw[size_toArray,←hl];exact hz
 have hcap:¬its.toArray.size*k.toNat>(2^63 - 1)/8:=by
  have:(sizeLine:Nat)<=(2^63 - 1)/8:=by decide
  omega
 have hfit:¬(!Builtin.List.listFitsIndex k)=true:=by
  rw[fitsIndex_both h1 h2];exact Bool.false_ne_true
 have hlong:¬Builtin.List.listTooLong (its.toArray.size*k.toNat)=true:=by
  rw[tV hlen];exact Bool.false_ne_true
 have hnew:foldl (λx1 x2=>x1++x2) #[] (replicate (if its.toArray.isEmpty=true then 0 else k.toNat) its.toArray)=(replicate k.toNat its).flatten.toArray:=by
  have f0:∀m:Nat,foldl (λx1 x2=>x1++x2) #[] (replicate m its.toArray)=(replicate m its).flatten.toArray:=λm=>by
   have:=vT its m [];rw[nil_append]at this;exact this
  rw[f0];cases its with
  |nil=>simp
  |cons a r'=>rw[if_neg (by simp)]
 refine wpAny_binaryOp_repeat_ref (T:="list") (U:="int") (by decide) ⟨_,e,rfl⟩ (λs'=>typeIs_int s' k t) noFill_list_mul F.fills_int_mul F.slot_int_rmul repeat_list F.slot_int_index.lookup
  (call_meets F.slot_int_rmul (typeIs_int s k t) F.entry_int_rmul (F.args_int_rmul_2 _ _) (int___rmul___int_list k t l its.toArray n)
   ⟨e,rfl,⟨_,e,rfl⟩,call_meets F.slot_list_mul ⟨_,e,rfl⟩ F.entry_list_mul (F.args_list_mul_2 _ _) (AutoListH.list___mul___list_int_3 l its.toArray n k t hfit hcap hlong) ⟨e,?_⟩⟩)
 rw[hnew];exact⟨.ref _,_,I.lnew (t':=s.toks) (r.rep k.toNat) (by rw[A6p,mul_comm];exact hz),rfl,q _ I.fresh⟩
end
section
variable {prog:Program}{w:World}{A:Around}{E:Value->Shared->Prop}{s:Shared}
set_option maxRecDepth 100000 in
end
section
variable {X:Cx}
end
end L2
namespace Att
open PySem PySem.W PySem.Calls PyProof.Rows
theorem A2k {P:Params}{h:Heap}:∀(ns:List Int)(vs:List Value),WellAll P h vs (ns.map WData.int)->IntsAre vs ns:=by
 intro ns
 induction ns with
 |nil=>
  intro vs w;rw[map_nil]at w;cases w;exact .nil
 |cons n ns ih=>
  intro vs w;rw[map_cons]at w;cases w with
  |cons a b=>
   cases a;exact .cons _ _ (ih _ b)
theorem A7i {l:OpenLaw}{n:Nat}(hn:l.most=some n){P:Params}{h:Heap}{args:List WData}{vals:List Value}
  (hpre:l.row.toRowW.claim.pre args=true)(hwl:WellAll P h vals args):
  ∃a vs ns,vals=[Value.ref a]/\args=[WData.list (ns.map WData.int)]/\h.get? a=some {cls:=.type "list",data:=.seq vs.toArray}/\IntsAre vs ns/\ns.length<=n:=by
 have hsh:WShape.hasAll [] args [.list .int]=true:=(pre_splitW hpre).1;have hc:l.pre.holds [] {args:=args}=true:=(pre_splitW hpre).2;obtain⟨d,r,rfl,h1,h2⟩:=hasAllW_cons hsh;obtain rfl:=hasAllW_nil h2;obtain⟨xs,rfl,h3⟩:=hasW_list h1;obtain⟨ns,rfl⟩:=items_int h3;have hlen:ns.length<=n:=by
  unfold OpenLaw.pre at hc;have h4:(WTm.not (.lt (.lit (.int (n:Int))) (.len (.arg 0)))).holds [] {args:=[.list (ns.map .int)]}=true:=by
   have h4:=(holds_andW hc).1;rw[hn]at h4;exact h4
  have h5:=condW_of h4 (w_not (w_lt w_lit (w_len_list (w_arg rfl))));rw[length_map]at h5;refine Nat.le_of_not_lt λq=> ?_;have q':(n:Int)<((ns.length:Nat):Int):=by omega
  first
   | (rw[zjV q']at h5;exact absurd h5 (by decide))
   | (simp at h5;omega)
 cases hwl with
 |cons w1 w2=>
  cases w2;cases w1 with
  |list ho hall=>exact⟨_,_,ns,rfl,rfl,ho,A2k ns _ hall,hlen⟩
theorem A8a (l:OpenLaw)(args:List WData):l.row.toRowW.claim.post args (.bool true) args=true:=
 postW_of (r:=l.row.toRowW) (X:=(true==true))
  (show WShape.has [] (.bool true) .bool=true by first|rfl|decide|simp[WShape.has,WShape.arms,WShape.armsAll])
  (show(WTm.eq .res (.lit (.bool true))).value [] {args:=args,res:=some (.bool true),after:=args}=some (.bool (true==true))from w_eq_bool (w_res rfl) w_lit) rfl
theorem attach_call {l:OpenLaw}{n:Nat}{q:Program}{loose:List Str}{XP:(Str->Option Value)->Heap->Prop}{YP:World->Heap->Prop}{d:DefRec}
  (hn:l.most=some n)(hdf:d.params.defaults=[])
  (call:∀(w:World)(s₀ s₁:Shared)(mg mb:Str->Option Value)(fa:Addr)(o:Obj)(pm cd doc:Value)(a:Addr)(vs:List Value)(ns:List Int),
   Ground q loose [] XP w s₀ mg mb s₁.heap->YP w s₁.heap->
   s₁.heap.get? fa=some o->o.data= .func (docDef d.name d.params d.body d.scope pm cd doc)->s₁.heap.CodeRec cd d.name->mg d.name=some (.ref fa)->
   s₁.heap.get? a=some {cls:=.type "list",data:=.seq vs.toArray}->IntsAre vs ns->ns.length<=n->s₁.gens= #[]->
   codeAny (model l.prog w) callerA (.call (.ref fa) ⟨[.ref a],[]⟩) (λr s'=>r= .ok (.ret (.bool true))/\OldK s₁.heap s'.heap/\s'.os=s₁.os/\AllBare s'.gens) s₁):
  WalkO q loose XP YP l.row.toRowW d [] (λf vs=>PySem.call f vs):=by
 intro w s₀ s₁ mg mb G Y fa o pm cd doc dV kV ho hd hcd hD hmg hg args vals as hpre hlay hrd hwl hlo;obtain rfl:dV= .none:=Dflts.none hD hdf;obtain rfl:kV= .none:=Dflts.noKw hD;obtain⟨a,vs,ns,rfl,rfl,hobj,hints,hlen⟩:=A7i hn hpre hwl;refine enter_call (codeAny_mono (call w s₀ s₁ mg mb fa o pm cd doc a vs ns G Y ho (fd_plain hd) hcd hmg hobj hints hlen hg) λr s' hq=> ?_);obtain⟨rfl,h2,h3,h4⟩:=hq;exact⟨.inl ⟨.bool true,.bool true,[],rfl,λ_=>rfl,.bool true,A8a l _,λ_=> ⟨List.Pairwise.nil,λ_ hm=>(nomatch hm)⟩⟩,h2,h3,h4⟩
section
variable {prog:Program}{w:World}{A:Around}{E:Value->Shared->Prop}{s:Shared}{K:Frag}
noncomputable def ledger (h:Heap)(L d:Addr):List (Addr×Obj):=(List.range h.objs.size).filterMap λa=>if a=L\/a=d then none else(h.get? a).map λo=>(a,o)
end
end Att
namespace L2
open PySem PySem.Spec PyProof.Rows
theorem A1h:∀{vs:List Value}{ns:List Int},IntsAre vs ns->Vals (ns.map V.int) vs
 |_,_,.nil=> .nil
 |_,_,.cons n t h=> .cons ⟨t,rfl⟩ (A1h h)
noncomputable def rV (H:Hp):Prop:=∀b,H b=none\/ ∃o xs,H b=some (.frz o (.lst xs))
theorem B0i {P:Program}{w:World}{K:W.Frag}{mg mb:Str->Option Value}{CX:CXT}{k:Nat}{fa a:Addr}{fd:FuncData}{x:Str}{sp:Sp}{s₁:Shared}{vs:List Value}{ns:List Int}
  (KX:K.In s₁.heap)(hns:s₁.heap.Ns mainGlobals mg)(hb:s₁.heap.Ns builtinsNs mb)(hbb:∀x:Str,x≠ "__name__"->mb x=bootBuiltins x)(hlim:s₁.heap.NoLimit)(hg:s₁.gens= #[])
  (ha:s₁.heap.get? a=some {cls:=.type "list",data:=.seq vs.toArray})(hi:IntsAre vs ns)(hl:ns.length<=sizeLine)(hr:Room k callerA)
  (F:∀base:Heap,K.In base->base.Ns mainGlobals mg->FnOk P w K mg base CX k fa fd [x] sp)(hbind:∀(s:Shared)(u:Value),BindsTo s fd ⟨[u],[]⟩ [(x,u)])
  (hsp:∀H:Hp,rV H->SqL K H a (ns.map V.int)->sp [.ref a] H (λv _=>v= .bl true) λ_ _ _=>False)
  (hCX:∀H e s',CX [] H s₁ (λ_ _ _=>False) e s'->False):
  codeAny (model P w) callerA (.call (.ref fa) ⟨[.ref a],[]⟩) (λr s'=>r= .ok (.ret (.bool true))/\OldK s₁.heap s'.heap/\s'.os=s₁.os/\AllBare s'.gens) s₁:=by
 have rv:=A1h hi;have lenV:=hi.length;have core:∀H:Hp,rV H->SqL K H a (ns.map V.int)->HOk P w H s₁.heap->(∀b,H b≠none->b=a)->(H a≠none->K.lookup a=none)->
   codeAny (model P w) callerA (.call (.ref fa) ⟨[.ref a],[]⟩) (λr s'=>r= .ok (.ret (.bool true))/\OldK s₁.heap s'.heap/\s'.os=s₁.os/\AllBare s'.gens) s₁:=by
  intro H hO hS hok hA hK;have base_of:∀{b:Addr}{o:Obj},s₁.heap.get? b=some o->H b=none->(gM s₁.heap H).get? b=some o:=λe n=>A7y e n;have noA:∀{b:Addr}{o:Obj}{es:Array DictEntry}{ep:Nat},s₁.heap.get? b=some o->o.data= .dict es ep->H b=none:=fun{b o es ep} e d=>by
   cases q:H b with
   |none=>rfl
   |some u=>
    have e':b=a:=hA b (by rw[q];simp);subst e';rw[ha]at e;cases e;have d':Data.seq vs.toArray _=Data.dict es ep:=d;cases d'
  have nsK:∀{b:Addr}{m:Str->Option Value},s₁.heap.Ns b m->(gM s₁.heap H).Ns b m:=fun{b m} ⟨o,es,ep,e,d,r⟩=> ⟨o,es,ep,base_of e (noA e d),d,r⟩;have hKb:K.In (gM s₁.heap H):=λb o e=>base_of (KX b o e) (by
   cases q:H b with
   |none=>rfl
   |some u=>
    have e':b=a:=hA b (by rw[q];simp);subst e';rw[hK (by rw[q];simp)]at e;cases e)
  have hM:Mod K mg (gM s₁.heap H):=⟨hKb,nsK hns,⟨mb,nsK hb,hbb⟩,let ⟨mc,h1,h2⟩:=hlim;⟨mc,nsK h1,h2⟩⟩;have e0:mX P w K mg (gM s₁.heap H) callerA [] s₁ H:=⟨rfl,hM,λb o e=>A8c e,le_of_eq (A5l _ _),trivial,λb hb=>absurd (show b∈([]:List Addr)from hb) (by simp),hok,.of_eq hg⟩;refine codeAny_mono ((F _ hKb (nsK hns)).run callerA [] s₁ H ⟨[.ref a],[]⟩ [.ref a] [.ref a] _ _ hr e0 (hbind s₁ (.ref a)) (.cons rfl .nil) (hsp H hO hS)) λr s' h=> ?_;cases r with
  |error e=>exact(hCX H e s' h).elim
  |ok fl=>
   cases fl with
   |next=>exact False.elim h
   |brk=>exact False.elim h
   |cont=>exact False.elim h
   |ret u=>
    obtain⟨v,H',os,bare,un,hok',r',q⟩:=h;have q':v= .bl true:=q;subst q';obtain rfl:u=Value.bool true:=r';refine⟨rfl,OldK.of_keep λb o e=> ?_,os,bare⟩;cases q:H b with
    |none=>exact un.keep b o e q (by intro z;exact absurd (show b∈([]:List Addr)from z) (by simp)) (by simp)
    |some u=>
     rcases hO b with z| ⟨ob,xs,z⟩
     ·rw[q]at z;cases z
     ·have z2:=un.frzs b ob _ z;obtain⟨e1,_⟩:=hok b _ z;obtain⟨e2,_⟩:=hok' b _ z2;rw[e]at e1;cases e1;exact e2
 cases hk:K.lookup a with
 |some o=>
  have e:=KX a o hk;rw[ha]at e;cases e;refine core (λ_=>none) (λ_=> .inl rfl) (.inr ⟨_,vs.toArray,_,hk,rfl,rfl,rfl,by rw[size_toArray,lenV];exact hl,by simpa using rv⟩) (λb u z=>by have z':(none:Option HO)=some u:=z;cases z') (λb z=>absurd rfl z) λz=>absurd rfl z
 |none=>
  refine core (λb=>if b=a then some (.frz {cls:=.type "list",data:=.seq vs.toArray} (.lst (ns.map V.int)))else none) (λb=> ?_) (.inl (.inr ⟨{cls:=.type "list",data:=.seq vs.toArray},if_pos rfl⟩)) (λb u z=> ?_) (λb z=> ?_) λ_=>hk
  ·by_cases hb:b=a
   ·exact .inr ⟨_,_,if_pos hb⟩
   ·exact .inl (if_neg hb)
  ·by_cases hb:b=a
   ·have z':=(if_pos hb).symm.trans z;cases z';subst hb;exact⟨ha,by rw[length_map];exact hl,vs,_,rv,ha⟩
   ·have z':=(if_neg hb).symm.trans z;cases z'
  ·by_cases hb:b=a
   ·exact hb
   ·exact absurd (if_neg hb) z
theorem walk_of {l:W.OpenLaw}{n k:Nat}{q:Program}{loose:List Str}{XP:(Str->Option Value)->Heap->Prop}{YP:World->Heap->Prop}{d:DefRec}{K:Params->W.Frag}{CX:World->CXT}{sp:World->Sp}{x:Str}
  (hn:l.most=some n)(hn2:n<=sizeLine)(hdf:d.params.defaults=[])(hr:Room k callerA)
  (hY:∀(w:World)(h:Heap),YP w h->(K w.params).In h)
  (F:∀(w:World)(mg:Str->Option Value)(fa:Addr)(h:Heap),(K w.params).In h->h.Ns mainGlobals mg->mg d.name=some (.ref fa)->
   ∃fd:FuncData,(∀(s:Shared)(u:Value),BindsTo s fd ⟨[u],[]⟩ [(x,u)])/\
    ∀base:Heap,(K w.params).In base->base.Ns mainGlobals mg->FnOk l.prog w (K w.params) mg base (CX w) k fa fd [x] (sp w))
  (hsp:∀(w:World)(H:Hp)(a:Addr)(ns:List Int),ns.length<=n->rV H->SqL (K w.params) H a (ns.map V.int)->sp w [.ref a] H (λv _=>v= .bl true) λ_ _ _=>False)
  (hCX:∀(w:World)(H:Hp)(s:Shared)(e:Value)(s':Shared),CX w [] H s (λ_ _ _=>False) e s'->False):
  W.WalkO q loose XP YP l.row.toRowW d [] (λf vs=>PySem.call f vs):=by
 refine Att.attach_call hn hdf λw s₀ s₁ mg mb fa o pm cd doc a vs ns G Y ho hd hcd hmg hobj hints hlen hg=> ?_;have KX:=hY w _ Y;obtain⟨fd,hb,hF⟩:=F w mg fa _ KX G.T.g hmg;exact B0i KX G.T.g G.T.b G.T.builtins G.T.nolimit hg hobj hints (le_trans hlen hn2) hr hF hb (λH hO hS=>hsp w H a ns hlen hO hS) λH e s'=>hCX w H s₁ e s'
noncomputable def iP (s:Stmt):Arguments:=match s with
 | .FunctionDef _ a _ _ _ _ _ _ _ _=>a
 |_=> {posonlyargs:=[],args:=[],vararg:=none,kwonlyargs:=[],kw_defaults:=[],kwarg:=none,defaults:=[]}
noncomputable def dG (s:Stmt):List Stmt:=match s with
 | .FunctionDef _ _ b _ _ _ _ _ _ _=>b
 |_=> []
noncomputable def bB (s:Stmt):Scope:=match s with
 | .FunctionDef _ _ _ _ _ _ sc _ _ _=>sc
 |_=> {kind:=.function,names:=[],isGenerator:=false,isCoroutine:=false}
noncomputable abbrev CX0:CXT:=λ_ _ _ _ _ _=>False
noncomputable abbrev E0:XK:=λ_ _ _=>False
theorem vY {X:Cx}:oF CX0 X E0:=λ_ _ _ _ _ _ _ h=>h.elim
structure Fun (K:W.Frag)(x qual:Str)(st:Stmt)(f:Addr)(fd:FuncData):Prop where
 ex:∃(oc:Value)(od:Option Addr)(kV doc pm:Value)(an:Option Addr)(cdv ct:Value)(osl:Array (Option Value)),
  fd=W.fnOf x qual (iP st) (dG st) (bB st) .none kV doc pm an cdv ct/\K.lookup f=some ⟨oc,od,.func fd,osl⟩/\W.codeIn K cdv qual=true
 kp:W.keepIn K (.ref f)=true
section
variable {P:Program}{w:World}{K:W.Frag}{mg:Str->Option Value}{base:Heap}
theorem Fun.ok {x qual:Str}{st:Stmt}{f:Addr}{fd:FuncData}{N ps:List Str}{k:Nat}{sp:Sp}(F:Fun K x qual st f fd)(S:fN N ps (bB st))(len:∀vs H Q E,sp vs H Q E->vs.length=ps.length)
  (hbody:∀(cdv:Value)(A:Around)(outer:List Env)(s:Shared)(H:Hp)(vs:List V)(Q:VK)(E:XK),Room k (A.deeper (envOfC qual (bB st) s.heap.objs.size f cdv))->sp vs H Q E->
   ∃t,PSs (dJ CX0 P w K mg base N qual (bB st) f cdv A outer s H E).nox (dG st) t/\t {nx:=λ_ H'=>Q .non H',rt:=Q} (start N vs) H):FnOk P w K mg base CX0 (k+1) f fd ps sp:=by
 obtain⟨oc,od,kV,doc,pm,an,cdv,ct,osl,rfl,lk,hcd⟩:=F.ex;refine yR lk hcd S len λA outer s H vs Q E hr hsp=> ?_;obtain⟨t,h,q⟩:=hbody cdv A outer s H vs Q E hr hsp;exact⟨t,h.nox,q⟩
theorem Fun.binds {x qual:Str}{st:Stmt}{f:Addr}{fd:FuncData}{ps:List Str}(F:Fun K x qual st f fd)
  (h:∀(kV doc pm:Value)(an:Option Addr)(cdv ct:Value)(us:List Value),us.length=ps.length->bindArgs (W.fnOf x qual (iP st) (dG st) (bB st) .none kV doc pm an cdv ct) ⟨us,[]⟩=pure (ps.zip us)):Binds K fd ps []:=by
 obtain⟨oc,od,kV,doc,pm,an,cdv,ct,osl,rfl,lk,hcd⟩:=F.ex;exact .all (h kV doc pm an cdv ct)
theorem A43 {x qual:Str}{st:Stmt}{f:Addr}{oc:Value}{od an:Option Addr}{osl:Array (Option Value)}{kV doc pm cdv ct:Value}(l:K.lookup f=some ⟨oc,od,.func (W.fnOf x qual (iP st) (dG st) (bB st) .none kV doc pm an cdv ct),osl⟩)
  (c:W.codeIn K cdv qual=true)(k:W.keepIn K (.ref f)=true):Fun K x qual st f (W.fnOf x qual (iP st) (dG st) (bB st) .none kV doc pm an cdv ct):=⟨⟨oc,od,kV,doc,pm,an,cdv,ct,osl,rfl,l,c⟩,k⟩
end
theorem A29 {A:Around}{k:Nat}(hr:Room k A):A.units+1<cLine:=lt_of_le_of_lt (Nat.add_le_add_left (by decide:1<=64) _) hr.units
theorem bW {n:Nat}(h:n<=1000):n<sizeLine:=lt_of_le_of_lt h (by decide)
section
variable {X:Cx}
theorem pv (i:Nat){x:Str}{pos:Pos}(hN:X.N[i]?=some x:=by rfl)(hv:Vis X.env.scope x:=by first|exact Or.inl rfl|exact Or.inr (Or.inl rfl)|exact Or.inr (Or.inr rfl))(hd:(x==("__debug__":Str))=false:=by decide)
  (hcd:(x==("__classdict__":Str))=false:=by decide):PE X (.Name x pos) (dN i):=B0q hN hv hd hcd
end
theorem bQ {A B:Prop}(h:B):if false=true then A else B:=by rw[if_neg Bool.false_ne_true];exact h
theorem fM {A B:Prop}(h:A):if true=true then A else B:=by rw[if_pos rfl];exact h
theorem vV {c A B:Prop} [Decidable c](hc:c)(h:B):if (!decide c)=true then A else B:=by rw[zjV hc];exact bQ h
noncomputable def Same (H H':Hp):Prop:=∀b o,H b=some o->H' b=some o
theorem Same.refl (H:Hp):Same H H:=λ_ _ h=>h
theorem Same.trans {H H1 H2:Hp}(a:Same H H1)(b:Same H1 H2):Same H H2:=λc o h=>b c o (a c o h)
theorem Same.free {H H':Hp}(e:Same H H'){l:Addr}(h:H' l=Option.none):H l=Option.none:=by
 cases q:H l with
 |none=>rfl
 |some o=>
  rw[e l o q]at h;cases h
theorem Same.seq {K:W.Frag}{H H':Hp}{a:Addr}{xs:List V}(e:Same H H')(h:SqL K H a xs):SqL K H' a xs:=by
 rcases h with(h| ⟨o,h⟩)|h
 ·exact .inl (.inl (e _ _ h))
 ·exact .inl (.inr ⟨o,e _ _ h⟩)
 ·exact .inr h
section
variable {κ:Type} [DecidableEq κ]
noncomputable def dD (kvs:List (κ×V))(k:κ):Option V:=(kvs.find? λkv=>decide (kv.1=k)).map (·.2)
noncomputable def eK (kvs:List (κ×V))(k:κ)(v:V):List (κ×V):=
 if (kvs.any λkv=>decide (kv.1=k))=true then kvs.map (λkv=>if kv.1=k then(kv.1,v)else kv)else kvs++[(k,v)]
theorem oP {p:κ×V}{r:List (κ×V)}{k:κ}(e:p.1=k):dD (p::r) k=some p.2:=by simp[dD,find?_cons,e]
theorem mL {p:κ×V}{r:List (κ×V)}{k:κ}(e:¬p.1=k):dD (p::r) k=dD r k:=by simp[dD,find?_cons,e]
theorem nD (k:κ):∀kvs:List (κ×V),(kvs.any λkv=>decide (kv.1=k))=(dD kvs k).isSome
 | []=>rfl
 |p::r=>by
  rw[any_cons];by_cases e:p.1=k
  ·simp only[oP e,zjV e,Bool.true_or,Option.isSome_some]
  ·rw[mL e,zjU e,Bool.false_or];exact nD k r
theorem tP (kvs:List (κ×V))(k:κ)(v:V):(eK kvs k v).length<=kvs.length+1:=by
 unfold eK
 split
 ·rw[length_map];omega
 ·rw[length_append,length_cons,length_nil];omega
theorem A9v {kvs:List (κ×V)}{k:κ}(v:V)(h:dD kvs k=none):eK kvs k v=kvs++[(k,v)]:=by unfold eK;rw[nD,h];exact if_neg (by decide)
theorem RelO.isSome_eq {o:Option V}{u:Option Value}(r:RelO o u):o.isSome=u.isSome:=by
 cases o with
 |none=>cases u with
  |none=>rfl
  |some _=>exact(show False from r).elim
 |some _=>cases u with
  |none=>exact(show False from r).elim
  |some _=>rfl
theorem RelO.getD {o:Option V}{u:Option Value}{d:V}{d':Value}(r:RelO o u)(rd:RelV d d'):RelV (o.getD d) (u.getD d'):=by
 cases o with
 |none=>cases u with
  |none=>exact rd
  |some _=>exact(show False from r).elim
 |some _=>cases u with
  |none=>exact(show False from r).elim
  |some _=>exact r
theorem KV.val {kvs:List (κ×V)}{vs:List (κ×Value)}(r:KV kvs vs)(k:κ):RelO (dD kvs k) (valueAt vs k):=by
 unfold KV at r
 induction r with
 |nil=>exact True.intro
 | @cons p q ps qs h t ih=>
  obtain⟨h1,h2⟩:=h;by_cases e:p.1=k
  ·have e':q.1=k:=h1.symm.trans e;have b:valueAt (q::qs) k=some q.2:=by simp[valueAt,find?_cons,e']
   rw[oP e,b];exact h2
  ·have e':¬q.1=k:=λz=>e (h1.trans z);have b:valueAt (q::qs) k=valueAt qs k:=by simp[valueAt,find?_cons,e']
   rw[mL e,b];exact ih
theorem KV.any {kvs:List (κ×V)}{vs:List (κ×Value)}(r:KV kvs vs)(k:κ):(kvs.any λkv=>decide (kv.1=k))=vs.any λkv=>decide (kv.1=k):=by
 unfold KV at r
 induction r with
 |nil=>rfl
 |cons h t ih=>rw[any_cons,any_cons,ih,h.1]
theorem KV.repl {kvs:List (κ×V)}{vs:List (κ×Value)}(r:KV kvs vs)(k:κ){y:V}{u:Value}(ry:RelV y u):
  KV (kvs.map λkv=>if kv.1=k then(kv.1,y)else kv) (vs.map λkv=>if kv.1=k then(kv.1,u)else kv):=by
 unfold KV at r⊢
 induction r with
 |nil=>exact .nil
 | @cons p q ps qs h t ih=>
  rw[map_cons,map_cons];refine .cons ?_ ih;obtain⟨h1,h2⟩:=h;by_cases e:p.1=k
  ·rw[if_pos e,if_pos (h1.symm.trans e)];exact⟨h1,ry⟩
  ·rw[if_neg e,if_neg (λz=>e (h1.trans z))];exact⟨h1,h2⟩
theorem KV.put {kvs:List (κ×V)}{vs:List (κ×Value)}(r:KV kvs vs)(k:κ){y:V}{u:Value}(ry:RelV y u):KV (eK kvs k y) (stored vs k u):=by
 unfold eK stored;rw[r.any k];by_cases e:(vs.any λkv=>decide (kv.1=k))=true
 ·rw[if_pos e,if_pos e];exact r.repl k ry
 ·rw[if_neg e,if_neg e];exact Paired.snoc r ⟨rfl,ry⟩
theorem KV.length {kvs:List (κ×V)}{vs:List (κ×Value)}(r:KV kvs vs):kvs.length=vs.length:=Paired.length r
end
theorem jO {P:Program}{w:World}{k:Key}{u:Value}(r:RelV (kV k) u):(cS P w).is k u=true:=by
 cases k with
 |inl i=>obtain⟨t,e⟩:=(show∃t,u=Value.int i t from r);subst e;exact A7g P w i t
 |inr x=>obtain⟨t,e⟩:=(show∃t,u=Value.str x t from r);subst e;exact A91 P w x t
theorem vI {P:Program}{w:World}:∀{ks:List Key}{us:List Value},Vals (ks.map kV) us->ItemsAre (cS P w) ks us
 | [],_,r=>by rw[map_nil]at r;cases r;exact .nil
 |k::ks,_,r=>by
  rw[map_cons]at r;cases r with
  |cons h t=>exact .cons (jO h) (vI t)
noncomputable abbrev KT (H:Hp):List (List Key×V)->List (List Key×Addr×Value)->Prop:=Paired λp q=>p.1=q.1/\H q.2.1=some (.tup (p.1.map kV))/\RelV p.2 q.2.2
theorem KT.val {H:Hp}{kvs:List (List Key×V)}{xs:List (List Key×Addr×Value)}(r:KT H kvs xs)(k:List Key):RelO (dD kvs k) ((atKey xs k).map (·.2)):=by
 induction r with
 |nil=>exact True.intro
 | @cons p q ps qs h t ih=>
  obtain⟨h1,_,h2⟩:=h;by_cases e:p.1=k
  ·have e':q.1=k:=h1.symm.trans e;have b:atKey (q::qs) k=some q.2:=by simp[atKey,find?_cons,e']
   rw[oP e,b];exact h2
  ·have e':¬q.1=k:=λz=>e (h1.trans z);have b:atKey (q::qs) k=atKey qs k:=by simp[atKey,find?_cons,e']
   rw[mL e,b];exact ih
theorem KT.repl {H:Hp}{kvs:List (List Key×V)}{xs:List (List Key×Addr×Value)}(r:KT H kvs xs)(k:List Key){y:V}{u:Value}(ry:RelV y u):
  KT H (kvs.map λkv=>if kv.1=k then(kv.1,y)else kv) (xs.map (putAt k u)):=by
 induction r with
 |nil=>exact .nil
 | @cons p q ps qs h t ih=>
  rw[map_cons,map_cons];refine .cons ?_ ih;obtain⟨h1,h2,h3⟩:=h;unfold putAt;by_cases e:p.1=k
  ·rw[if_pos e,if_pos (h1.symm.trans e)];exact⟨h1,h2,ry⟩
  ·rw[if_neg e,if_neg (λz=>e (h1.trans z))];exact⟨h1,h2,h3⟩
theorem KT.put {H:Hp}{kvs:List (List Key×V)}{xs:List (List Key×Addr×Value)}(r:KT H kvs xs)(k:List Key){b:Addr}{y:V}{u:Value}(hb:H b=some (.tup (k.map kV)))(ry:RelV y u):
  KT H (eK kvs k y) (storedH xs k b u):=by
 have e:(kvs.any λkv=>decide (kv.1=k))=(atKey xs k).isSome:=by
  rw[nD,(r.val k).isSome_eq,Option.isSome_map]
 unfold eK storedH;rw[e];by_cases q:(atKey xs k).isSome=true
 ·rw[if_pos q,if_pos q];exact r.repl k ry
 ·rw[if_neg q,if_neg q];exact Paired.snoc r ⟨rfl,hb,ry⟩
theorem KT.keeps {H H':Hp}{kvs:List (List Key×V)}{xs:List (List Key×Addr×Value)}(r:KT H kvs xs)(ht:∀b ys,H b=some (.tup ys)->H' b=some (.tup ys)):KT H' kvs xs:=
 Paired.mapP r λ_ _ z=> ⟨z.1,ht _ _ z.2.1,z.2.2⟩
section
variable {P:Program}{w:World}{H:Hp}{h:Heap}{a:Addr}
theorem vB {u:HO}(ok:HOk P w H h)(e:Rd H a u):ObjOk P w H h a u:=e.ok ok
theorem jR {kvs:List (Key×V)}(ok:HOk P w H h)(e:Rd H a (.dK kvs)):kvs.length<=sizeLine/\(a==sysModules)=false/\∃vs,KV kvs vs/\h.DictOf (cS P w) a vs:=
 show ObjOk P w H h a (.dK kvs)from vB ok e
theorem A0i {kvs:List (Key×V)}(ok:HOk P w H h)(e:H a=some (.dK kvs)):kvs.length<=sizeLine/\(a==sysModules)=false/\∃vs,KV kvs vs/\h.DictOf (cS P w) a vs:=jR ok (.inl e)
theorem lH {ks:List Key}(ok:HOk P w H h)(e:H a=some (.tup (ks.map kV))):(tupleKind (cS P w)).is h ks a:=by obtain⟨_,its,r,o,h1,h2,n,h3⟩:=(show ObjOk P w H h a (.tup (ks.map kV))from ok a _ e);exact⟨o,its.toArray,n,h1,h2,h3,by simpa using vI r⟩
theorem jC {kvs:List (List Key×V)}(ok:HOk P w H h)(e:Rd H a (.dT kvs)):kvs.length<=sizeLine/\(a==sysModules)=false/\
  ∃xs,KT H kvs xs/\h.DictOfH (tupleKind (cS P w)) a xs:=by
 obtain⟨z,y,xs,r,o,es,ep,h1,h2,h3,h4,h5⟩:=(show ObjOk P w H h a (.dT kvs)from vB ok e);refine⟨z,y,xs,r,o,es,ep,h1,h2,h3,h4,λx hx=> ?_,h5⟩;have all:∀{l:List (List Key×V)}{m:List (List Key×Addr×Value)},KT H l m->∀x∈m,(tupleKind (cS P w)).is h x.1 x.2.1:=by
  intro l m q
  induction q with
  |nil=>intro x hx;exact nomatch hx
  | @cons p q ps qs hq t ih=>
   intro x hx;rcases mem_cons.mp hx with e|hx
   ·subst e;exact lH ok (by rw[←hq.1];exact hq.2.1)
   ·exact ih x hx
 exact all r x hx
theorem sX {kvs:List (List Key×V)}(ok:HOk P w H h)(e:H a=some (.dT kvs)):kvs.length<=sizeLine/\(a==sysModules)=false/\
  ∃xs,KT H kvs xs/\h.DictOfH (tupleKind (cS P w)) a xs:=jC ok (.inl e)
end
noncomputable def DGet (H:Hp)(a:Addr)(y:V)(r:Option V):Prop:=
 (∃kvs k,Rd H a (.dK kvs)/\y=kV k/\r=dD kvs k)\/ ∃kvs k b,Rd H a (.dT kvs)/\y= .ref b/\H b=some (.tup (k.map kV))/\r=dD kvs k
noncomputable def DPut (H:Hp)(a:Addr)(y v:V)(H':Hp):Prop:=
 (∃kvs k,H a=some (.dK kvs)/\y=kV k/\kvs.length<sizeLine/\H'=upd H a (.dK (eK kvs k v)))\/
 ∃kvs k b,H a=some (.dT kvs)/\y= .ref b/\H b=some (.tup (k.map kV))/\kvs.length<sizeLine/\H'=upd H a (.dT (eK kvs k v))
theorem DGet.k {H:Hp}{a:Addr}{kvs:List (Key×V)}{k:Key}(e:H a=some (.dK kvs)):DGet H a (kV k) (dD kvs k):=.inl ⟨kvs,k,.inl e,rfl,rfl⟩
theorem DGet.t {H:Hp}{a b:Addr}{kvs:List (List Key×V)}{k:List Key}(e:H a=some (.dT kvs))(eb:H b=some (.tup (k.map kV))):DGet H a (.ref b) (dD kvs k):=.inr ⟨kvs,k,b,.inl e,rfl,eb,rfl⟩
theorem DPut.t {H:Hp}{a b:Addr}{kvs:List (List Key×V)}{k:List Key}{v:V}(e:H a=some (.dT kvs))(eb:H b=some (.tup (k.map kV)))(hl:kvs.length<sizeLine):
  DPut H a (.ref b) v (upd H a (.dT (eK kvs k v))):=.inr ⟨kvs,k,b,e,rfl,eb,hl,rfl⟩
section
variable {X:Cx}{pins:List (Addr×Obj)}{σ:St}{H:Hp}{s:Shared}{a:Addr}{y v:V}{u r:Value}{o:Option V}{A:Around}{E:Value->Shared->Prop}
theorem Inv.big (I:Inv X pins σ H s):sysModules<s.heap.objs.size:=by have h:mainGlobals<s.heap.objs.size:=(I.mod.glob.keeps I.bk).lt;exact lt_trans (by decide) h
theorem A4y {Q:Value->Shared->Prop}(hu:A.units+1<cLine)(I:Inv X pins σ H s)(g:DGet H a y (some v))(ry:RelV y u)(h:∀w' s',Inv X pins σ H s'->RelV v w'->Q w' s'):
  wpAny (model X.prog X.w) A (getItem (.ref a) u) Q E s:=by
 rcases g with⟨kvs,k,e,ey,l⟩| ⟨kvs,k,b,e,ey,eb,l⟩
 ·subst ey;obtain⟨z,hd,vs,rel,dd⟩:=jR I.hok e;obtain⟨w',hw,rw'⟩:=RelO.some_of (v:=v) (o:=valueAt vs k) (by rw[l];exact rel.val k);exact wpAny_getItem_of (jO ry) dd.mapOf hw (h w' _ (I.tok _) rw')
 ·subst ey;cases (show u=Value.ref b from ry);obtain⟨z,hd,xs,rel,dd⟩:=jC I.hok e;obtain⟨w',hw,rw'⟩:=RelO.some_of (v:=v) (o:=(atKey xs k).map (·.2)) (by rw[l];exact rel.val k);obtain⟨p,hp,hp2⟩:=Option.map_eq_some_iff.mp hw;refine wpAny_getItem_heap (tupleKind_room_in1 hu) (lH I.hok eb) dd hp ?_;rw[hp2];exact h w' _ (I.tok _) rw'
theorem A68 {Q:Value->Shared->Prop}(hu:A.units+1<cLine)(I:Inv X pins σ H s)(g:DGet H a y o)(ry:RelV y u)(h:∀s',Inv X pins σ H s'->Q (.bool o.isSome) s'):
  wpAny (model X.prog X.w) A (compareOp .In u (.ref a)) Q E s:=by
 rcases g with⟨kvs,k,e,ey,l⟩| ⟨kvs,k,b,e,ey,eb,l⟩
 ·subst ey;obtain⟨z,hd,vs,rel,dd⟩:=jR I.hok e;refine wpAny_in_of (jO ry) hd dd.mapOf ?_;rw[←(rel.val k).isSome_eq,←l];exact h _ (I.tok _)
 ·subst ey;cases (show u=Value.ref b from ry);obtain⟨z,hd,xs,rel,dd⟩:=jC I.hok e;refine wpAny_in_heap (tupleKind_room_in1 hu) (lH I.hok eb) hd dd ?_;have q:=(rel.val k).isSome_eq;rw[Option.isSome_map]at q;rw[←q,←l];exact h _ (I.tok _)
theorem pT {h':Heap}{t':Nat}{ob:HO}(I:Inv X pins σ H s)(mu:Mut (H a))(hs:Heap.SameBut a s.heap h')(he:∃q,h'.get? a=some q)(new:ObjOk X.prog X.w (upd H a ob) h' a ob):
  Inv X pins σ (upd H a ob) {s with heap:=h',toks:=t'}:=
 I.write (x:=a) (e:=a) mu (.inl rfl) (λb q hb z=>(hs.2 b hb).trans z) he new
theorem vW {P:Program}{w:World}{H':Hp}{h':Heap}{kvs:List (Key×V)}{vs:List (Key×Value)}(z:kvs.length<=sizeLine)(hd:(a==sysModules)=false)(rel:KV kvs vs)(dd:h'.DictOf (cS P w) a vs):
  ObjOk P w H' h' a (.dK kvs):=⟨z,hd,vs,rel,dd⟩
theorem A6u {H':Hp}{Q:Unit->Shared->Prop}(hu:A.units+1<cLine)(I:Inv X pins σ H s)(g:DPut H a y v H')(ry:RelV y u)(rv:RelV v r)(h:∀s',Inv X pins σ H' s'->Q () s'):
  wpAny (model X.prog X.w) A (setItem (.ref a) u r) Q E s:=by
 rcases g with⟨kvs,k,e,ey,l,eH⟩| ⟨kvs,k,b,e,ey,eb,l,eH⟩
 ·subst ey eH;obtain⟨z,hd,vs,rel,dd⟩:=A0i I.hok e;have hz:vs.length<=sizeLine:=by rw[←rel.length];exact z
  have hl:(eK kvs k v).length<=sizeLine:=by have:=tP kvs k v;omega
  refine wpAny_setItem_pairs (hsz:=hz) (jO ry) dd λh' dd' hs=>h _ ?_;have he:∃q,h'.get? a=some q:=let ⟨q,_,_,hq,_⟩:=dd';⟨q,hq⟩;exact pT I (by rw[e];exact True.intro) hs he (vW hl hd (rel.put k rv) dd')
 ·subst ey eH;cases (show u=Value.ref b from ry);obtain⟨z,hd,xs,rel,dd⟩:=sX I.hok e;have hz:xs.length<=sizeLine:=by rw[←Paired.length rel];exact z
  have hl:(eK kvs k v).length<=sizeLine:=by have:=tP kvs k v;omega
  refine wpAny_setItem_heap (hsz:=hz) (tupleKind_room_in1 hu) (lH I.hok eb) dd λh' dd' hs=>h _ ?_;obtain⟨q,es,ep,hq,h2,h3,h4,_,h5⟩:=dd';refine pT I (by rw[e];exact True.intro) hs ⟨q,hq⟩ ⟨hl,hd,_,(rel.put k eb rv).keeps λc ys ec=> ?_,q,es,ep,hq,h2,h3,h4,h5⟩;rw[aY (pU ec e (λz=>nomatch z))];exact ec
end
section
variable {X:Cx}{pins:List (Addr×Obj)}{σ:St}{H:Hp}{s:Shared}{a:Addr}{kvs:List (Key×V)}{k:Key}{u:Value}{A:Around}{E:Value->Shared->Prop}
end
noncomputable def yM (i:Expr):Prop:=∀ov iv,subscripted i false ov iv=operate [ov,iv] (getItem ov iv)
theorem A8f {prog:Program}{w:World}{A:Around}{E:Value->Shared->Prop}{s:Shared}{env:Env}{value slice:Expr}{pos:Pos}{T id:String}{Q:Value->Shared->Prop}
  (hl:typeLookup (.type T) "__getitem__" =pure (some (.builtin id)))(hs:yM slice)
  (h:wpAny (model prog w) A (eval value env) (λo s₁=>wpAny (model prog w) A (eval slice env) (λi s₂=>s₂.TypeIs o T/\wpAny (model prog w) A (getItem o i) Q E s₂) E s₁) E s):
  wpAny (model prog w) A (eval (.Subscript value slice pos) env) Q E s:=by
 refine Subscript_ (wpAny_mono h (λo s₁ h₁=>wpAny_mono h₁ (λi s₂ h₂=> ?_) λ_ _ x=>x) λ_ _ x=>x);obtain⟨hT,h₂⟩:=h₂;unfold subscriptTail;refine zjZ ?_;rw[getitemInPython_of_ne hT.not_modules];refine zjZ (wpAny_specialOf hT hl ?_);have fin:wpAny (model prog w) A (subscripted slice false o i) (λr s₃=>wpAny (model prog w) A (letTemporaryGo value o r>>=λ_=>pure r) Q E s₃) E s₂:=by
  rw[hs o i];exact wpAny_operating (wpAny_mono h₂ (λr s₃ h₃=>zjZ (wpAny_letTemporaryGo (zjY h₃))) λ_ _ x=>x)
 first
  |exact zjY (zjZ fin)
  |exact zjZ (zjY (zjZ fin))
  |exact zjZ fin
theorem A34 {X:Cx}{pins:List (Addr×Obj)}{σ:St}{H:Hp}{s:Shared}{a:Addr}{y:V}{o:Option V}(I:Inv X pins σ H s)(g:DGet H a y o):s.TypeIs (.ref a) "dict":=by
 rcases g with⟨kvs,k,e,_,_⟩| ⟨kvs,k,b,e,_,_,_⟩
 ·obtain⟨_,_,vs,_,dd⟩:=jR I.hok e;exact dd.typeIs
 ·obtain⟨_,_,xs,_,dd⟩:=jC I.hok e;exact dd.typeIs
noncomputable def B1t (td ty:TE):TE:=λσ H Q=>td σ H λx H1=>ty σ H1 λy H2=> ∃a v,x= .ref a/\DGet H2 a y (some v)/\Q v H2
noncomputable def A76 (ty td:TE):TE:=λσ H Q=>ty σ H λy H1=>td σ H1 λx H2=> ∃a o,x= .ref a/\DGet H2 a y o/\Q (.bl o.isSome) H2
noncomputable def A63 (td ty tv:TE):TS:=λD σ H=>tv σ H λv H1=>td σ H1 λx H2=>ty σ H2 λy H3=> ∃a H4,x= .ref a/\DPut H3 a y v H4/\D.nx σ H4
section
variable {X:Cx}{o i e value:Expr}{pos pos' tpos:Pos}{td ty tv:TE}
theorem A5w (hu:X.A.units+1<cLine)(ho:PE X o td)(hi:PE X i ty)(hs:yM i):PE X (.Subscript o i pos) (B1t td ty):=by intro pins s σ H Q I h;refine A8f PySem.F.slot_dict_getitem.lookup hs (thn (ho pins s σ H _ I h) λu s1 ⟨x,H1,I1,rx,q1⟩=>thn (hi pins s1 σ H1 _ I1 q1) λiv s2 ⟨y,H2,I2,ry,a,v,ex,g,q2⟩=> ?_);subst ex;obtain rfl:u=Value.ref a:=rx;exact⟨A34 I2 g,A4y hu I2 g ry λw' s3 I3 rw'=> ⟨v,H2,I3,rw',q2⟩⟩
theorem A2g (hu:X.A.units+1<cLine)(hi:PE X i ty)(ho:PE X o td):PC X .In i o (A76 ty td):=by intro pins s σ H Q I h;refine thn (hi pins s σ H _ I h) λiv s1 ⟨y,H1,I1,ry,q1⟩=>thn (ho pins s1 σ H1 _ I1 q1) λu s2 ⟨x,H2,I2,rx,a,ov,ex,g,q2⟩=> ?_;subst ex;obtain rfl:u=Value.ref a:=rx;exact A68 hu I2 g ry λs3 I3=> ⟨.bl ov.isSome,H2,I3,rfl,q2⟩
theorem B2b (hu:X.A.units+1<cLine)(ho:PE X o td)(hi:PE X i ty)(hv:PE X value tv)(hs:swapsWith value (some (.Subscript o i pos')) pos.line X.env=pure false):
  PS X (.Assign [.Subscript o i pos'] value pos) (A63 td ty tv):=by
 intro pins s σ H D I h;refine wpAny_Assign_Subscript (thn (hv pins s σ H _ I h) λr s1 ⟨v,H1,I1,rv,q1⟩=>thn (ho pins s1 σ H1 _ I1 q1) λu s2 ⟨x,H2,I2,rx,q2⟩=>thn (hi pins s2 σ H2 _ I2 q2) λiv s3 ⟨y,H3,I3,ry,a,H4,ex,g,q3⟩=> ?_) hs;subst ex;obtain rfl:u=Value.ref a:=rx;exact A6u hu I3 g ry rv λs4 I4=> ⟨σ,H4,I4,q3⟩
end
theorem A6k {P:Program}{w:World}{H:Hp}(h:Heap)(hb:sysModules<h.objs.size):ObjOk P w H (h.push {cls:=.type "dict",data:=.dict #[]}) h.objs.size (.dK []):=
 ⟨zero_le _,beq_eq_false_iff_ne.mpr (Ne.symm (ne_of_lt hb)),[],.nil,Heap.DictOf.new h⟩
theorem A3b {P:Program}{w:World}{H:Hp}(h:Heap)(hb:sysModules<h.objs.size):ObjOk P w H (h.push {cls:=.type "dict",data:=.dict #[]}) h.objs.size (.dT []):=
 ⟨zero_le _,beq_eq_false_iff_ne.mpr (Ne.symm (ne_of_lt hb)),[],.nil,_,#[],0,get?_push_size _ rfl,⟨rfl,rfl,rfl⟩,rfl,rfl,nodup_nil⟩
noncomputable def A3u:TE:=λ_ H Q=> ∀p,H p=none->Q (.ref p) (upd H p (.dT []))
section
variable {X:Cx}{pos:Pos}
theorem A7k:PE X (.Dict [] [] pos) A3u:=λpins s σ H Q I h=>
 wpAny_Dict_empty ⟨.ref s.heap.objs.size,_,I.laid (a:=s.heap.objs.size) (o:=.dT []) (t':=s.toks) (λ_ _ q=>zjX _ q) (zjQ _) (A3b s.heap I.big),rfl,h _ (I.hok.fresh (zjQ _))⟩
end
noncomputable def sS:List (TE×TE)->St->Hp->(List (V×V)->Hp->Prop)->Prop
 | [],_,H,Q=>Q [] H
 | (tk,tv)::r,σ,H,Q=>tk σ H λx H1=>tv σ H1 λy H2=>sS r σ H2 λps H3=>Q ((x,y)::ps) H3
noncomputable abbrev VV:List (V×V)->List (Value×Value)->Prop:=Paired λp q=>RelV p.1 q.1/\RelV p.2 q.2
noncomputable def PPs (X:Cx)(pos:Pos)(keys:List (Option Expr))(values:List Expr)(trs:List (TE×TE)):Prop:=
 ∀(pins:List (Addr×Obj))(s:Shared)(σ:St)(H:Hp)(Q:List (V×V)->Hp->Prop),Inv X pins σ H s->sS trs σ H Q->
  wpAny (model X.prog X.w) X.A (evalPairs (pairTrees keys values X.env pos)) (λvs s'=> ∃ps H',Inv X pins σ H' s'/\VV ps vs/\Q ps H') X.xe s
theorem A0h {X:Cx}{pos:Pos}:PPs X pos [] [] []:=λpins s σ H Q I h=>pairTrees_nil_walk ⟨[],H,I,.nil,h⟩
theorem oC {X:Cx}{pos:Pos}{k v:Expr}{ks:List (Option Expr)}{vs:List Expr}{tk tv:TE}{trs:List (TE×TE)}(hk:PE X k tk)(hv:PE X v tv)(hr:PPs X pos ks vs trs):
  PPs X pos (some k::ks) (v::vs) ((tk,tv)::trs):=λpins s σ H Q I h=>
 pairTrees_cons_walk (thn (hk pins s σ H _ I h) λu s1 ⟨x,H1,I1,rx,q1⟩=>thn (hv pins s1 σ H1 _ I1 q1) λw2 s2 ⟨y,H2,I2,ry,q2⟩=>
  thn (hr pins s2 σ H2 _ I2 q2) λws s3 ⟨ps,H3,I3,rel,q3⟩=> ⟨(x,y)::ps,H3,I3,.cons ⟨rx,ry⟩ rel,q3⟩)
noncomputable def gR (kvs more:List (Key×V)):List (Key×V):=more.foldl (λacc kv=>eK acc kv.1 kv.2) kvs
theorem KV.merge:∀{more:List (Key×V)}{rs:List (Key×Value)}{kvs:List (Key×V)}{vs:List (Key×Value)},KV more rs->KV kvs vs->KV (gR kvs more) (merged vs rs):=by
 intro more rs kvs vs r;unfold KV at r
 induction r generalizing kvs vs with
 |nil=>intro q;exact q
 | @cons p q ps qs h t ih=>
  intro r0;have e:KV (eK kvs p.1 p.2) (stored vs q.1 q.2):=by
   have:=r0.put p.1 h.2;rw[←h.1];exact this
  exact ih e
theorem A19:∀(more kvs:List (Key×V)),(gR kvs more).length<=kvs.length+more.length
 | [],kvs=>by show kvs.length<=kvs.length+0;omega
 |p::r,kvs=>by
  have h1:=A19 r (eK kvs p.1 p.2);have h2:=tP kvs p.1 p.2;show(gR (eK kvs p.1 p.2) r).length<=_;rw[length_cons];omega
theorem A13 {P:Program}{w:World}:∀{kvs:List (Key×V)}{ws:List (Value×Value)},VV (kvs.map λkv=>(kV kv.1,kv.2)) ws->∃rs,Carries (cS P w) ws rs/\KV kvs rs
 | [],_,r=>by rw[map_nil]at r;cases r;exact⟨[],True.intro,.nil⟩
 |p::kvs,_,r=>by
  rw[map_cons]at r;cases r with
  | @cons a b as bs h t=>
   obtain⟨rs,c,q⟩:=A13 (P:=P) (w:=w) t;obtain⟨b1,b2⟩:=b;exact⟨(p.1,b2)::rs,⟨jO h.1,rfl,c⟩,.cons ⟨rfl,h.2⟩ q⟩
noncomputable def A99 (trs:List (TE×TE)):TE:=λσ H Q=> ∀p,H p=none->sS trs σ (upd H p (.dK [])) λps H2=>H2 p=some (.dK [])/\∃kvs:List (Key×V),ps=kvs.map (λkv=>(kV kv.1,kv.2))/\kvs.length<=15/\Q (.ref p) (upd H2 p (.dK (gR [] kvs)))
theorem wS {X:Cx}{pos:Pos}{keys:List (Option Expr)}{values:List Expr}{trs:List (TE×TE)}(h:PPs X pos keys values trs)(hall:keys.all (·.isSome)=true)(hl:keys.length=values.length)(h0:keys≠[])
  (h15:keys.length<=15):PE X (.Dict keys values pos) (A99 trs):=by
 intro pins s σ H Q I q;have hn:=I.hok.fresh (zjQ s.heap.objs.size);have I1:=I.laid (a:=s.heap.objs.size) (o:=.dK []) (h':=s.heap.push {cls:=.type "dict",data:=.dict #[]}) (t':=s.toks) (λ_ _ q=>zjX _ q) (zjQ _) (A6k s.heap I.big);refine wpAny_Dict_walk (knd:=cS X.prog X.w) hall hl h0 h15 (thn (h pins _ σ _ _ I1 (q _ hn)) λws s2 ⟨ps,H2,I2,rel,e,kvs,ep,lk,q2⟩=> ?_);subst ep;obtain⟨rs,c,rk⟩:=A13 (P:=X.prog) (w:=X.w) rel;obtain⟨z,hd,vs0,r0,dd⟩:=A0i I2.hok e;cases r0;refine⟨rs,c,dd,λh' dd' hs=> ⟨.ref s.heap.objs.size,_,?_,rfl,q2⟩⟩;have hz:(gR [] kvs).length<=sizeLine:=by
  have h1:=A19 kvs [];rw[length_nil]at h1;rw[sizeLine_eq];omega
 have he:∃q,h'.get? s.heap.objs.size=some q:=let ⟨q,_,_,hq,_⟩:=dd';⟨q,hq⟩;exact pT I2 (by rw[e];exact True.intro) hs he (vW hz hd (rk.merge .nil) dd')
end L2
set_option maxHeartbeats 4000000
namespace L2
open PySem PySem.Spec PyProof.Rows
structure dZ where
 cl:List (Str×Addr)
 C:Addr
 s:Shared
 H:Hp
 fp:List Addr
 pn:List (Addr×Obj)
noncomputable def A9d (X:Cx)(N:List Str)(scope:Scope)(Z:dZ):Cx where
 prog:=X.prog
 w:=X.w
 K:=X.K
 mg:=X.mg
 base:=X.base
 A:=X.A
 N:=N
 s₀:=Z.s
 H₀:=Z.H
 env:=compEnvC scope Z.cl Z.C X.env
 outer:=X.stack
 stack:=X.stack
 ex:=Z.fp
 fn:=λ_=>false
 calm:=X.calm
 pn:=Z.pn
 xe:=λ_ _=>False
noncomputable def A1s (ns:List (Str×NameKind))(N:List Str)(scope:Scope)(frees:List (Str×Nat)):Prop:=
 (∀x∈scope.names,x.2≠ .cell/\(x.2= .local->scope.names.lookup x.1=some .local)/\(x.2= .free->ns.lookup x.1=some .cell\/ns.lookup x.1=some .free))/\
 ∀p∈frees,N[p.2]?=some p.1/\scope.names.lookup p.1=some .free/\(ns.lookup p.1=some .cell\/ns.lookup p.1=some .free)
instance (ns:List (Str×NameKind)) (N:List Str) (scope:Scope) (frees:List (Str×Nat)):Decidable (A1s ns N scope frees):=by unfold A1s;infer_instance
noncomputable def σC (n:Nat)(frees:List (Str×Nat))(σ:St):St:=replicate n none++frees.map λp=>(σ[p.2]?).join
theorem A72 (hf:∀x∈scope.names,x.2= .free->∃c,env.cells.lookup x.1=some c):
  ∃cl,closureFor scope env=pure cl/\(∀x c,cl.lookup x=some c->env.cells.lookup x=some c)/\∀x,(x,NameKind.free)∈scope.names->∃c,cl.lookup x=some c:=by
 have go:∀(names:List (Str×NameKind))(cs:List (Str×Addr)),(∀x∈names,x.2= .free->∃c,env.cells.lookup x.1=some c)->(∀x c,cs.lookup x=some c->env.cells.lookup x=some c)->
   ∃cl,(forIn names cs (λ(x:Str×NameKind) (r:List (Str×Addr))=>(if (x.2==NameKind.free)=true then(do let a←cellOf env x.1;pure (ForInStep.yield ((x.1,a)::r)))else pure (ForInStep.yield r):Sem (ForInStep (List (Str×Addr))))))=pure cl/\
    (∀x c,cl.lookup x=some c->env.cells.lookup x=some c)/\(∀x c,cs.lookup x=some c->∃c',cl.lookup x=some c')/\∀x,(x,NameKind.free)∈names->∃c,cl.lookup x=some c:=by
  intro names
  induction names with
  |nil=>intro cs _ h;exact⟨cs,rfl,h,λx c e=> ⟨c,e⟩,λx hx=>nomatch hx⟩
  |cons y r ih=>
   intro cs hf h;obtain⟨n,k⟩:=y;have hr:∀x∈r,x.2= .free->∃c,env.cells.lookup x.1=some c:=λx hx=>hf x (zjS _ hx);by_cases hk:k= .free
   ·subst hk;obtain⟨c,hc⟩:=hf (n,.free) zjR rfl;have h2:∀x c',((n,c)::cs).lookup x=some c'->env.cells.lookup x=some c':=λx c' e=>by
     rw[lookup_cons]at e;cases hx:x==n with
     |true=>
      rw[hx]at e;have:x=n:=eq_of_beq hx;cases e;rw[this];exact hc
     |false=>rw[hx]at e;exact h x c' e
    obtain⟨cl,e1,e2,e3,e4⟩:=ih ((n,c)::cs) hr h2;refine⟨cl,?_,e2,λx c' e=> ?_,λx hx=> ?_⟩
    ·rw[forIn_cons];have:cellOf env n=pure c:=by unfold cellOf;rw[hc]
     simp only[beq_self_eq_true,if_true,this,pure_bind];exact e1
    ·cases hx:x==n with
     |true=>exact e3 x c (by rw[lookup_cons,hx])
     |false=>exact e3 x c' (by rw[lookup_cons,hx];exact e)
    ·rcases mem_cons.mp hx with z|z
     ·cases z;exact e3 n c (by rw[lookup_cons,beq_self_eq_true])
     ·exact e4 x z
   ·obtain⟨cl,e1,e2,e3,e4⟩:=ih cs hr h;refine⟨cl,?_,e2,e3,λx hx=> ?_⟩
    ·rw[forIn_cons];have hb:(k==NameKind.free)=false:=by simpa using hk
     simp only[hb,Bool.false_eq_true,if_false,pure_bind];exact e1
    ·rcases mem_cons.mp hx with z|z
     ·cases z;exact absurd rfl hk
     ·exact e4 x z
 obtain⟨cl,e1,e2,_,e4⟩:=go scope.names [] hf (λx c e=>by simp at e);refine⟨cl,?_,e2,e4⟩;unfold closureFor
 first
  | (rw[e1];rfl)
  | (simp only[e1];rfl)
  |simp[e1]
theorem A0w {env:Env}:∀{names:List (Str×NameKind)}{x:Str},names.lookup x=some .free->
  (names.map λ(n,k)=>if (k==NameKind.free&&env.scope.kind== .function&&env.kindOf n==some .cell)then(n,NameKind.cell)else(n,k)).lookup x=some .cell\/
  (names.map λ(n,k)=>if (k==NameKind.free&&env.scope.kind== .function&&env.kindOf n==some .cell)then(n,NameKind.cell)else(n,k)).lookup x=some .free
 | [],_,h=>by simp at h
 | (n,k)::r,x,h=>by
  have ih:=@A0w env r x;show lookup x ((if (k==NameKind.free&&env.scope.kind== .function&&env.kindOf n==some .cell)=true then(n,NameKind.cell)else(n,k))::_)=_\/lookup x ((if (k==NameKind.free&&env.scope.kind== .function&&env.kindOf n==some .cell)=true then(n,NameKind.cell)else(n,k))::_)=_;cases hx:x==n with
  |true=>
   simp only[lookup_cons,hx]at h;cases h;by_cases hc:(NameKind.free==NameKind.free&&env.scope.kind== .function&&env.kindOf n==some .cell)=true
   ·rw[if_pos hc];left;rw[lookup_cons,hx]
   ·rw[if_neg hc];right;rw[lookup_cons,hx]
  |false=>
   simp only[lookup_cons,hx]at h;by_cases hc:(k==NameKind.free&&env.scope.kind== .function&&env.kindOf n==some .cell)=true
   ·rw[if_pos hc];simp only[lookup_cons,hx];exact ih h
   ·rw[if_neg hc];simp only[lookup_cons,hx];exact ih h
theorem relabel_back {env:Env}:∀{names:List (Str×NameKind)}{x:Str},
    ((names.map λ(n,k)=>if (k==NameKind.free&&env.scope.kind== .function&&env.kindOf n==some .cell)then(n,NameKind.cell)else(n,k)).lookup x=some .cell\/
     (names.map λ(n,k)=>if (k==NameKind.free&&env.scope.kind== .function&&env.kindOf n==some .cell)then(n,NameKind.cell)else(n,k)).lookup x=some .free)->
    (x,NameKind.free)∈names\/(x,NameKind.cell)∈names
  | [],_,h=>by simp at h
  | (n,k)::r,x,h=>by
    have ih:=@relabel_back env r x;replace h:lookup x ((if (k==NameKind.free&&env.scope.kind== .function&&env.kindOf n==some .cell)=true then(n,NameKind.cell)else(n,k))::_)=_\/lookup x ((if (k==NameKind.free&&env.scope.kind== .function&&env.kindOf n==some .cell)=true then(n,NameKind.cell)else(n,k))::_)=_:=h;cases hx:x==n with
    |true=>
      have e:x=n:=eq_of_beq hx;subst e;by_cases hc:(k==NameKind.free&&env.scope.kind== .function&&env.kindOf x==some .cell)=true
      · have:k= .free:=by
          simp only[Bool.and_eq_true]at hc;exact eq_of_beq hc.1.1
        subst this;exact .inl zjR
      · rw[if_neg hc]at h
        simp only[lookup_cons,hx,Option.some.injEq]at h;rcases h with h|h
        · subst h;exact .inr zjR
        · subst h;exact .inl zjR
    |false=>
      have h':_:=h;by_cases hc:(k==NameKind.free&&env.scope.kind== .function&&env.kindOf n==some .cell)=true
      · rw[if_pos hc]at h;simp only[lookup_cons,hx]at h
        rcases ih h with z|z
        · exact .inl (zjS _ z)
        · exact .inr (zjS _ z)
      · rw[if_neg hc]at h;simp only[lookup_cons,hx]at h
        rcases ih h with z|z
        · exact .inl (zjS _ z)
        · exact .inr (zjS _ z)
section
end
noncomputable abbrev TC:=St->Hp->(St->Hp->Prop)->Prop
noncomputable def eA (J:It)(g:TG)(tb:TS)(D:dR)(σ:St)(H:Hp):Prop:=∃W:Nat->Nat->St->Hp->Prop,(∃m,W 0 m σ H)/\∀i m σ H,W i m σ H->
 (J.stop i H/\D.nx σ H)\/(J.go i H/\∃N:St->Hp->Prop,(∀σ' H',N σ' H'->∃m',m'<m/\W (i+1) m' σ' H')/\∀x H',J.yld i H x H'->g x σ H' λσ2 H2=>tb {D with nx:=N,ct:=N,bk:=D.nx} σ2 H2)
noncomputable def eC (Q:St->Hp->Prop):dR:={nx:=Q,rt:=λ_ _=>False}
noncomputable def cZ (tt:TT)(tb:TC):TS:=λD σ H=>tt σ H λb H1=>if b=true then tb σ H1 D.nx else D.nx σ H1
noncomputable def eJ (l:Addr)(te:TE):TC:=λσ H Q=>te σ H λv H1=> ∃xs,H1 l=some (.lst xs)/\xs.length<sizeLine/\Q σ (upd H1 l (.lst (xs++[v])))
noncomputable def kK (wi:TI)(g:TG)(tt:TT)(tb:TC):TC:=λσ H Q=>wi σ H λJ H1=>eA J g (cZ tt tb) (eC Q) σ H1
noncomputable def A0s (wi:TI)(g:dZ->TG)(tt:dZ->TT)(te:dZ->TE)(n:Nat)(frees:List (Str×Nat)):TE:=λσ H Q=>wi σ H λJ H1=> ∀(Z:dZ)(l:Addr),H1 l=none->
 eA J (g Z) (cZ (tt Z) (eJ l (te Z))) (eC λ_ H'=>Q (.ref l) H') (σC n frees σ) (upd H1 l (.lst []))
noncomputable def uM (wi:TI)(g:dZ->TG)(tt:dZ->TT)(wi2:dZ->TI)(g2:dZ->TG)(tt2:dZ->TT)(te:dZ->TE)(n:Nat)(frees:List (Str×Nat)):TE:=λσ H Q=>wi σ H λJ H1=> ∀(Z:dZ)(l:Addr),H1 l=none->
 eA J (g Z) (cZ (tt Z) (kK (wi2 Z) (g2 Z) (tt2 Z) (eJ l (te Z)))) (eC λ_ H'=>Q (.ref l) H') (σC n frees σ) (upd H1 l (.lst []))
noncomputable def testsOf (ifs:List Expr)(env:Env):Sem Bool:=forIn ifs true λc r=>if r=true then do let ok←isTrue c env (eval c env);pure (ForInStep.yield ok)else pure (ForInStep.yield r)
noncomputable def PTs (Y:Cx)(ifs:List Expr)(t:TT):Prop:=∀(pins:List (Addr×Obj))(s:Shared)(σ:St)(H:Hp)(Q:Bool->Hp->Prop),Inv Y pins σ H s->t σ H Q->
 wpAny (model Y.prog Y.w) Y.A (testsOf ifs Y.env) (TP Y pins σ Q) Y.xe s
noncomputable def gB:TT:=λ_ H Q=>Q true H
theorem cF:PTs Y [] gB:=λpins s σ H Q I h=>wpAny_tests_nil ⟨H,I,h⟩
theorem eP (hc:PT Y c t):PTs Y [c] t:=λpins s σ H Q I h=>wpAny_tests_one (hc pins s σ H Q I h)
noncomputable def PB (Y:Cx)(tail:(Unit->Sem Fin)->Sem Fin)(r:TC):Prop:=∀(pins:List (Addr×Obj))(s:Shared)(σ:St)(H:Hp)(Q:St->Hp->Prop)(Q':Fin->Shared->Prop)(k:Unit->Sem Fin),Inv Y pins σ H s->r σ H Q->
 (∀σ' H' s',Inv Y pins σ' H' s'->Q σ' H'->wpAny (model Y.prog Y.w) Y.A (k ()) Q' (λ_ _=>False) s')->wpAny (model Y.prog Y.w) Y.A (tail k) Q' (λ_ _=>False) s
theorem iO (h:wpAny M A t Q E s)(hx:E=λ_ _=>False):wpAny M A t Q E' s:=by subst hx;exact wpAny_mono h (λ_ _ q=>q) λ_ _ z=>z.elim
noncomputable def tK (elt:Expr)(acc:Value)(env:Env)(k:Unit->Sem Fin):Sem Fin:=(eval elt env>>=λx=>call (.builtin "list.append") [acc,x]>>=λ_=>pure ())>>=k
theorem sN (hx:Y.xe=λ_ _=>False)(he:PE Y elt te):PB Y (tK elt (.ref l) Y.env) (eJ l te):=by intro pins s σ H Q Q' k I h hk;refine zjZ (zjZ (thn (iO (he pins s σ H _ I h) hx) λv s1 ⟨x,H1,I1,r1,q1⟩=> ?_));obtain⟨xs,e,hz,q⟩:=q1;refine zjZ (thn (iO (iA pins s1 σ H1 (.ref l) [x] (.ref l) [v] (λ_ H2=>Q σ H2) I1 rfl (.cons r1 .nil) ⟨l,xs,x,rfl,rfl,e,hz,q⟩) hx) λu s2 ⟨y,H2,I2,r2,q2⟩=> ?_);exact zjY (hk σ H2 s2 I2 q2)
noncomputable def lG (e:Expr)(d:Nat)(it acc:Value)(env:Env)(tg iter:Expr)(ifs:List Expr)(tail:(Unit->Sem Fin)->Sem Fin):Sem Fin:=
 standAt iter.pos>>=λ_=>pyNext it>>=λr=>match r with
  |none=>pure (.done .next)
  |some v=>letOwnedTupleGo tg it v>>=λ_=>assign tg env v>>=λ_=>testsOf ifs env>>=λok=>
   if ok=true then tail (λ_=>again (.compLoop e d it acc env))else again (.compLoop e d it acc env)
theorem A07 (elt tg iter:Expr)(ifs:List Expr)(scope:Scope)(pos:Pos)(it acc:Value)(env:Env):
  compTurn (.ListComp elt [⟨tg,iter,ifs,0⟩] scope pos) 0 it acc env=lG (.ListComp elt [⟨tg,iter,ifs,0⟩] scope pos) 0 it acc env tg iter ifs (tK elt acc env):=by rfl
theorem A58 (elt tg iter:Expr)(ifs:List Expr)(g:Comprehension)(scope:Scope)(pos:Pos)(it acc:Value)(env:Env):
  compTurn (.ListComp elt [g,⟨tg,iter,ifs,0⟩] scope pos) 1 it acc env=lG (.ListComp elt [g,⟨tg,iter,ifs,0⟩] scope pos) 1 it acc env tg iter ifs (tK elt acc env):=by rfl
noncomputable def rA (e:Expr)(iter:Expr)(acc:Value)(env:Env)(k:Unit->Sem Fin):Sem Fin:=
 eval iter env>>=λx=>standAt iter.pos>>=λ_=>foldedSetIterable iter env x>>=λx=>holding [x] (pyIter x)>>=λi=>runOwn (.compStart e 1 i acc env) env>>=λ_=>k ()
theorem xM (elt tg iter tg2 iter2:Expr)(ifs ifs2:List Expr)(scope:Scope)(pos:Pos)(it acc:Value)(env:Env):
  compTurn (.ListComp elt [⟨tg,iter,ifs,0⟩,⟨tg2,iter2,ifs2,0⟩] scope pos) 0 it acc env=lG (.ListComp elt [⟨tg,iter,ifs,0⟩,⟨tg2,iter2,ifs2,0⟩] scope pos) 0 it acc env tg iter ifs
   (rA (.ListComp elt [⟨tg,iter,ifs,0⟩,⟨tg2,iter2,ifs2,0⟩] scope pos) iter2 acc env):=by rfl
section
theorem kR
  (hx:Y.xe=λ_ _=>False)(hc:Y.calm=true)(heq:compTurn (.ListComp elt gens scope pos) d (.ref it) (.ref l) Y.env=lG (.ListComp elt gens scope pos) d (.ref it) (.ref l) Y.env tg iter ifs tail)(hg:PG Y tg g)(ht:PTs Y ifs tt)(hb:PB Y tail tb)
  (I:Inv Y pins σ H s)(T:hJ Y.prog Y.w Y.K tg J fp it tn)(st:tn 0 s.heap)(f2:∀b∈fp,fO Y pins H b)(h:eA J g (cZ tt tb) (eC Q) σ H):
  codeAny (model Y.prog Y.w) Y.A (.compLoop (.ListComp elt gens scope pos) d (.ref it) (.ref l) Y.env) (λr s'=>r= .ok .next/\∃σ' H',Inv Y pins σ' H' s'/\Q σ' H') s:=by
 obtain⟨W,⟨m0,w0⟩,turn⟩:=h;have stat:∀{H':Hp},(∀b∈fp,H' b=none)->∀b∈fp,fO Y pins H' b:=λhn b hb=> ⟨hn b hb,(f2 b hb).2⟩;refine codeAny_loop rfl (λn s'=> ∃i σ' H',Inv Y pins σ' H' s'/\tn i s'.heap/\(∀b∈fp,H' b=none)/\W i n σ' H') (λn s3 hI=> ?_) m0 ⟨0,σ,H,I,st,λb hb=>(f2 b hb).1,w0⟩;obtain⟨i,σ3,H3,I3,st3,fr3,w3⟩:=hI
 show wpAny _ Y.A ((compTurn (.ListComp elt gens scope pos) d (.ref it) (.ref l) Y.env).onRaise (λx=>do noteFrame x Y.env;theTreesLotGoes x)) _ _ s3;refine wpAny_noted ?_;rw[heq];unfold lG;refine zjZ (wpAny_standAt (zjZ ?_));rcases turn i n σ3 H3 w3 with⟨stop,qn⟩| ⟨go,N,hN,step⟩
 ·refine thn (T.done Y rfl rfl rfl hc i pins s3 σ3 H3 _ I3 (stat fr3) st3 stop) λr s4 ⟨hr,I4⟩=> ?_;subst hr;exact zjY ⟨rfl,σ3,H3,I4,qn⟩
 ·refine thn (T.item Y rfl rfl rfl hc i pins s3 σ3 H3 _ I3 (stat fr3) st3 go) λr s4 ⟨u,hr,h4⟩=> ?_;subst hr;refine zjZ (thn h4 λ_ s5 ⟨x,H5,I5,r5,y5,st5,fr5⟩=> ?_);have I5':=I5.pinned (stat fr5) (T.obj _ _ st5);refine zjZ (thn (iO (hg _ s5 σ3 H5 x u _ I5' r5 (step x H5 y5)) hx) λ_ s6 ⟨σ6,H6,I6,q6⟩=> ?_);refine zjZ (thn (iO (ht _ s6 σ6 H6 _ I6 q6) hx) λok s7 ⟨H7,I7,q7⟩=> ?_);have again:∀{σ7:St}{H7:Hp}{s7:Shared},Inv Y (pins++lE fp s5.heap) σ7 H7 s7->N σ7 H7->∃m,m<n/\∃i σ' H',Inv Y pins σ' H' s7/\tn i s7.heap/\(∀b∈fp,H' b=none)/\W i m σ' H':=fun{σ7 H7 s7} I7 n7=>by
   obtain⟨m',hm,w7⟩:=hN σ7 H7 n7;refine⟨m',hm,i+1,σ7,H7,I7.unpinned,T.keep _ _ _ st5 λb hb o e=>(I7.pin (b,o) (mem_append_right _ (mem_append_right _ (mB hb e)))).1,λb hb=> ?_,w7⟩;obtain⟨o,e,d⟩:=T.obj _ _ st5 b hb;exact(I7.pin (b,o) (mem_append_right _ (mem_append_right _ (mB hb e)))).2.1
  cases ok with
  |false=>
   rw[if_neg Bool.false_ne_true]at q7⊢;exact zjY ⟨rfl,again I7 q7⟩
  |true=>
   rw[if_pos rfl]at q7⊢;exact iO (hb _ s7 σ6 H7 _ _ _ I7 q7 λσ8 H8 s8 I8 q8=>zjY ⟨rfl,again I8 q8⟩) rfl
theorem A5i
  (h0:codeAny (model prog w) A (.compLoop (.ListComp elt [g,⟨target,iter,ifs,0⟩] scope pos) 1 it acc env) R s)
  (h:wpAny (model prog w) A (pyIter it) (λit' s'=>codeAny (model prog w) A (.compLoop (.ListComp elt [g,⟨target,iter,ifs,0⟩] scope pos) 1 it' acc env) R s')
   (notedBy (model prog w) A env λx s'=>R (.error x) s') s):
  codeAny (model prog w) A (.compStart (.ListComp elt [g,⟨target,iter,ifs,0⟩] scope pos) 1 it acc env) R s:=by
 refine codeAny_of_tree ?_
 show wpAny _ _ ((compStart (.ListComp elt [g,⟨target,iter,ifs,0⟩] scope pos) 1 it acc env).onRaise (λx=>do noteFrame x env;standAt theWindowsPlace)) _ _ s;refine wpAny_notedAt ?_;unfold compStart;show wpAny _ _ (ask>>=_) _ _ s;refine zjZ (wpAny_askSetting (wpAny_ite ?_))
 split
 ·first
   |exact zjZ (zjY (zjY (And.intro rfl h0)))
   |exact zjY (And.intro rfl h0)
 ·first
   |exact zjZ (wpAny_rule (zjZ (wpAny_standAt (zjZ (wpAny_mono h (λit' s' h'=>zjY (And.intro rfl h')) λ_ _ x=>x)))))
   | (refine zjZ (wpAny_rule ?_);show wpAny _ _ (standAt iter.pos>>=_) _ _ s;exact zjZ (wpAny_standAt (zjZ (wpAny_mono h (λit' s' h'=>zjY (And.intro rfl h')) λ_ _ x=>x))))
theorem zI (hx:Y.xe=λ_ _=>False)(hc:Y.calm=true)(hi:PI Y tg iter wi)(hg:PG Y tg g)(ht:PTs Y ifs tt)(he:PE Y elt te)
  (hs:∀x,foldedSetIterable iter Y.env x=pure x:=by intro _;rfl):
  PB Y (rA (.ListComp elt [g1,⟨tg,iter,ifs,0⟩] scope pos) iter (.ref l) Y.env) (kK wi g tt (eJ l te)):=by
 intro pins s σ H Q Q' k I h hk;unfold rA;refine zjZ (thn (iO (hi pins s σ H _ I h) hx) λv s1 h1=> ?_);refine zjZ (wpAny_standAt (zjZ (wpAny_of_eq (hs v) (zjZ (wpAny_holding (thn (iO h1 hx) λitv s2 h2=> ?_))))));obtain⟨it,fp,tn,J,H2,e,I2,T,st2,f2,q2⟩:=h2;subst e;have L:codeAny (model Y.prog Y.w) Y.A (.compLoop (.ListComp elt [g1,⟨tg,iter,ifs,0⟩] scope pos) 1 (.ref it) (.ref l) Y.env) (λr s'=>r= .ok .next/\∃σ' H',Inv Y pins σ' H' s'/\Q σ' H') s2:=
  kR hx hc (A58 ..) hg ht (sN hx he) I2 T st2 f2 q2
 refine zjZ (wpAny_runOwn (codeAny_mono (A5i L (T.self _ _ _ _ _ st2 L)) λr s3 h3=> ?_));obtain⟨rfl,σ3,H3,I3,q3⟩:=h3;exact hk σ3 H3 s3 I3 q3
end
section
end
end L2
namespace PySem
open Sem (wp)
open AutoSeq1 (wpAny_loadPart')
section
theorem A85 (hit:s.heap.IsTupleIter it l i)
  (hl:s.heap.IsTuple l items)(hx:items[i]?=some x)
  (hQ:∀h',h'.IsTupleIter it l (i+1)->Heap.SameBut it s.heap h'->Q x {s with heap:=h'}):
  wpAny (model prog w) A (Builtin.SmallTypes.nextOf (.ref it)) Q E s:=by
 obtain⟨o,ho,hc,hd⟩:=id hit;obtain⟨ol,hol,_,nl,hdl⟩:=hl;unfold Builtin.SmallTypes.nextOf;refine zjZ (wpAny_callSpecial?_slot (name:=Str.ofString "__next__") hit.typeIs F.slot_tuple_iterator_next
  (wpAny_call_entry F.slot_tuple_iterator_next hit.typeIs F.entry_tuple_iterator_next ?_ (F.args_tuple_iterator_next_1 _)))
 show wpAny _ _ (field (.ref it) 0>>=_) _ _ s;refine zjZ (wpAny_field ho hd (x:=.ref l) rfl ?_);show wpAny _ _ (if (Value.ref l==Value.none)=true then _ else _) _ _ s;rw[if_neg (show¬((Value.ref l==Value.none)=true)from Bool.false_ne_true)];show wpAny _ _ (field (.ref it) 1>>=_) _ _ s;refine zjZ (wpAny_field ho hd (x:=.int i 0) rfl ?_);show wpAny _ _ (seqItems? (.ref l)>>=_) _ _ s;refine zjZ (wpAny_seqItems hol hdl ?_);simp only[Int.toNat_natCast,hx];refine zjZ (wpAny_setField ho hd (by simp) (zjY ⟨x,rfl,zjY (hQ _ ?_ (Heap.SameBut.update ..))⟩));exact⟨_,get?_update_self _ ho (Obj.isFreed_of_fields (Obj.data_mapFields hd _)),(Obj.cls_mapFields ..).trans hc,by
  rw[Obj.data_mapFields hd];simp[rawInt]⟩
theorem A9f (hh:A.handled=none)
  (hit:s.heap.IsTupleIter it l i)(hl:s.heap.IsTuple l items)(hx:items[i]?=none)
  (hE:∀h' e,Heap.ExtBut it s.heap h'->(∃o,h'.get? e=some o/\o.cls= .type "StopIteration")->E (.ref e) {s with heap:=h'}):
  wpAny (model prog w) A (Builtin.SmallTypes.nextOf (.ref it)) Q E s:=by
 obtain⟨o,ho,hc,hd⟩:=id hit;obtain⟨ol,hol,_,nl,hdl⟩:=hl;unfold Builtin.SmallTypes.nextOf;refine zjZ (wpAny_callSpecial?_slot (name:=Str.ofString "__next__") hit.typeIs F.slot_tuple_iterator_next
  (wpAny_call_entry F.slot_tuple_iterator_next hit.typeIs F.entry_tuple_iterator_next ?_ (F.args_tuple_iterator_next_1 _)))
 show wpAny _ _ (field (.ref it) 0>>=_) _ _ s;refine zjZ (wpAny_field ho hd (x:=.ref l) rfl ?_);show wpAny _ _ (if (Value.ref l==Value.none)=true then _ else _) _ _ s;rw[if_neg (show¬((Value.ref l==Value.none)=true)from Bool.false_ne_true)];show wpAny _ _ (field (.ref it) 1>>=_) _ _ s;refine zjZ (wpAny_field ho hd (x:=.int i 0) rfl ?_);show wpAny _ _ (seqItems? (.ref l)>>=_) _ _ s;refine zjZ (wpAny_seqItems hol hdl ?_);simp only[Int.toNat_natCast,hx];refine zjZ (wpAny_rule (zjZ (wpAny_setField ho hd (by simp) ?_)));show wpAny _ _ (newExc (.type "StopIteration") []>>=_) _ _ _;refine zjZ ?_;simp only[newExc,newTuple];refine zjZ (wpAny_newObj_type ?_ (by size_fits));refine zjZ (m:=firstArgMember _ _) (wpAny_of_eq (a:=Value.none) (by first|rfl| (simp only[firstArgMember];rfl)) ?_);refine wpAny_newObj_type ?_ (by size_fits);simp only[raiseNew];refine zjZ (wpAny_handled ?_)
 first|rw[show A.in1.handled=none from hh]|rw[hh]
 refine zjZ (zjY (wpAny_throw ?_));exact hE _ _ (((Heap.SameBut.update ..).extBut.push _).push _) ⟨_,get?_push_size _ rfl,rfl⟩
end
theorem Draws.tuple (hh:A.handled=none)(it l:Addr)(hne:l≠it)(items:Array Value):
  Draws prog w A it [it,l] items.size (λi v=>items[i]?=some v) (λi h=>h.IsTupleIter it l i/\h.IsTuple l items)where
 live:=λ_ _ st=>let ⟨o,ho,_⟩:=st.1;⟨o,ho⟩
 frame:=λ_ _ _ st hk=> ⟨st.1.at λo e=>hk it (by simp) o e,let ⟨o,ho,r⟩:=st.2;⟨o,hk l (by simp) o ho,r⟩⟩
 item:=λi s Q E hi st hQ=>by
  refine A85 st.1 st.2 (x:=items[i]) (by simp[hi]) λh' hit' hs'=> ?_;exact hQ _ h' s.toks (by simp[hi]) ⟨hit',let ⟨o,ho,r⟩:=st.2;⟨o,(hs'.2 l hne).trans ho,r⟩⟩ hs'
 done:=λs Q E st hE=>A9f hh st.1 st.2 (by simp) hE
theorem B0o (l:Addr)(items:Array Value)(n:Nat)(dct:Option Addr)(sl:Array (Option Value)):
  Meets (Builtin.«enumerate.__new__» ⟨[.type "enumerate",.ref l],[]⟩) (λ_ R s=>s.heap.get? l=some {cls:=.type "tuple",dict:=dct,data:=.seq items n,slots:=sl}/\
   R (.ok (.ret (.ref (s.heap.push {cls:=.type "tuple_iterator",data:=.fields #[.ref l,.int 0 0]}).objs.size)))
    {s with heap:=(s.heap.push {cls:=.type "tuple_iterator",data:=.fields #[.ref l,.int 0 0]}).push {cls:=.type "enumerate",data:=.fields #[.none,.bool false,.ref s.heap.objs.size,rawInt 0,.none,.none]}}):=
 .of_wp λprog w A R s h=>by
  obtain⟨hp,g,d,tk,os⟩:=s;obtain⟨hl,h⟩:=h;have hsub:=sub_enumerate;have hL:Heap.IsTuple (Shared.heap ⟨hp,g,d,tk,os⟩) l items:=⟨_,hl,rfl,n,rfl⟩
  wp_walk using wpAny_loadPart' hl
  refine wpAny_stack_any λst=>zjY ?_
  split
  ·rename_i c _ _ _ _ _;cases (c==Value.type "enumerate")
   ·wp_walk using wpAny_loadPart' hl,wpAny_pyIter_tuple hL
    exact⟨_,rfl,h⟩
   ·wp_walk using wpAny_loadPart' hl,wpAny_pyIter_tuple hL
    exact⟨_,rfl,h⟩
  ·wp_walk using wpAny_loadPart' hl,wpAny_pyIter_tuple hL
   exact⟨_,rfl,h⟩
section
theorem A9t (hL:s.heap.IsTuple l items)
  (h:∀h',IsEnum h' (s.heap.objs.size+1) s.heap.objs.size 0 .none->h'.IsTupleIter s.heap.objs.size l 0->h'.objs.size=s.heap.objs.size+2->
   (∀b o,s.heap.get? b=some o->h'.get? b=some o)->Q (.ref (s.heap.objs.size+1)) {s with heap:=h'}):
  wpAny (model prog w) A (call (.type "enumerate") [.ref l]) Q E s:=by
 obtain⟨⟨c,dct,dt,sl⟩,hl,hc,n,hd⟩:=hL;replace hc:c= .type "tuple":=hc;replace hd:dt= .seq items n:=hd;subst hc hd;refine callType_new F.called_enumerate (by decide) (F.typeCall_enumerate_1 _) (F.newCall_enumerate_1 _) (λobj=>F.args_object_init_2 obj _) F.entry_enumerate_new
  (B0o l items n dct sl) ⟨hl,?_⟩
 have hz:(s.heap.push {cls:=.type "tuple_iterator",data:=.fields #[.ref l,.int 0 0]}).objs.size=s.heap.objs.size+1:=size_push ..;show _/\_;rw[hz];have he:IsEnum ((s.heap.push {cls:=.type "tuple_iterator",data:=.fields #[.ref l,.int 0 0]}).push
   {cls:=.type "enumerate",data:=.fields #[.none,.bool false,.ref s.heap.objs.size,rawInt 0,.none,.none]}) (s.heap.objs.size+1) s.heap.objs.size 0 .none:=by
  have:=get?_push_size (s.heap.push {cls:=.type "tuple_iterator",data:=.fields #[.ref l,.int 0 0]})
   (o:={cls:=.type "enumerate",data:=.fields #[.none,.bool false,.ref s.heap.objs.size,rawInt 0,.none,.none]}) rfl
  rw[hz]at this;exact this
 refine⟨⟨_,he,rfl⟩,h _ he ⟨_,zjX _ (get?_push_size _ rfl),rfl,rfl⟩ (by rw[size_push,hz]) λb o x=>zjX _ (zjX _ x)⟩
end
open Builtin
open AutoSeq1 (wpAny_loadPart')
namespace F
end F
section
end
end PySem
namespace PySem
open Sem (wp)
open Builtin
open AutoSeq1 (wpAny_loadPart')
section
variable {prog:Program}{w:World}{K:Type} [DecidableEq K]{knd:KeyKind prog w K}{A:Around}{E:Value->Shared->Prop}{R:Result->Shared->Prop}
end
end PySem
namespace L2
open PySem PySem.Spec PyProof.Rows
section
theorem iT:eD X (.builtin "isinstance") (λxs H Q=> ∃x T t b,xs=[x,.ty T]/\TyOf X.K H x t/\W.kitOne X.K t (.type T)=some b/\Q (.bl b) H):=by intro pins s σ H xs us Q I r h;obtain⟨x,T,t,b,rfl,ty,e,q⟩:=h;obtain⟨u,w',rfl,rx,rT⟩:=kE r;cases (show w'=Value.type T from rT);exact B1q I rx ty e λtk=> ⟨.bl b,H,I.tok _,rfl,q⟩
theorem tH:∀{bs:List Bool}{us:List Value},Vals (bs.map V.bl) us->LSm.BoolsAre us bs
 | [],_,.nil=> .nil
 |b::bs,_,.cons r t=>by
  cases (show _=Value.bool b from r);exact .cons b (tH t)
end
section
theorem fL (hc:X.calm=true):eD X (.builtin "all") (λxs H Q=> ∃(p:Addr)(bs:List Bool),xs=[.ref p]/\SqL X.K H p (bs.map V.bl)/\Q (.bl (bs.all id)) H):=by
 intro pins s σ H xs us Q I r h;obtain⟨p,bs,rfl,hq,q⟩:=h;obtain⟨u,rfl,rx⟩:=eZ r;cases rx;obtain⟨its,rv,pl,hz⟩:=I.list hq;have hb:=tH rv;have hlt:p<s.heap.objs.size:=by obtain⟨_,e,_⟩:=pl.isList;exact zjT e
 refine call_all_walk (wpAny_pyIter_list pl.isList ?_);refine⟨s.heap.objs.size,[s.heap.objs.size,p],[s.heap.objs.size],its.toArray.size,_,_,λi=>(bs[i]?).getD true,rfl,Walks.list (A:=X.A.in1) (by simp[I.ok.hd hc]) _ p (ne_of_lt hlt) its.toArray,⟨⟨_,get?_push_size _ rfl,rfl,rfl⟩,pl.isList.push _⟩,λi v s' Q' E' hP hQ=> ?_,λh' tk hk=> ?_⟩
 ·obtain⟨b,e,rfl⟩:=hb.get i v (by simpa using hP);dsimp only at hQ;rw[e]at hQ;exact wpAny_truthy_bool hQ
 ·have e:((List.range its.toArray.size).all λi=>(bs[i]?).getD true)=bs.all id:=by rw[size_toArray,hb.length,LSm.range_all]
  rw[e];exact⟨.bl _,H,I.kept (h':=h') (t':=tk) (LSm.kept_iter hk),rfl,q⟩
theorem rN (hc:X.calm=true):eD X (.builtin "any") (λxs H Q=> ∃(p:Addr)(bs:List Bool),xs=[.ref p]/\SqL X.K H p (bs.map V.bl)/\Q (.bl (bs.any id)) H):=by
 intro pins s σ H xs us Q I r h;obtain⟨p,bs,rfl,hq,q⟩:=h;obtain⟨u,rfl,rx⟩:=eZ r;cases rx;obtain⟨its,rv,pl,hz⟩:=I.list hq;have hb:=tH rv;have hlt:p<s.heap.objs.size:=by obtain⟨_,e,_⟩:=pl.isList;exact zjT e
 refine call_any_walk (wpAny_pyIter_list pl.isList ?_);refine⟨s.heap.objs.size,[s.heap.objs.size,p],[s.heap.objs.size],its.toArray.size,_,_,λi=>(bs[i]?).getD false,rfl,Walks.list (A:=X.A.in1) (by simp[I.ok.hd hc]) _ p (ne_of_lt hlt) its.toArray,⟨⟨_,get?_push_size _ rfl,rfl,rfl⟩,pl.isList.push _⟩,λi v s' Q' E' hP hQ=> ?_,λh' tk hk=> ?_⟩
 ·obtain⟨b,e,rfl⟩:=hb.get i v (by simpa using hP);dsimp only at hQ;rw[e]at hQ;exact wpAny_truthy_bool hQ
 ·have e:((List.range its.toArray.size).any λi=>(bs[i]?).getD false)=bs.any id:=by rw[size_toArray,hb.length,LSm.range_any]
  rw[e];exact⟨.bl _,H,I.kept (h':=h') (t':=tk) (LSm.kept_iter hk),rfl,q⟩
theorem Inv.turnedL {fp:List Addr}{h':Heap}{t':Nat}(I:Inv X pins σ H s)(k:∀b o,b∉fp->s.heap.get? b=some o->h'.get? b=some o)(hf:∀b∈fp,fO X pins H b):Inv X pins σ H {s with heap:=h',toks:=t'}:=by
 have nfp:∀b u,H b=some u->b∉fp:=λb u e z=>by rw[(hf b z).1]at e;cases e
 refine I.step (g':=s.gens) (d':=s.drawn) (ch:=fp) (λb hb=> ⟨(hf b hb).2.2.2.1,(hf b hb).2.1,(hf b hb).2.2.2.2.1,(hf b hb).2.2.2.2.2⟩) (λb o _ _ hc e _=>k b o hc e) (λb o _ _ hc e _=> ⟨o.slots,k b o hc e⟩) (λ_ _ _ _ n=>n) (λb o hc e=> ⟨o,k b o hc e⟩)
  (λ_ _ e=>e) (λ_ _ _ e=>e) (λb ps e=> ⟨#[],by rw[e];simp⟩) (λm hm=> ?_) (λb u e=> ?_) I.bare
 ·obtain⟨o,es,ep,ho,r⟩:=hm;exact⟨o,es,ep,k _ o (λz=>(hf _ z).2.1 rfl) ho,r⟩
 ·refine(I.hok b u e).stay (λc v hc q=>k c v ?_ q) (λ_ q=>q) λ_ _ q=>q;rcases hc with z|z
  ·rw[z];exact nfp b u e
  ·exact nfp c _ z
theorem Inv.turnLaid {fp:List Addr}{h':Heap}{t':Nat}{p:Addr}{o:HO}(I:Inv X pins σ H s)(k:∀b u,b∉fp->s.heap.get? b=some u->h'.get? b=some u)(hf:∀b∈fp,fO X pins H b)(hp:s.heap.objs.size<=p)
  (new:ObjOk X.prog X.w (upd H p o) h' p o):Inv X pins σ (upd H p o) {s with heap:=h',toks:=t'}:=by
 have nfp:∀b u,H b=some u->b∉fp:=λb u e z=>by rw[(hf b z).1]at e;cases e
 have hn:=I.hok.fresh hp;have old:∀{b:Addr}{u:Obj},s.heap.get? b=some u->b≠p:=λe=>ne_of_lt (lt_of_lt_of_le (zjT e) hp);refine I.step (g':=s.gens) (d':=s.drawn) (ch:=fp) (λb hb=> ⟨(hf b hb).2.2.2.1,(hf b hb).2.1,(hf b hb).2.2.2.2.1,(hf b hb).2.2.2.2.2⟩) (λb o _ _ hc e _=>k b o hc e) (λb o _ _ hc e _=> ⟨o.slots,k b o hc e⟩) (λb o _ e n=>by rw[aY (old e)];exact n) (λb o hc e=> ⟨o,k b o hc e⟩)
  (λb xs e=>by rw[aY (bH e hn)];exact e) (λb u xs e=>by rw[aY (bH e hn)];exact e) (λb ps e=> ⟨#[],by rw[aY (bH e hn),e];simp⟩) (λm hm=> ?_) (λb u e=> ?_) I.bare
 ·obtain⟨o,es,ep,ho,r⟩:=hm;exact⟨o,es,ep,k _ o (λz=>(hf _ z).2.1 rfl) ho,r⟩
 ·by_cases hb:b=p
  ·subst hb;rw[aJ]at e;cases e;exact new
  ·rw[aY hb]at e;refine(I.hok b u e).stay (λc v hc q=>k c v ?_ q) (λc q=>by rw[aY (bH q hn)];exact q) λc xs q=>by rw[aY (bH q hn)];exact q
   rcases hc with z|z
   ·rw[z];exact nfp b u e
   ·exact nfp c _ z
noncomputable def Ite (S:Hp->List V->Prop):It:=
 ⟨λi H=> ∃xs x,S H xs/\xs[i]?=some x,λi H x H'=> ∃p y,x= .ref p/\H p=none/\H'=upd H p (.tup [.int i,y])/\∀xs,S H xs->xs[i]?=some y,λi H=> ∃xs,S H xs/\xs.length=i⟩
theorem A7f {P:Program}{w:World}{K:W.Frag}{es:List Expr}{x1}{pos:Pos}(e it a:Addr)(hei:e≠it):
  hJ P w K (.Tuple es x1 pos) (Ite λH xs=>SqT K H a xs) [e,it] e (λi h=>(∃old,IsEnum h e it i old)/\h.IsTupleIter it a i/\a≠it/\a≠e)where
 mem:=by simp
 obj:=λi h st b hb=>by
  obtain⟨⟨old,he⟩,⟨o,e1,c,d⟩,_⟩:=st;rcases mem_cons.mp hb with z|z
  ·subst z;exact⟨_,he,λv z=>by cases z⟩
  ·have z':=mem_singleton.mp z;subst z';exact⟨o,e1,λv z=>by rw[d]at z;cases z⟩
 keep:=λi h h' st k=> ⟨let ⟨old,he⟩:=st.1;⟨old,k e (by simp) _ he⟩,st.2.1.at λo q=>k it (by simp) o q,st.2.2⟩
 item:=by
  intro X hP hw hK hc i pins s σ H E I hf st hg;subst hP hw hK;obtain⟨⟨old,he⟩,hit,hai,hae⟩:=st;obtain⟨xs,x,hq,hx⟩:=hg;obtain⟨its,rv,p,hz⟩:=I.tuple hq;obtain⟨u,hu,ru⟩:=rv.get hx;have hlt:i<its.toArray.size:=by
   rw[size_toArray];exact(zjW.mp hu).1
  refine wpAny_pyNext_enum_itemD (Draws.tuple (A:=X.A.in1) (by simp[I.ok.hd hc]) it a hai its.toArray) he ⟨hit,p⟩ hlt hei (by simp[hei,Ne.symm hae]) λv h' tk hv ho hst' hT hsz hk=> ?_;have hv':v=u:=by
   have e1:its[i]?=some v:=by simpa using hv
   rw[hu]at e1;exact(Option.some.inj e1).symm
  subst hv';refine⟨_,rfl,wpAny_letOwnedTupleGo_enum (s:={s with heap:=h',toks:=tk+1}) ho λh2 he2 hs2=> ?_⟩;have helt:e<s.heap.objs.size:=zjT he;have hilt:it<s.heap.objs.size:=by obtain⟨_,q,_⟩:=hit;exact zjT q
  have hTe:s.heap.objs.size≠e:=ne_of_gt helt;have hn:H s.heap.objs.size=none:=I.hok.fresh (zjQ _);have kp:∀b o,b∉[e,it]->s.heap.get? b=some o->h2.get? b=some o:=λb o hb q=>by
   have hbe:b≠e:=λz=>hb (by simp[z]);have hbi:b≠it:=λz=>hb (by simp[z]);exact(hs2.2 b hbe).trans (hk b o hbe hbi q)
  have hT2:h2.get? s.heap.objs.size=some {cls:=.type "tuple",data:=.seq #[.int i tk,v]}:=(hs2.2 _ hTe).trans hT;have I2:Inv X pins σ (upd H s.heap.objs.size (.tup [.int i,x])) {s with heap:=h2,toks:=tk+1}:=I.turnLaid (fp:=[e,it]) kp hf (zjQ _) ⟨by show 2<=sizeLine;rw[sizeLine_eq];decide,[.int i tk,v],.cons ⟨_,rfl⟩ (.cons ru .nil),⟨_,hT2,rfl,_,rfl⟩⟩;refine⟨.ref s.heap.objs.size,_,I2,rfl,⟨s.heap.objs.size,x,rfl,hn,rfl,λys hy=>by rw[I.tuple_inj hy hq];exact hx⟩,⟨⟨_,by simpa using he2⟩,hst'.1.at λo q=>(hs2.2 it hei.symm).trans q,hai,hae⟩,λb hb=> ?_⟩;have hbz:b≠s.heap.objs.size:=by
   rcases mem_cons.mp hb with z|z
   ·rw[z];exact ne_of_lt helt
   ·rw[mem_singleton.mp z];exact ne_of_lt hilt
  rw[aY hbz];exact(hf b hb).1
 done:=by
  intro X hP hw hK hc i pins s σ H E I hf st hg;subst hP hw hK;obtain⟨⟨old,he⟩,hit,hai,hae⟩:=st;obtain⟨xs,hq,hx⟩:=hg;obtain⟨its,rv,p,hz⟩:=I.tuple hq;have hl:=rv.length;have hi:its.toArray.size=i:=by rw[size_toArray,←hl,hx]
  refine wpAny_pyNext_enum_endD (Draws.tuple (A:=X.A.in1) (by simp[I.ok.hd hc]) it a hai its.toArray) he (by rw[hi];exact⟨hit,p⟩) λh' hs'=> ⟨rfl,?_⟩;exact I.turned (it:=it) (t':=s.toks) (λb o hb q=>hs' b o hb q) (hf it (by simp)).1 (hf it (by simp)).2.1 (hf it (by simp)).2.2.2.1 (hf it (by simp)).2.2.2.2.1 (hf it (by simp)).2.2.2.2.2
 self:=λ_ _ _ _ _ st h=>let ⟨old,he⟩:=st.1;wpAny_pyIter_enum he h
noncomputable def wC (K:W.Frag)(ta:TA):TI:=λσ H R=>ta σ H λvs H1=> ∃a xs,vs=[.ref a]/\SqT K H1 a xs/\R (Ite λH xs=>SqT K H a xs) H1
theorem iB {a:Expr}{ta:TA}{p pos:Pos}{es:List Expr}{x1}{tpos:Pos}(hc:X.calm=true)(hg:Gl X "enumerate")(hm:X.mg "enumerate" =none)(ha:PA X [a] ta)(hs:starEach [a] X.env=[(false,eval a X.env)]:=by rfl):
  PI X (.Tuple es x1 tpos) (.Call (.Name "enumerate" p) [a] [] pos) (wC X.K ta):=by
 intro pins s σ H R I h;refine Call_ (jB I hg hm boot_enumerate (PyProof.Rows.callWith_type1 (thn (ha pos pins s σ H _ I h) λus s1 ⟨vs,H1,I1,r1,q1⟩=> ?_) hs rfl));obtain⟨b,xs,e,hq,q⟩:=q1;subst e;obtain⟨u,rfl,rx⟩:=eZ r1;cases rx;obtain⟨its,rv,pt,hz⟩:=I1.tuple hq;have hblt:b<s1.heap.objs.size:=by obtain⟨o,ho,_⟩:=id pt;exact zjT ho
 refine A9t pt λh' he hit hsz hk=> ?_;refine wpAny_pyIter_enum (s:={s1 with heap:=h'}) he ?_;have I2:Inv X pins σ H1 {s1 with heap:=h'}:=I1.kept (t':=s1.toks) hk;refine⟨s1.heap.objs.size+1,[s1.heap.objs.size+1,s1.heap.objs.size],_,_,H1,rfl,I2,A7f _ _ b (Nat.succ_ne_self _),⟨⟨_,he⟩,hit,ne_of_lt hblt,ne_of_lt (lt_succ_of_lt hblt)⟩,λc hc'=> ?_,q⟩;have hge:s1.heap.objs.size<=c:=by
  rcases mem_cons.mp hc' with z|z
  ·rw[z];exact le_succ _
  ·rw[mem_singleton.mp z];exact zjQ _
 exact I1.fpOk hge (I1.hok.fresh hge)
theorem jF (Pv:Nat->St->Hp->Prop)(h0:Pv 0 σ H)(hl:∀i σ H,i<=xs.length->Pv i σ H->S H xs)
  (hs:∀i x p σ H,xs[i]?=some x->Pv i σ H->H p=none->g (.ref p) σ (upd H p (.tup [.int i,x])) λσ2 H2=>tb {D with nx:=Pv (i+1),ct:=Pv (i+1),bk:=D.nx} σ2 H2)(hd:∀σ H,Pv xs.length σ H->D.nx σ H):
  eA (Ite S) g tb D σ H:=by
 refine⟨λi m σ H=>m=xs.length - i/\i<=xs.length/\Pv i σ H,⟨xs.length,by simp,zero_le _,h0⟩,?_⟩;rintro i m σ H ⟨rfl,hi,p⟩;have q:=hl i σ H hi p;by_cases hlt:i<xs.length
 ·refine .inr ⟨⟨xs,xs[i],q,by simp[hlt]⟩,Pv (i+1),λσ' H' p'=> ⟨xs.length -(i+1),by omega,rfl,hlt,p'⟩,λx H' y=> ?_⟩;obtain⟨pp,yy,e1,e2,e3,e4⟩:=y;subst e1 e3;exact hs i yy pp σ H (e4 xs q) p e2
 ·have e:i=xs.length:=by omega
  subst e;exact .inl ⟨⟨xs,q,rfl⟩,hd σ H p⟩
end
section
noncomputable def NewTup (H:Hp)(ys:List V)(Q:VK):Prop:=∀p H',Same H H'->H' p=some (.tup ys)->Q (.ref p) H'
theorem aQ (h:H p=none):Same H (upd H p o):=λb u e=>by rw[aY (bH e h)];exact e
theorem NewTup.new (h:NewTup H ys Q)(hp:H p=none):Q (.ref p) (upd H p (.tup ys)):=h p _ (aQ hp) aJ
theorem NewTup.old (h:NewTup H ys Q)(hp:H p=some (.tup ys)):Q (.ref p) H:=h p H (Same.refl H) hp
theorem Inv.newTup (I:Inv X pins σ H s)(r:Vals ys its)(hz:ys.length<=sizeLine)(h:NewTup H ys Q):EP X pins σ Q (.ref s.heap.objs.size) {s with heap:=s.heap.push {cls:=.type "tuple",data:=.seq its.toArray}}:=
 ⟨.ref s.heap.objs.size,_,I.laid (t':=s.toks) (o:=.tup ys) (λb ob q=>zjX _ q) (zjQ _) ⟨hz,_,r,IsTup.new _ _⟩,rfl,h.new (I.hok.fresh (zjQ _))⟩
noncomputable def B0y:R2:=λx y H Q=> ∃a b xs ys,x= .ref a/\y= .ref b/\H a=some (.tup xs)/\H b=some (.tup ys)/\xs.length+ys.length<=sizeLine/\NewTup H (xs++ys) Q
theorem A2w:OpR X (binaryOp .Add) B0y:=by
 intro pins s σ H x y v u Q I rx ry h;obtain⟨a,b,xs,ys,rfl,rfl,ha,hb,hz,q⟩:=h;cases rx;cases ry;obtain⟨its,r1,p1,_⟩:=I.tuple (SqT.of ha);obtain⟨its2,r2,p2,_⟩:=I.tuple (SqT.of hb);by_cases hx:xs=[]
 ·subst hx;cases r1;obtain⟨⟨c1,d1,t1,l1⟩,ho,hc,n,hd⟩:=id p1;obtain⟨⟨c2,d2,t2,l2⟩,ho2,hc2,n2,hd2⟩:=id p2;simp only at hc hd hc2 hd2;subst hc hd hc2 hd2;exact concat_meets ⟨_,ho,rfl⟩ ⟨_,ho2,rfl⟩ noFill_tuple_add seq_tuple_add PySem.F.slot_tuple_add PySem.F.entry_tuple_add (PySem.F.args_tuple_add_2 _ _) (tuple_addW0 a b _ _ n n2 d1 d2 l1 l2 (by simp)) ⟨ho,ho2,.ref b,H,I,rfl,q.old hb⟩
 ·refine HT.cat_tup p1 p2 (λz=>hx (r1.nil_iff.mp z)) (λz=> ⟨.ref a,H,I,rfl,?_⟩) (λz=>I.newTup (r1.append r2) (by rw[length_append];exact hz) q) (by rw[←r1.length,←r2.length];exact hz);have:ys=[]:=r2.nil_iff.mp z;subst this;rw[append_nil]at q;exact q.old ha
end
section
end
noncomputable def Kn (H:Hp):Nat->V->Prop
 |0,_=>True
 |n+1,v=>match v with
  | .non=>True
  | .bl _=>True
  | .int _=>True
  | .str _=>True
  | .ref a=>(∃xs,H a=some (.lst xs))\/(∃kvs,H a=some (.dK kvs))\/ ∃xs,H a=some (.tup xs)/\xs.length<=1000/\∀x∈xs,Kn H n x
  |_=>False
noncomputable def KnA (H:Hp)(v:V):Prop:=∀n,Kn H n v
structure Ext (H H':Hp):Prop where
 tup:∀a xs,H a=some (.tup xs)->H' a=some (.tup xs)
 lst:∀a xs,H a=some (.lst xs)->∃ys,H' a=some (.lst ys)
 dct:∀a kvs,H a=some (.dK kvs)->H' a=some (.dK kvs)
theorem Ext.trans (a:Ext H H1)(b:Ext H1 H2):Ext H H2:=⟨λ_ _ h=>b.tup _ _ (a.tup _ _ h),λ_ _ h=>let ⟨_,e⟩:=a.lst _ _ h;b.lst _ _ e,λ_ _ h=>b.dct _ _ (a.dct _ _ h)⟩
theorem Same.ext (s:Same H H'):Ext H H':=⟨λ_ _ h=>s _ _ h,λ_ xs h=> ⟨xs,s _ _ h⟩,λ_ _ h=>s _ _ h⟩
theorem Kn.le:∀{n m:Nat}{v:V},n<=m->Kn H m v->Kn H n v
 |0,_,_,_,_=>True.intro
 |n+1,0,_,h,_=>absurd h (by omega)
 |n+1,m+1,v,h,k=>by
  cases v with
  |ref a=>
   rcases k with⟨xs,k⟩| ⟨kvs,k⟩| ⟨xs,k,hl,hx⟩
   ·exact .inl ⟨xs,k⟩
   ·exact .inr (.inl ⟨kvs,k⟩)
   ·exact .inr (.inr ⟨xs,k,hl,λx hm=>Kn.le (by omega) (hx x hm)⟩)
  |_=>exact k
theorem KnA.int (i:Int):KnA H (.int i):=λn=>by cases n<;>exact True.intro
theorem KnA.tup (h:H a=some (.tup xs))(hl:xs.length<=1000)(hx:∀x∈xs,KnA H x):KnA H (.ref a):=λn=>by
 cases n with
 |zero=>exact True.intro
 |succ n=>exact .inr (.inr ⟨xs,h,hl,λx hm=>hx x hm n⟩)
noncomputable def isInt:V->Bool| .int _=>true|_=>false
noncomputable def rB:V->Bool| .bl _=>true|_=>false
noncomputable def fI (H:Hp):V->Option (List V)
 | .ref a=>match H a with|some (.tup xs)=>some xs|_=>none
 |_=>none
theorem iI (h:H a=some (.tup xs)):fI H (.ref a)=some xs:=by simp[fI,h]
theorem A4h (h:fI H v=some xs):∃a,v= .ref a/\H a=some (.tup xs):=by
 cases v with
 |ref a=>
  unfold fI at h;cases e:H a with
  |none=>simp[e]at h
  |some o=>cases o<;>simp[e]at h;subst h;exact⟨a,rfl,e⟩
 |_=>simp[fI]at h
section
variable {K:W.Frag}
theorem wR {H:Hp}{v:V}(k:Kn H 1 v):∃t,TyOf K H v t/\W.kitOne K t (.type "int")=some (isInt v||rB v)/\W.kitOne K t (.type "bool")=some (rB v)/\W.kitOne K t (.type "tuple")=some (fI H v).isSome:=by
 cases v with
 |non=>exact⟨_,.non,by kernel_rfl,by kernel_rfl,by kernel_rfl⟩
 |bl b=>exact⟨_,.bl b,by kernel_rfl,by kernel_rfl,by kernel_rfl⟩
 |int i=>exact⟨_,.int i,by kernel_rfl,by kernel_rfl,by kernel_rfl⟩
 |str x=>exact⟨_,.str x,by kernel_rfl,by kernel_rfl,by kernel_rfl⟩
 |ref a=>
  rcases k with⟨xs,k⟩| ⟨kvs,k⟩| ⟨xs,k,hl,hx⟩
  ·refine⟨_,.lst k,by kernel_rfl,by kernel_rfl,?_⟩;have:(fI H (.ref a)).isSome=false:=by simp[fI,k]
   rw[this];kernel_rfl
  ·refine⟨_,.dK k,by kernel_rfl,by kernel_rfl,?_⟩;have:(fI H (.ref a)).isSome=false:=by simp[fI,k]
   rw[this];kernel_rfl
  ·refine⟨_,.tup k,by kernel_rfl,by kernel_rfl,?_⟩;have:(fI H (.ref a)).isSome=true:=by simp[fI,k]
   rw[this];kernel_rfl
 |_=>exact(show False from k).elim
end
noncomputable def dU (lo hi:Int):V->Bool| .int i=>decide (lo<=i)&&decide (i<=hi)|_=>false
noncomputable def PenAt (H:Hp)(p:Addr):Prop:=∃x f:Int,H p=some (.lst [.int x,.int f])
structure Stp (p:Addr)(H H':Hp):Prop where
 pen:PenAt H' p
 keep:∀b o,b≠p->H b=some o->H' b=some o
theorem Stp.refl (h:PenAt H p):Stp p H H:=⟨h,λ_ _ _ e=>e⟩
theorem Stp.trans (a:Stp p H H1)(b:Stp p H1 H2):Stp p H H2:=⟨b.pen,λc o h e=>b.keep c o h (a.keep c o h e)⟩
theorem Stp.same (a:Stp p H H1)(s:Same H1 H2):Stp p H H2:=⟨let ⟨x,f,e⟩:=a.pen;⟨x,f,s _ _ e⟩,λb o h e=>s _ _ (a.keep b o h e)⟩
theorem PenAt.ne (h:PenAt H p)(e:H b=some o)(n:∀xs,o≠ .lst xs):b≠p:=λz=>by
 obtain⟨x,f,e2⟩:=h;rw[z,e2]at e;cases e;exact n _ rfl
theorem Stp.ext (h:PenAt H p)(s:Stp p H H'):Ext H H' where
 tup:=λa xs e=>s.keep a _ (h.ne e (by intro z;simp)) e
 lst:=λa xs e=>by
  by_cases ha:a=p
  ·obtain⟨x,f,e2⟩:=s.pen;exact⟨_,by rw[ha];exact e2⟩
  ·exact⟨xs,s.keep a _ ha e⟩
 dct:=λa kvs e=>s.keep a _ (h.ne e (by intro z;simp)) e
theorem fZ {K:W.Frag}{a l:Addr}{xs:List V}{te:TE}{H0:Hp}{rest:St}{Q:St->Hp->Prop}(f:V->V)(ha:H0 a=some (.tup xs))(hl:H0 l=none)(hz:xs.length<=1000)
  (turn:∀x H' Q',x∈xs->Same H0 H'->(∀H2,Same H' H2->Q' (f x) H2)->te (some x::rest) H' Q')(hQ:∀σ H',Same H0 H'->H' l=some (.lst (xs.map f))->Q σ H'):
  eA (Itt K a) (cT 0) (cZ gB (eJ l te)) (eC Q) (none::rest) (upd H0 l (.lst [])):=by
 have s0:Same H0 (upd H0 l (.lst [])):=aQ hl;refine gG (K:=K) (a:=a) (xs:=xs) (λi σ H'=>(∃o,σ=o::rest)/\Same H0 H'/\H' l=some (.lst ((xs.take i).map f))) ⟨⟨_,rfl⟩,s0,by rw[aJ];rfl⟩ (λi σ H' _ h=>SqT.of (h.2.1 _ _ ha)) ?_ ?_
 ·rintro i x σ H' hx ⟨⟨o,rfl⟩,hs,hl'⟩;show eJ l te (some x::rest) H' _;refine turn x H' _ (mem_of_getElem? hx) hs λH2 h2=> ?_;refine⟨_,h2 _ _ hl',?_,⟨_,rfl⟩,λb u e=> ?_,?_⟩
  ·rw[length_map,length_take];exact bW (by omega)
  ·rw[aY (bH e hl)];exact h2 _ _ (hs _ _ e)
  ·rw[aJ,take_succ,hx,map_append];rfl
 ·rintro σ H' ⟨_,hs,hl'⟩;rw[take_of_length_le (zjQ _)]at hl';exact hQ σ H' hs hl'
theorem gO (h:tb σ H D.nx):cZ gB tb D σ H:=by show(if true=true then tb σ H D.nx else D.nx σ H);exact fM h
theorem iX (h:tb (σ.set i (some v)) H D.nx):cT i v σ H (λσ2 H2=>cZ gB tb D σ2 H2):=gO h
theorem cY {b:Bool}{A B:Prop}(h1:b=true->A)(h2:b=false->B):if b=true then A else B:=by
 cases b with
 |true=>exact fM (h1 rfl)
 |false=>exact bQ (h2 rfl)
theorem dW {c:Prop} [Decidable c]{A B:Prop}(h1:c->A)(h2:¬c->B):if decide c=true then A else B:=by
 by_cases h:c
 ·rw[zjV h];exact fM (h1 h)
 ·rw[zjU h];exact bQ (h2 h)
end L2
namespace L2
open PySem PyProof.Rows
section
variable {P:Program}{w:World}{K:W.Frag}{mg:Str->Option Value}{base:Heap}{x:Str}{st:Stmt}{ps:List Str}{sp:Sp}
noncomputable def D1 (K:W.Frag)(mg:Str->Option Value)(x:Str)(st:Stmt)(ps:List Str):Prop:=∃f fd,Fun K x x st f fd/\mg x=some (.ref f)/\Binds K fd ps []
noncomputable def A1 (P:Program)(w:World)(K:W.Frag)(mg:Str->Option Value)(base:Heap)(k:Nat)(x:Str)(sp:Sp):Prop:=∃f fd ps,mg x=some (.ref f)/\W.keepIn K (.ref f)=true/\Binds K fd ps []/\FnOk P w K mg base CX0 k f fd ps sp
theorem D1.k {k:Nat}(F:D1 K mg x st ps)(N:List Str)
  (hbody:N.Nodup->∀(f:Addr)(cdv:Value)(A:Around)(outer:List Env)(s:Shared)(H:Hp)(vs:List V)(Q:VK)(E:XK),Room k (A.deeper (envOfC x (bB st) s.heap.objs.size f cdv))->sp vs H Q E->
   ∃t,PSs (dJ CX0 P w K mg base N x (bB st) f cdv A outer s H E).nox (dG st) t/\t {nx:=λ_ H'=>Q .non H',rt:=Q} (start N vs) H)
  (S:fN N ps (bB st):=by ac_rfl)
  (len:∀vs H Q E,sp vs H Q E->vs.length=ps.length:=by intro _ _ _ _ h;repeat (first|exact congrArg List.length h.1|obtain⟨_,h⟩:=h)):A1 P w K mg base (k+1) x sp:=
 let ⟨f,fd,F,m,b⟩:=F
 ⟨f,fd,ps,m,F.kp,b,F.ok S len (hbody S.nd f)⟩
theorem A1.c (a:A1 X.prog X.w X.K X.mg X.base k x sp)(hr:Room m X.A)(ha:PA X (e::es) t)(h:k<=m:=by decide)(hg:Gl X x:=by rfl)(hdb:(x==("__debug__":Str))=false:=by decide)(he:starEach (e::es) X.env=(false,eval e X.env)::starEach es X.env:=by rfl)(hpl:(backTo pos (starEach es X.env)).any (·.1)=false:=by rfl):
  PE X (.Call (.Name x p) (e::es) [] pos) (qU sp [] E0 t):=let ⟨_,_,_,m,k,b,g⟩:=a;rW g (hr.mono h) hg m k b .nil vY ha hdb he hpl
noncomputable def Fk (K:W.Frag)(x:Str)(st:Stmt):Prop:=∃f fd,W.nsIn K mainGlobals x=some (some (.ref f))/\Fun K x x st f fd
theorem A75 {f:Addr}{oc:Value}{od an:Option Addr}{osl:Array (Option Value)}{kV doc pm cdv ct:Value}(a:W.nsIn K mainGlobals x=some (some (.ref f)))(l:K.lookup f=some ⟨oc,od,.func (W.fnOf x x (iP st) (dG st) (bB st) .none kV doc pm an cdv ct),osl⟩)(c:W.codeIn K cdv x=true)(k:W.keepIn K (.ref f)=true):Fk K x st:=⟨_,_,a,A43 l c k⟩
theorem B18 {α:Type}{p:List α->Prop}(h:∀a,p [a])(us:List α)(e:us.length=1):p us:=match us,e with| [_],_=>h ..
theorem A6e {α:Type}{p:List α->Prop}(h:∀a b,p [a,b])(us:List α)(e:us.length=2):p us:=match us,e with| [_,_],_=>h ..
theorem A7r {α:Type}{p:List α->Prop}(h:∀a b c,p [a,b,c])(us:List α)(e:us.length=3):p us:=match us,e with| [_,_,_],_=>h ..
theorem A1r {α:Type}{p:List α->Prop}(h:∀a b c d,p [a,b,c,d])(us:List α)(e:us.length=4):p us:=match us,e with| [_,_,_,_],_=>h ..
theorem lP {α:Type}{p:List α->Prop}(h:∀a b c d f,p [a,b,c,d,f])(us:List α)(e:us.length=5):p us:=match us,e with| [_,_,_,_,_],_=>h ..
theorem Fk.d {h:Heap}(q:Fk K x st)(X:K.In h)(G:h.Ns mainGlobals mg)(hb:∀(kV doc pm:Value)(an:Option Addr)(cdv ct:Value)(us:List Value),us.length=ps.length->bindArgs (W.fnOf x x (iP st) (dG st) (bB st) .none kV doc pm an cdv ct) ⟨us,[]⟩=pure (ps.zip us):=by first|exact λ_ _ _ _ _ _=>B18 λ_=>rfl|exact λ_ _ _ _ _ _=>A6e λ_ _=>rfl|exact λ_ _ _ _ _ _=>A7r λ_ _ _=>rfl):D1 K mg x st ps:=let ⟨f,fd,a,F⟩:=q;⟨f,fd,F,W.mg_of X G a,F.binds hb⟩
theorem Fk.law {h:Heap}{y:Str}{fa:Addr}(q:Fk K x st)(X:K.In h)(G:h.Ns mainGlobals mg)(hfa:mg x=some (.ref fa))(hb:∀(kV doc pm:Value)(an:Option Addr)(cdv ct:Value)(u:Value),bindArgs (W.fnOf x x (iP st) (dG st) (bB st) .none kV doc pm an cdv ct) ⟨[u],[]⟩=pure [(y,u)]):∃fd,Fun K x x st fa fd/\∀(s:Shared)(v:Value),BindsTo s fd ⟨[v],[]⟩ [(y,v)]:=by obtain⟨f,fd,a,F⟩:=q;have e2:=hfa.symm.trans (W.mg_of X G a);cases e2;obtain⟨oc,od,kV,doc,pm,an,cdv,ct,osl,rfl,lk,hcd⟩:=F.ex;exact⟨_,F,λs v=> .of_eq (hb _ _ _ _ _ _ _)⟩
end
end L2
namespace L2
open PySem PySem.Spec PyProof.Rows
section
end
section
end
section
end
noncomputable def iJ (ns:List (Str×NameKind))(N:List Str)(scope:Scope)(frees:List (Str×Nat)):Prop:=
 (∀x∈scope.names,(x.2= .cell->scope.names.lookup x.1=some .cell)/\(x.2= .local->scope.names.lookup x.1=some .local)/\(x.2= .free->ns.lookup x.1=some .cell\/ns.lookup x.1=some .free))/\
 ∀p∈frees,N[p.2]?=some p.1/\scope.names.lookup p.1=some .free/\(ns.lookup p.1=some .cell\/ns.lookup p.1=some .free)
instance (ns:List (Str×NameKind)) (N:List Str) (scope:Scope) (frees:List (Str×Nat)):Decidable (iJ ns N scope frees):=by unfold iJ;infer_instance
noncomputable def cL (X:Cx)(N:List Str)(scope:Scope)(Z:dZ):Cx:={A9d X N scope Z with fn:=λx=>scope.names.lookup x==some .cell}
theorem oW:∀(names:List (Str×NameKind))(n:Nat)(a b:List (Str×Addr)),cellsFrom n names (a++b)=cellsFrom n names a++b
 | [],_,_,_=>rfl
 | (x,k)::r,n,a,b=>by
  unfold cellsFrom
  split
  ·exact oW r (n+1) ((x,n)::a) b
  ·exact oW r n a b
theorem cells_names:∀(names:List (Str×NameKind))(n:Nat)(acc:List (Str×Addr)){x:Str}{c:Addr},(x,c)∈cellsFrom n names acc->(x,NameKind.cell)∈names\/(x,c)∈acc
 | [],_,_,_,_,h=> .inr h
 | (y,k)::r,n,acc,x,c,h=>by
  unfold cellsFrom at h
  split at h
  ·rename_i hk;have hk':k= .cell:=eq_of_beq hk;subst hk';rcases cells_names r (n+1) _ h with z|z
   ·exact .inl (zjS _ z)
   ·rcases mem_cons.mp z with z|z
    ·cases z;exact .inl zjR
    ·exact .inr z
  ·rcases cells_names r n _ h with z|z
   ·exact .inl (zjS _ z)
   ·exact .inr z
structure uB (names:List (Str×NameKind))(h:Heap)(lo:Nat)(cl cl':List (Str×Addr)):Prop where
 of:∀x c,cl'.lookup x=some c->cl.lookup x=some c\/(lo<=c/\h.IsCell c none)
 inj:∀x y c,lo<=c->(∀z d,cl.lookup z=some d->d<lo)->cl'.lookup x=some c->cl'.lookup y=some c->x=y
 old:∀x c,cl.lookup x=some c->(x,NameKind.cell)∉names->cl'.lookup x=some c
 own:∀x,names.lookup x=some .cell->∃c,cl'.lookup x=some c
 new:∀x c,names.lookup x=some .cell->cl'.lookup x=some c->lo<=c
theorem A2e (names:List (Str×NameKind))(h:Heap)(cl:List (Str×Addr)):uB names (pushCells h names) h.objs.size cl (cellsFrom h.objs.size names cl):=by
 have e:cellsFrom h.objs.size names cl=cellsFrom h.objs.size names []++cl:=oW names _ [] cl;have ok:=cellsFrom_ok names h h.objs.size [] ⟨λ_ _ hm=>(nomatch hm),List.Pairwise.nil⟩ (zjQ _);have nm:∀{x c},(x,c)∈cellsFrom h.objs.size names []->(x,NameKind.cell)∈names:=λhm=>(cells_names names _ [] hm).elim id λz=>nomatch z;have sp:∀x c,(cellsFrom h.objs.size names cl).lookup x=some c->(x,c)∈cellsFrom h.objs.size names []\/cl.lookup x=some c:=λx c hx=>by
  rw[e,lookup_append]at hx;cases h1:(cellsFrom h.objs.size names []).lookup x with
  |none=>rw[h1]at hx;exact .inr hx
  |some d=>rw[h1]at hx;cases hx;exact .inl (PySem.mem_of_lookup h1)
 refine⟨λx c hx=> ?_,λx y c hlo hcl hx hy=> ?_,λx c hx hn=> ?_,λx hx=> ?_,λx c hx hc=> ?_⟩
 ·rcases sp x c hx with z|z
  ·exact .inr ⟨(ok.empty x c z).2,(ok.empty x c z).1⟩
  ·exact .inl z
 ·rcases sp x c hx with z|z
  ·rcases sp y c hy with z'|z'
   ·exact name_of_addr ok.apart z z'
   ·exact absurd (hcl _ _ z') (not_lt.mpr hlo)
  ·exact absurd (hcl _ _ z) (not_lt.mpr hlo)
 ·rw[e,lookup_append];cases h1:(cellsFrom h.objs.size names []).lookup x with
  |none=>exact hx
  |some d=>exact absurd (nm (PySem.mem_of_lookup h1)) hn
 ·exact Option.isSome_iff_exists.mp (W.cellsFrom_some names _ cl (.inl hx))
 ·obtain⟨d,hd⟩:=Option.isSome_iff_exists.mp (W.cellsFrom_some names h.objs.size [] (.inl hx));rw[e,lookup_append,hd]at hc;cases hc;exact(ok.empty x _ (PySem.mem_of_lookup hd)).2
theorem B1r
  (hQ:Q {scope,locals:=s.heap.objs.size,globals,cells:=cellsFrom (s.heap.objs.size+1) scope.names closure,qual,func:=none,code:=outer.code,frame:=outer.frame,builtins:=outer.builtins} {s with heap:=pushCells (s.heap.push {cls:=.type "dict",data:=.dict #[]}) scope.names}):
  wpAny M A (newFunctionEnv scope globals closure [] qual none .none (some outer)) Q E s:=by
 simp only[newFunctionEnv,Option.isSome_some,if_true];refine zjZ (wpAny_alloc ?_);refine zjZ (wpAny_layCells _ (λname kind cells=>by cases hkc:kind==NameKind.cell<;>simp[hkc]) _ _ _ _ ?_);rw[show({s with heap:=s.heap.push {cls:=.type "dict",data:=.dict #[]}}:Shared).heap.objs.size=s.heap.objs.size+1 from size_push ..];exact zjZ (zjY (zjY hQ))
section
theorem A9s (I2:Inv X pins σ H2 s2)(hns:X.env.scope.names=ns)(hN:X.N=N)(hk:scope.kind= .function)(ok:iJ ns N scope frees)(f2:∀b∈fp,fO X pins H2 b)(hlive:∀b∈fp,∃o,s2.heap.get? b=some o)
  (hc1:∀x c,cl.lookup x=some c->X.env.cells.lookup x=some c)(hc2:∀x,(x,NameKind.free)∈scope.names->∃c,cl.lookup x=some c)
  (O:uB scope.names h4 (C+1) cl cl')(hC:C=s2.heap.objs.size+1)(hnsC:∃m,h4.Ns C m)(hacc:ObjOk X.prog X.w (upd H2 s2.heap.objs.size u) h4 s2.heap.objs.size u)
  (hkeep:∀b o,s2.heap.get? b=some o->h4.get? b=some o):
  Inv (cL X (loc++frees.map (·.1)) scope ⟨cl',C,s2,H2,fp,X.pn++pins⟩) [] (σC loc.length frees σ) (upd H2 s2.heap.objs.size u) {s2 with heap:=h4,toks:=tk}:=by
 have below:∀{b:Addr}{o:Obj},s2.heap.get? b=some o->b≠C:=fun{b o} e z=>by
  have:=zjT e;rw[z,hC]at this;exact lt_irrefl _ (lt_of_succ_lt this)
 have hl:H2 s2.heap.objs.size=none:=I2.hok.fresh (zjQ _);have hCn:H2 C=none:=I2.hok.fresh (by rw[hC];exact le_succ _);have cne:∀x c,X.env.cells.lookup x=some c->∃o v,s2.heap.get? c=some o/\o.data= .cell v:=λx c e=>by
  obtain⟨v,o,ho,hd⟩:=I2.cell x c e;exact⟨o,v,ho,hd⟩
 obtain⟨mC,hmC⟩:=hnsC;have lt:∀x c,X.env.cells.lookup x=some c->c<s2.heap.objs.size:=λx c e=>by
  obtain⟨o,v,ho,_⟩:=cne x c e;exact zjT ho
 have oc:∀x c,cl'.lookup x=some c->X.env.cells.lookup x=some c\/(s2.heap.objs.size+1<c/\h4.IsCell c none):=λx c e=>by
  rcases O.of x c e with z| ⟨z,y⟩
  ·exact .inl (hc1 x c z)
  ·exact .inr ⟨by rw[hC]at z;exact z,y⟩
 have hCl:C≠s2.heap.objs.size:=by rw[hC];exact Nat.succ_ne_self _
 refine⟨⟨I2.ok.mod,hk,I2.ok.glob,I2.ok.blt,?_,λx y c h1 h2=> ?_,λx hx=> ?_,λx c h hx=>le_of_lt (lt_of_lt_of_le (by show s2.heap.objs.size<C+1;rw[hC];exact lt_succ_of_lt (lt_succ_self _)) (O.new x c (eq_of_beq h) hx)),I2.ok.hd,I2.ok.frames,.inl rfl,λb hb=> ⟨?_,λx c e z=> ?_⟩,I2.bs,le_trans I2.ok.bsz I2.sz,λb o e hb=> ?_,λb hb hfs=> ?_,I2.stack,I2.stkFree⟩,
  rfl,I2.bare,?_,⟨mC,hmC,λi x v h1 h2 h3=> ?_⟩,λx c e=> ?_,?_,λx c e=> ?_,λp hp=> ?_,?_,?_⟩
 ·show s2.heap.objs.size<=C;rw[hC];exact le_succ _
 ·
  rcases oc x c h1 with z|z
  ·rcases oc y c h2 with z'|z'
   ·exact I2.ok.inj x y c z z'
   ·exact absurd (lt_trans (lt_succ_of_lt (lt x c z)) z'.1) (lt_irrefl _)
  ·exact O.inj x y c (by rw[hC];exact z.1) (λz d e=>lt_trans (lt z d (hc1 z d e)) (by rw[hC];exact lt_succ_of_lt (lt_succ_self _))) h1 h2
 ·
  have hx':(relabel scope X.env).names.lookup x=some .cell\/(relabel scope X.env).names.lookup x=some .free:=hx;rcases relabel_back hx' with z|z
  ·by_cases hm:(x,NameKind.cell)∈scope.names
   ·exact O.own x ((ok.1 _ hm).1 rfl)
   ·obtain⟨c,hc⟩:=hc2 x z;exact⟨c,O.old x c hc hm⟩
  ·exact O.own x ((ok.1 _ z).1 rfl)
 ·obtain⟨o,ho⟩:=hlive b hb;exact below ho
 ·rcases oc x c e with y|y
  ·exact(f2 b hb).2.2.2.2.1 x c y z
  ·obtain⟨o,ho⟩:=hlive b hb;have:=zjT ho;have y1:=y.1;rw[z]at y1;exact Nat.lt_asymm this (lt_of_succ_lt y1)
 ·rcases(f2 b hb).2.2.2.1 with z|z
  ·exact I2.ok.noex b o e z
  ·exact absurd (lt_of_lt_of_le (zjT (I2.ok.bs b o e).1) z) (lt_irrefl _)
 ·rcases mem_cons.mp (I2.stkSub b hfs)with z|z
  ·exact(f2 b hb).2.1 z
  ·exact(f2 b hb).2.2.1 z
 ·exact Un.laid hkeep (zjQ _) hl
 ·
  have hi:¬i<loc.length:=λhlt=>by
   unfold σC at h2;rw[getElem?_append_left (by simpa using hlt),getElem?_replicate]at h2;simp[hlt]at h2
  have h2':(frees[i - loc.length]?).map (λp=>(σ[p.2]?).join)=some (some v):=by
   unfold σC at h2;rw[getElem?_append_right (by simpa using hi),List.length_replicate,getElem?_map]at h2;exact h2
  have h1':(frees[i - loc.length]?).map (·.1)=some x:=by
   have h1:(loc++frees.map (·.1))[i]?=some x:=h1;rw[getElem?_append_right (by omega),getElem?_map]at h1;exact h1
  cases ep:frees[i - loc.length]? with
  |none=>rw[ep]at h1';simp at h1'
  |some p=>
   rw[ep]at h1' h2';simp only[Option.map_some,Option.some.injEq]at h1' h2';obtain⟨q1,q2,q3⟩:=ok.2 p (mem_of_getElem? ep);have hσ:σ[p.2]?=some (some v):=by
    cases e:σ[p.2]? with
    |none=>rw[e]at h2';simp at h2'
    |some o=>rw[e]at h2';simp at h2';rw[h2']
   have vis:Vis X.env.scope p.1:=by
    show _\/_;rw[hns];rcases q3 with z|z
    ·exact .inr (.inl z)
    ·exact .inr (.inr z)
   obtain⟨m,hn,hlk⟩:=I2.loc;obtain⟨u,ru,lk⟩:=hlk p.2 p.1 v (by rw[hN];exact q1) hσ vis;refine⟨u,ru,.inr ?_⟩;rw[←h1'];rcases lk with⟨z,_⟩| ⟨_,c,ec,hcell⟩
   ·have z':X.env.scope.names.lookup p.1=some .local:=z;rw[hns]at z';rcases q3 with y|y<;>rw[z']at y<;>cases y
   ·obtain⟨c',hc'⟩:=hc2 p.1 (PySem.mem_of_lookup q2);have:c'=c:=by have:=hc1 _ _ hc';rw[ec]at this;exact(Option.some.inj this).symm
    subst this;refine⟨A0w q2,c',O.old _ _ hc' (λhm=>by have:=(ok.1 _ hm).1 rfl;rw[q2]at this;cases this),?_⟩;obtain⟨o,ho,hd⟩:=hcell;exact⟨o,hkeep _ _ ho,hd⟩
 ·rcases oc x c e with y|y
  ·obtain⟨o,v,ho,hd⟩:=cne x c y;exact⟨v,o,hkeep _ _ ho,hd⟩
  ·exact⟨none,y.2⟩
 ·show upd H2 _ _ C=none;rw[aY hCl];exact hCn
 ·rcases oc x c e with y|y
  ·have:c≠s2.heap.objs.size:=ne_of_lt (lt x c y);rw[aY this];exact I2.freeC x c y
  ·have h1:=y.1;rw[aY (λe=>by rw[e]at h1;exact lt_irrefl _ (lt_of_succ_lt h1))];exact I2.hok.fresh (le_of_lt (lt_of_succ_lt h1))
 ·have hp':p∈X.pn++pins:=by
   rcases mem_append.mp hp with z|z
   ·exact z
   ·exact absurd z (by simp)
  obtain⟨e,n,ne,nf,d⟩:=I2.pin p hp';refine⟨hkeep _ _ e,?_,below e,λz=> ?_,d⟩
  ·rw[aY (ne_of_lt (zjT e))];exact n
  ·rcases mem_cons.mp (I2.stkSub p.1 z)with y|y
   ·exact ne y
   ·exact nf y
 ·exact I2.hok.laid hkeep (zjQ _) hacc
 ·show(σC loc.length frees σ).length=(loc++frees.map (·.1)).length;unfold σC;simp
theorem A0n {σ':St}(I2:Inv X pins σ H2 s2)(f2:∀b∈fp,fO X pins H2 b)(hC:C=s2.heap.objs.size+1)
  (J:Inv (cL X N scope ⟨cl,C,s2,H2,fp,pl⟩) [] σ' H' s')(hs:Heap.SameBut C s'.heap h'):Inv X pins σ H' {s' with heap:=h'}:=by
 have I3:Inv X pins σ H' s':=I2.call' (ch:=fp) J.os J.base J.hok J.bare λb hb=> ⟨(f2 b hb).2.2.2.1,(f2 b hb).2.1,(f2 b hb).2.2.2.2.1,(f2 b hb).2.2.2.2.2⟩;refine I3.turned (it:=C) (t':=s'.toks) (λb o hb e=>(hs.2 b hb).trans e) J.free ?_ (.inr ?_) (λx c e z=> ?_) λp hp z=> ?_
 ·intro z;have:=I2.lt;rw[←z,hC]at this;exact lt_irrefl _ (lt_of_succ_lt this)
 ·rw[hC];exact le_trans I2.sz (le_succ _)
 ·obtain⟨v,q⟩:=I2.cell x c e;have:=q.lt;rw[z,hC]at this;exact lt_irrefl _ (lt_of_succ_lt this)
 ·have:=zjT (I2.pin p hp).1;rw[z,hC]at this;exact lt_irrefl _ (lt_of_succ_lt this)
end
section
theorem nI {e:Expr}{gs:List Comprehension}{g0:Comprehension}{wi:TI}{tg iter:Expr}{R:dZ->Addr->It->St->Hp->(Hp->Prop)->Prop}{use:Option (Value->Sem Unit)}{Q:Value->Shared->Prop}{newPos:Pos}{nac:Sem Value}{oa:Obj}{u:HO}
  (hna:∀(E:Value->Shared->Prop)(s:Shared)(Q:Value->Shared->Prop),Q (.ref s.heap.objs.size) {s with heap:=s.heap.push oa}->wpAny (model X.prog X.w) X.A nac Q E s)(hoa:oa.isFreed=false)(hou:∀(H:Hp)(h:Heap)(a:Addr),sysModules<a->h.get? a=some oa->ObjOk X.prog X.w H h a u)
  (hcl:clausesOf e=g0::gs)(hg0:g0.iter=iter)(hi:PI X tg iter wi)(hns:X.env.scope.names=ns)(hN:X.N=N)(hk:scope.kind= .function)(ok:iJ ns N scope frees)
  (hs:∀x,foldedSetIterable iter X.env x=pure x){pins:List (Addr×Obj)}{s:Shared}{σ:St}{H:Hp}{QH:Addr->Hp->Prop}(I:Inv X pins σ H s)
  (h:wi σ H λJ H1=> ∀(Z:dZ)(l:Addr),H1 l=none->R Z l J (σC loc.length frees σ) (upd H1 l u) (QH l))
  (block:∀(Z:dZ)(l it:Addr)(fp:List Addr)(tn:Nat->Heap->Prop)(J:It)(H4:Hp)(s4:Shared)(σ4:St),Z.fp=fp->Inv (cL X (loc++frees.map (·.1)) scope Z) [] σ4 H4 s4->hJ X.prog X.w X.K tg J fp it tn->tn 0 s4.heap->
   (∀b∈fp,fO (cL X (loc++frees.map (·.1)) scope Z) [] H4 b)->R Z l J σ4 H4 (QH l)->
   codeAny (model X.prog X.w) X.A (.compStart e 0 (.ref it) (.ref l) (compEnvC scope Z.cl Z.C X.env)) (λr s'=>r= .ok .next/\∃σ' H',Inv (cL X (loc++frees.map (·.1)) scope Z) [] σ' H' s'/\QH l H') s4)
  (fin:∀(l C:Addr)(H':Hp)(s':Shared),(∃m,s'.heap.Ns C m)->Inv X pins σ H' s'->H' C=none->X.s₀.heap.objs.size<=C->C≠X.env.locals->(∀x c,X.env.cells.lookup x=some c->c≠C)->(∀h',Heap.SameBut C s'.heap h'->Inv X pins σ H' {s' with heap:=h'})->(∀p∈X.pn++pins,p.1≠C)->QH l H'->
   compPost (model X.prog X.w) X.A X.xe use Q (.ref l) C (.ok .next) s'):
  wpAny (model X.prog X.w) X.A (comprehension e scope X.env newPos nac false (eval iter X.env) use) Q X.xe s:=by
 obtain⟨cl,hclos,hc1,hc2⟩:=A72 (env:=X.env) (scope:=scope) λx hx hf=>by
  refine I.ok.has x.1 ?_;have:=(ok.1 x hx).2.2 hf;rw[←hns]at this;exact this
 have hs':∀x,foldedSetIterable g0.iter X.env x=pure x:=by rw[hg0];exact hs
 refine wpAny_comprehension_free hcl hs' hclos hk (λx hx hl=>(ok.1 x hx).2.1 hl) (thn (hi pins s σ H _ I h) λv s1 h1=>thn h1 λitv s2 h2=> ?_);obtain⟨it,fp,tn,J,H2,e2,I2,T,st2,f2,q2⟩:=h2;subst e2;refine hna _ _ _ (B1r ?_);have hsz:(s2.heap.push oa).objs.size=s2.heap.objs.size+1:=size_push ..;have keep:∀b o,s2.heap.get? b=some o->(pushCells ((s2.heap.push oa).push {cls:=.type "dict",data:=.dict #[]}) scope.names).get? b=some o:=λb o e=>pushCells_keeps _ _ _ _ (zjX _ (zjX _ e));have hacc:(pushCells ((s2.heap.push oa).push {cls:=.type "dict",data:=.dict #[]}) scope.names).get? s2.heap.objs.size=some oa:=pushCells_keeps _ _ _ _ (zjX _ (get?_push_size _ hoa));have hns₁:∃m,(pushCells ((s2.heap.push oa).push {cls:=.type "dict",data:=.dict #[]}) scope.names).Ns (s2.heap.push oa).objs.size m:=⟨_,(Heap.Ns.new (s2.heap.push oa) (.type "dict")).keeps (pushCells_keeps _ _)⟩;have O:=A2e scope.names ((s2.heap.push oa).push {cls:=.type "dict",data:=.dict #[]}) cl;rw[size_push]at O;dsimp only
 generalize hcl':cellsFrom ((s2.heap.push oa).objs.size+1) scope.names cl=cl' at O⊢;generalize hh₁:pushCells ((s2.heap.push oa).push {cls:=.type "dict",data:=.dict #[]}) scope.names=h₁ at keep hacc hns₁ O⊢;generalize hCeq:(s2.heap.push oa).objs.size=C at hns₁ hsz O⊢;have live:∀b∈fp,∃o,s2.heap.get? b=some o:=λb hb=>let ⟨o,ho,_⟩:=T.obj _ _ st2 b hb;⟨o,ho⟩;have J0:=A9s (scope:=scope) (loc:=loc) (frees:=frees) (tk:=s2.toks) I2 hns hN hk ok f2 live hc1 hc2 O hsz hns₁ (hou _ _ _ I2.big hacc) keep;have hln:H2 s2.heap.objs.size=none:=I2.hok.fresh (zjQ _);have B:=block ⟨cl',C,s2,H2,fp,X.pn++pins⟩ s2.heap.objs.size it fp tn J _ _ _ rfl J0 T (T.keep _ _ _ st2 λb _ o e=>keep b o e) (λb hb=>by
  obtain⟨o,ho⟩:=live b hb;obtain⟨z0,z1,z2,z3,z4,z5⟩:=f2 b hb;refine⟨?_,?_,λz=> ?_,.inl hb,λx c e=> ?_,λp hp=>z5 p ?_⟩
  ·rw[aY (ne_of_lt (zjT ho))];exact z0
  ·show b≠C;rw[hsz];exact ne_of_lt (lt_succ_of_lt (zjT ho))
  ·rcases mem_cons.mp (I2.stkSub b z)with y|y
   ·exact z1 y
   ·exact z2 y
  ·rcases O.of x c e with y| ⟨y,_⟩
   ·exact z4 x c (hc1 x c y)
   ·have:=zjT ho;intro z;have z':c=b:=z;rw[z',hsz]at y;exact Nat.lt_asymm this (lt_of_succ_lt y)
  ·rcases mem_append.mp hp with y|y
   ·exact y
   ·exact absurd y (by simp)) (q2 _ _ hln)
 refine codeAny_mono B λr s' hr=> ?_;obtain⟨rfl,σ',H',J',q'⟩:=hr;obtain⟨m',hm',_⟩:=J'.loc;have hCl:C≠X.env.locals:=λz=>by
  have:=I2.lt;rw[←z,hsz]at this;exact lt_irrefl _ (lt_of_succ_lt this)
 have hCc:∀x c,X.env.cells.lookup x=some c->c≠C:=λx c e z=>by
  obtain⟨v,q⟩:=I2.cell x c e;have:=q.lt;rw[z,hsz]at this;exact lt_irrefl _ (lt_of_succ_lt this)
 have hCp:∀p∈X.pn++pins,p.1≠C:=λp hp z=>by
  have:=zjT (I2.pin p hp).1;rw[z,hsz]at this;exact lt_irrefl _ (lt_of_succ_lt this)
 exact fin s2.heap.objs.size C H' s' ⟨m',hm'⟩ (by have:=A0n I2 f2 hsz J' (Heap.SameBut.refl C s'.heap);exact this) J'.free (by rw[hsz];exact le_trans I2.sz (le_succ _)) hCl hCc (λh' hs=>A0n I2 f2 hsz J' hs) hCp q'
theorem bN {elt tg iter:Expr}{ifs:List Expr}{wi:TI}{g:dZ->TG}{tt:dZ->TT}{te:dZ->TE}(ns:List (Str×NameKind))(N:List Str)(loc:List Str)(frees:List (Str×Nat))(hc:X.calm=true)(hi:PI X tg iter wi)
  (hns:X.env.scope.names=ns)(hN:X.N=N)(hk:scope.kind= .function)(ok:iJ ns N scope frees)
  (hg:∀Z,PG (cL X (loc++frees.map (·.1)) scope Z) tg (g Z))(ht:∀Z,PTs (cL X (loc++frees.map (·.1)) scope Z) ifs (tt Z))(he:∀Z,PE (cL X (loc++frees.map (·.1)) scope Z) elt (te Z))
  (hs:∀x,foldedSetIterable iter X.env x=pure x:=by intro _;rfl):PE X (.ListComp elt [⟨tg,iter,ifs,0⟩] scope pos) (A0s wi g tt te loc.length frees):=by
 intro pins s σ H Q I h;rw[eval_ListComp];refine nI (nac:=newList []) (oa:={cls:=.type "list",dict:=none,data:=.seq ([]:List Value).toArray}) (u:=.lst []) (λE s Q h=>wpAny_newObj_type h) rfl (λH h a _ e=> ⟨by simp,[],_,.nil,e⟩) (e:=.ListComp elt [⟨tg,iter,ifs,0⟩] scope pos) (g0:=⟨tg,iter,ifs,0⟩) (gs:=[]) (tg:=tg) (iter:=iter) (loc:=loc) (R:=λZ l J σ H QH=>eA J (g Z) (cZ (tt Z) (eJ l (te Z))) (eC λ_ H'=>QH H') σ H) (use:=none) (QH:=λl H'=>Q (.ref l) H') rfl rfl hi hns hN hk ok hs I h ?_ ?_
 ·intro Z l it fp tn J H4 s4 σ4 hfp I4 T st4 f4 q4;have L:=kR (Y:=cL X (loc++frees.map (·.1)) scope Z) rfl hc (A07 elt tg iter ifs scope pos (.ref it) (.ref l) _) (hg Z) (ht Z) (sN rfl (he Z)) I4 T st4 f4 q4;refine codeAny_mono (codeAny_compStart_list L (T.self _ _ _ _ _ st4 L)) λr s' hr=> ?_;exact hr
 ·intro l C H' s' hm J' hn h1 h2 h3 h4 _ q';obtain⟨m,hm⟩:=hm;exact⟨m,hm,λh' hs'=> ⟨.ref l,H',h4 h' hs',rfl,q'⟩⟩
end
section
theorem A1v (ns:List (Str×NameKind))(N:List Str)(loc:List Str)(frees:List (Str×Nat))(hc:X.calm=true)(hi:PI X tg iter wi)
  (hns:X.env.scope.names=ns)(hN:X.N=N)(hk:scope.kind= .function)(ok:iJ ns N scope frees)
  (hg:∀Z,PG (cL X (loc++frees.map (·.1)) scope Z) tg (g Z))(ht:∀Z,PTs (cL X (loc++frees.map (·.1)) scope Z) ifs (tt Z))
  (hi2:∀Z,PI (cL X (loc++frees.map (·.1)) scope Z) tg2 iter2 (wi2 Z))(hg2:∀Z,PG (cL X (loc++frees.map (·.1)) scope Z) tg2 (g2 Z))(ht2:∀Z,PTs (cL X (loc++frees.map (·.1)) scope Z) ifs2 (tt2 Z))
  (he:∀Z,PE (cL X (loc++frees.map (·.1)) scope Z) elt (te Z))
  (hs:∀x,foldedSetIterable iter X.env x=pure x:=by intro _;rfl)(hs2:∀(Z:dZ) x,foldedSetIterable iter2 (cL X (loc++frees.map (·.1)) scope Z).env x=pure x:=by intro _ _;rfl):
  PE X (.ListComp elt [⟨tg,iter,ifs,0⟩,⟨tg2,iter2,ifs2,0⟩] scope pos) (uM wi g tt wi2 g2 tt2 te loc.length frees):=by
 intro pins s σ H Q I h;rw[eval_ListComp];refine nI (nac:=newList []) (oa:={cls:=.type "list",dict:=none,data:=.seq ([]:List Value).toArray}) (u:=.lst []) (λE s Q h=>wpAny_newObj_type h) rfl (λH h a _ e=> ⟨by simp,[],_,.nil,e⟩) (e:=.ListComp elt [⟨tg,iter,ifs,0⟩,⟨tg2,iter2,ifs2,0⟩] scope pos) (g0:=⟨tg,iter,ifs,0⟩) (gs:=[⟨tg2,iter2,ifs2,0⟩]) (tg:=tg) (iter:=iter) (loc:=loc) (R:=λZ l J σ H QH=>eA J (g Z) (cZ (tt Z) (kK (wi2 Z) (g2 Z) (tt2 Z) (eJ l (te Z)))) (eC λ_ H'=>QH H') σ H) (use:=none) (QH:=λl H'=>Q (.ref l) H') rfl rfl hi hns hN hk ok hs I h ?_ ?_
 ·intro Z l it fp tn J H4 s4 σ4 hfp I4 T st4 f4 q4;have L:=kR (Y:=cL X (loc++frees.map (·.1)) scope Z) rfl hc (xM elt tg iter tg2 iter2 ifs ifs2 scope pos (.ref it) (.ref l) _) (hg Z) (ht Z) (zI rfl hc (hi2 Z) (hg2 Z) (ht2 Z) (he Z) (hs2 Z)) I4 T st4 f4 q4;refine codeAny_mono (codeAny_compStart_list L (T.self _ _ _ _ _ st4 L)) λr s' hr=> ?_;exact hr
 ·intro l C H' s' hm J' hn h1 h2 h3 h4 _ q';obtain⟨m,hm⟩:=hm;exact⟨m,hm,λh' hs'=> ⟨.ref l,H',h4 h' hs',rfl,q'⟩⟩
theorem rR (ns:List (Str×NameKind))(N:List Str)(loc:List Str)(frees:List (Str×Nat))(hc:X.calm=true)(hND:X.N.Nodup)(hix:X.N[i]?=some x)(hxl:X.env.scope.names.lookup x=some .local)(hi:PI X tg iter wi)
  (hns:X.env.scope.names=ns)(hN:X.N=N)(hk:scope.kind= .function)(ok:iJ ns N scope frees)
  (hg:∀Z,PG (cL X (loc++frees.map (·.1)) scope Z) tg (g Z))(ht:∀Z,PTs (cL X (loc++frees.map (·.1)) scope Z) ifs (tt Z))(he:∀Z,PE (cL X (loc++frees.map (·.1)) scope Z) elt (te Z))
  (hsw:swapsWith (.ListComp elt [⟨tg,iter,ifs,0⟩] scope pos) (some (.Name x pos')) apos.line X.env=pure true:=by rfl)
  (hs:∀x,foldedSetIterable iter X.env x=pure x:=by intro _;rfl):PS X (.Assign [.Name x pos'] (.ListComp elt [⟨tg,iter,ifs,0⟩] scope pos) apos) (kW (A0s wi g tt te loc.length frees) (cT i)):=by
 intro pins s σ H D I h;rw[exec_Assign_Name_used _ _ _ _ hsw];refine zjZ (wpAny_standAt (zjZ ?_))
 show wpAny _ X.A (do let _←comprehension (.ListComp elt [⟨tg,iter,ifs,0⟩] scope pos) scope X.env _ (newList []) false (eval iter X.env) (some (assign (.Name x pos') X.env))) _ _ s;refine zjZ ?_;have key:=nI (X:=X) (nac:=newList []) (oa:={cls:=.type "list",dict:=none,data:=.seq ([]:List Value).toArray}) (u:=.lst []) (λE s Q h=>wpAny_newObj_type h) rfl (λH h a _ e=> ⟨by simp,[],_,.nil,e⟩) (e:=.ListComp elt [⟨tg,iter,ifs,0⟩] scope pos) (g0:=⟨tg,iter,ifs,0⟩) (gs:=[]) (tg:=tg) (iter:=iter) (newPos:=firstIterPos [⟨tg,iter,ifs,0⟩] pos) (loc:=loc) (R:=λZ l J σ H QH=>eA J (g Z) (cZ (tt Z) (eJ l (te Z))) (eC λ_ H'=>QH H') σ H) (use:=some (assign (.Name x pos') X.env)) (QH:=λl H'=>D.nx (σ.set i (some (.ref l))) H') (Q:=λ_ s'=>SP X pins D .next s') rfl rfl hi hns hN hk ok hs I h ?_ ?_
 ·exact thn key λ_ s' hq=>zjY (zjY hq)
 ·intro Z l it fp tn J H4 s4 σ4 hfp I4 T st4 f4 q4;have L:=kR (Y:=cL X (loc++frees.map (·.1)) scope Z) rfl hc (A07 elt tg iter ifs scope pos (.ref it) (.ref l) _) (hg Z) (ht Z) (sN rfl (he Z)) I4 T st4 f4 q4;refine codeAny_mono (codeAny_compStart_list L (T.self _ _ _ _ _ st4 L)) λr s' hr=> ?_;exact hr
 ·intro l C H' s' hm J' hn h1 h2 h3 h4 h5 q';obtain⟨m,hm⟩:=hm;show wpAny _ X.A (assign (.Name x pos') X.env (.ref l)) _ _ _;refine wpAny_assign_Name (qJ J' hND hix (.inl hxl) (v:=.ref l) rfl (λs'' I'' hsb=> ?_) (.inr hxl));obtain⟨a,hsb,ha⟩:=hsb;have haC:C≠a:=by
   rcases ha with z|z
   ·rw[z];exact h2
   ·exact λy=>h3 x a z y.symm
  refine⟨m,hm.sameBut hsb haC,λh' hs'=> ⟨_,H',?_,q'⟩⟩;exact I''.turned (it:=C) (t':=s''.toks) (λb o hb e=>(hs'.2 b hb).trans e) hn h2 (.inr h1) h3 h5
end
end L2
namespace M51
open PySem L2 PyProof.Rows
noncomputable def top (i:Nat):Stmt:=PySem.Challenge.pw_meadshares_k51_who_would_exchange.main.body.getD i (.Pass ⟨0,0,0,0⟩)
noncomputable abbrev A1y:Stmt:=top 11
noncomputable abbrev vE:Stmt:=top 12
noncomputable abbrev A09:Stmt:=top 13
noncomputable abbrev sO:Stmt:=top 14
noncomputable abbrev qR:Stmt:=top 21
noncomputable abbrev A1i:Stmt:=top 22
noncomputable abbrev oM:Stmt:=top 23
noncomputable abbrev A0x:Stmt:=top 24
noncomputable abbrev yT:Stmt:=top 25
noncomputable abbrev pF:Stmt:=top 26
noncomputable abbrev xZ:Stmt:=top 27
noncomputable abbrev oY:Stmt:=top 28
noncomputable abbrev xX:Stmt:=top 29
noncomputable abbrev rJ:Stmt:=top 32
noncomputable abbrev rK:Stmt:=top 33
noncomputable abbrev A1a:Stmt:=top 34
noncomputable abbrev tW:Stmt:=top 35
noncomputable abbrev tT:Stmt:=top 43
noncomputable abbrev oI:Stmt:=top 44
noncomputable abbrev zD:Stmt:=top 45
noncomputable abbrev qQ:Stmt:=top 46
noncomputable abbrev uL:Stmt:=top 47
noncomputable abbrev rH:Stmt:=top 48
noncomputable abbrev kO:Stmt:=top 49
noncomputable abbrev xY:Stmt:=top 50
noncomputable abbrev vZ:Stmt:=top 51
noncomputable abbrev mI:Stmt:=top 53
noncomputable abbrev zP:Stmt:=top 54
noncomputable abbrev rL:Stmt:=top 55
noncomputable abbrev rO:Stmt:=top 56
noncomputable abbrev yB:Stmt:=top 59
noncomputable abbrev A0z:Stmt:=top 60
noncomputable abbrev A03:Stmt:=top 61
noncomputable abbrev wP:Stmt:=top 62
noncomputable abbrev wI:Stmt:=top 63
noncomputable abbrev A0c:Stmt:=top 64
noncomputable abbrev oT:Stmt:=top 65
noncomputable abbrev A0m:Stmt:=top 86
noncomputable abbrev A06:Stmt:=top 87
noncomputable abbrev rZ:Stmt:=top 88
noncomputable abbrev kA:Stmt:=top 89
noncomputable abbrev qA:Stmt:=top 90
noncomputable abbrev pP:Stmt:=top 94
noncomputable abbrev pK:Stmt:=top 96
noncomputable abbrev mJ:Stmt:=top 97
noncomputable abbrev lB:Stmt:=top 109
noncomputable abbrev wT:Stmt:=top 30
noncomputable abbrev oK:Stmt:=top 81
noncomputable abbrev tG:Stmt:=top 82
noncomputable abbrev pJ:Stmt:=top 83
noncomputable abbrev mQ:Stmt:=top 84
noncomputable abbrev sL:Stmt:=top 101
noncomputable abbrev qG:Stmt:=top 102
noncomputable abbrev zV:Stmt:=top 103
noncomputable abbrev uW:Stmt:=top 104
noncomputable abbrev wB:Stmt:=top 105
noncomputable abbrev kH:Stmt:=top 106
noncomputable abbrev zR:Stmt:=top 107
noncomputable abbrev vA:Stmt:=top 108
noncomputable abbrev pI:Stmt:=top 31
noncomputable abbrev sLW:Stmt:=top 68
noncomputable abbrev oE:Stmt:=top 69
noncomputable abbrev zO:Stmt:=top 70
noncomputable abbrev tI:Stmt:=top 73
noncomputable abbrev pD:Stmt:=top 74
noncomputable abbrev yA:Stmt:=top 75
noncomputable abbrev A0r:Stmt:=top 76
noncomputable abbrev zC:Stmt:=top 77
noncomputable abbrev rD:Stmt:=top 78
noncomputable abbrev uP:Stmt:=top 79
noncomputable abbrev zJ:Stmt:=top 91
noncomputable abbrev mZ:Stmt:=top 92
noncomputable abbrev sI:Stmt:=top 93
noncomputable abbrev fJ:Stmt:=top 95
noncomputable abbrev iG:Stmt:=top 99
noncomputable abbrev zT:Stmt:=top 100
noncomputable abbrev nK:Stmt:=top 98
noncomputable abbrev yL:Stmt:=top 66
structure Txt (mg:Str->Option Value):Prop where
 isinstance:mg "isinstance" =none
 int:mg "int" =none
 bool:mg "bool" =none
 tuple:mg "tuple" =none
 len:mg "len" =none
 all:mg "all" =none
 enumerate:mg "enumerate" =none
 rows:∃t,mg "MOST_ROWS" =some (.int 4 t)
 cols:∃t,mg "MOST_COLUMNS" =some (.int 6 t)
 cells:∃t,mg "MOST_CELLS" =some (.int 10 t)
 worth:∃t,mg "MOST_WORTH" =some (.int 99 t)
 water:∃t,mg "WATER" =some (.int (-2) t)
noncomputable def oX:Sp:=λvs H Q _=> ∃v,vs=[v]/\Kn H 1 v/\Q (.bl (isInt v)) H
noncomputable def jT:Sp:=λvs H Q _=> ∃v lo hi,vs=[v,.int lo,.int hi]/\Kn H 1 v/\Q (.bl (dU lo hi v)) H
noncomputable def dL (H:Hp)(lo hi:Int)(v:V):Bool:=match fI H v with|some xs=>decide (lo<=xs.length)&&decide ((xs.length:Int)<=hi)|none=>false
noncomputable def gK:Sp:=λvs H Q _=> ∃v lo hi,vs=[v,.int lo,.int hi]/\Kn H 1 v/\Q (.bl (dL H lo hi v)) H
section
variable {P:Program}{w:World}{K:W.Frag}{mg:Str->Option Value}{base:Heap}
theorem A3p (F:D1 K mg "is_number" A1y ["thing"])(T:Txt mg):A1 P w K mg base 1 "is_number" oX:=by
 refine F.k ["thing"] ?_;ac_nf
 ·obtain⟨v,rfl,k,q⟩:=h;refine⟨_,aM (bC (fS (bE iT rfl T.isinstance boot_isinstance (bD (pv 0) (bD (fV (v:=.ty "int") rfl T.int boot_int rfl) aB)))
   (fX (A87 (bE iT rfl T.isinstance boot_isinstance (bD (pv 0) (bD (fV (v:=.ty "bool") rfl T.bool boot_bool rfl) aB))))))),?_⟩
  obtain⟨t,ty,k1,k2,_⟩:=wR (K:=K) k;refine⟨_,rfl,_,"int",t,_,rfl,ty,k1,_,rfl,cY (λe=> ?_) λe=> ?_⟩
  ·refine⟨_,rfl,_,"bool",t,_,rfl,ty,k2,_,rfl,?_⟩;have:(!rB v)=isInt v:=by cases v<;>first|rfl|cases e
   rw[this];exact q
  ·have:isInt v=false:=(Bool.or_eq_false_iff.mp e).1;rw[this]at q;exact q
theorem A8z (F:D1 K mg "is_number_within" vE ["thing","least","most"])(a1:A1 P w K mg base 1 "is_number" oX):A1 P w K mg base 2 "is_number_within" jT:=by
 refine F.k ["thing","least","most"] ?_;ac_nf
 ·obtain⟨v,lo,hi,rfl,k,q⟩:=h;refine⟨_,aM (bC (fS (a1.c hr (bD (pv 0) aB)) (fX (qC iS iS (pv 1) (pv 0) (pv 2))))),?_⟩;refine⟨_,rfl,v,rfl,k,_,rfl,cY (λe=> ?_) λe=> ?_⟩
  ·cases v with
   |int i=>
    refine⟨_,rfl,_,rfl,_,_,rfl,rfl,_,rfl,dW (λh1=> ?_) λh1=> ?_⟩
    ·refine⟨_,rfl,_,_,rfl,rfl,?_⟩;have:dU lo hi (.int i)=decide (i<=hi):=by simp[dU,h1]
     rw[this]at q;exact q
    ·have:dU lo hi (.int i)=false:=by simp[dU,h1]
     rw[this]at q;exact q
   |_=>cases e
  ·have:dU lo hi v=false:=by cases v<;>first|rfl|cases e
   rw[this]at q;exact q
theorem A2j (F:D1 K mg "is_tuple_within" A09 ["thing","least","most"])(T:Txt mg):A1 P w K mg base 1 "is_tuple_within" gK:=by
 refine F.k ["thing","least","most"] ?_;ac_nf
 ·obtain⟨v,lo,hi,rfl,k,q⟩:=h;refine⟨_,aM (bC (fS (bE iT rfl T.isinstance boot_isinstance (bD (pv 0) (bD (fV (v:=.ty "tuple") rfl T.tuple boot_tuple rfl) aB)))
   (fX (qC iS iS (pv 1) (bE fF rfl T.len PySem.boot_len (bD (pv 0) aB)) (pv 2))))),?_⟩
  obtain⟨t,ty,_,_,k3⟩:=wR (K:=K) k;refine⟨_,rfl,_,"tuple",t,_,rfl,ty,k3,_,rfl,cY (λe=> ?_) λe=> ?_⟩
  ·obtain⟨xs,ex⟩:=Option.isSome_iff_exists.mp e;obtain⟨a,rfl,ha⟩:=A4h ex;refine⟨_,rfl,_,rfl,a,xs,rfl,.inr (SqT.of ha),_,_,rfl,rfl,_,rfl,dW (λh1=> ?_) λh1=> ?_⟩
   ·refine⟨_,rfl,_,_,rfl,rfl,?_⟩;have:dL H lo hi (.ref a)=decide ((xs.length:Int)<=hi):=by simp[dL,ex,h1]
    rw[this]at q;exact q
   ·have:dL H lo hi (.ref a)=false:=by simp[dL,ex,h1]
    rw[this]at q;exact q
  ·have:dL H lo hi v=false:=by
    unfold dL;cases z:fI H v with
    |none=>rfl
    |some xs=>rw[z]at e;cases e
   rw[this]at q;exact q
end
theorem nd4:(["at","row","k","mark"]:List Str).Nodup:=by decide +kernel
end M51
namespace L2
open PySem PySem.Spec PyProof.Rows
section
end
theorem FnOk.never {P:Program}{w:World}{K:W.Frag}{mg:Str->Option Value}{base:Heap}{CX:CXT}{k:Nat}{f:Addr}{fd:FuncData}{ps:List Str}:FnOk P w K mg base CX k f fd ps (λ_ _ _ _=>False):=
 ⟨λ_ _ _ _ h=>h.elim,λ_ _ _ _ _ _ _ _ _ _ _ _ _ h=>h.elim⟩
section
theorem bZ (he:PE X (.Constant c j pos) te)(hr:PA X es t):PA X (.Constant c j pos::es) (dM te t):=bD he hr rfl
theorem aG (he:PE X (.Name x pos) te)(hr:PA X es t):PA X (.Name x pos::es) (dM te t):=bD he hr rfl
theorem dF (he:PE X (.BinOp a o b pos) te)(hr:PA X es t):PA X (.BinOp a o b pos::es) (dM te t):=bD he hr rfl
theorem rP (he:PE X (.UnaryOp o b pos) te)(hr:PA X es t):PA X (.UnaryOp o b pos::es) (dM te t):=bD he hr rfl
theorem cG (he:PE X (.Call f a k pos) te)(hr:PA X es t):PA X (.Call f a k pos::es) (dM te t):=bD he hr rfl
theorem gH (he:PE X (.Tuple a k pos) te)(hr:PA X es t):PA X (.Tuple a k pos::es) (dM te t):=bD he hr rfl
theorem lI (he:PE X (.List a pos) te)(hr:PA X es t):PA X (.List a pos::es) (dM te t):=bD he hr rfl
theorem eX (he:PE X (.Subscript a b pos) te)(hr:PA X es t):PA X (.Subscript a b pos::es) (dM te t):=bD he hr rfl
theorem A97 (he:PE X (.Compare a b c pos) te)(hr:PA X es t):PA X (.Compare a b c pos::es) (dM te t):=bD he hr rfl
theorem B0f (he:PE X (.Dict a b pos) te)(hr:PA X es t):PA X (.Dict a b pos::es) (dM te t):=bD he hr rfl
theorem cO (he:PE X (.ListComp a b c pos) te)(hr:PA X es t):PA X (.ListComp a b c pos::es) (dM te t):=bD he hr rfl
end
@[irreducible] def PAq (X:Cx)(es:List Expr)(t:TA):Prop:=PA X es t
section
theorem A1k (h:PAq X es t):PA X es t:=by unfold PAq at h;exact h
theorem kM:PAq X [] iN:=by unfold PAq;exact aB
theorem oN (he:PE X (.BinOp a o b pos) te)(hr:PAq X es t):PAq X (.BinOp a o b pos::es) (dM te t):=by unfold PAq at*;exact dF he hr
end
@[irreducible] def nV (X:Cx)(st:List Stmt)(t:TS):Prop:=PSs X st t
section
end
@[irreducible] def PEq (X:Cx)(e:Expr)(t:TE):Prop:=PE X e t
@[irreducible] def PSq (X:Cx)(st:Stmt)(t:TS):Prop:=PS X st t
section
end
section
theorem tupq (h:PAq X es t):PEq X (.Tuple es k p1) (nM t):=by unfold PEq;exact dC (A1k h)
theorem lstq (h:PAq X es t):PEq X (.List es p1) (pA t):=by unfold PEq;exact cX (A1k h)
theorem mU (he:PEq X (.Tuple a k pos) te)(hr:PAq X es t):PAq X (.Tuple a k pos::es) (dM te t):=by unfold PEq at he;unfold PAq at*;exact gH he hr
theorem A9m (h:PEq X e te):nV X [.Return (some e) p3] (oV te):=by unfold PEq at h;unfold nV;exact aM (bC h)
theorem A2h {st:Stmt}{rest:List Stmt}{t u:TS}(h1:PS X st t)(h2:nV X rest u):PSs X (st::rest) (zH t u):=by unfold nV at h2;exact aU h1 h2
end
theorem Ext.updL (h:H l=some (.lst xs)):Ext H (upd H l (.lst ys))where
 tup:=λa zs e=>by rw[aY (pU e h (by simp))];exact e
 lst:=λa zs e=>by
  by_cases ha:a=l
  ·exact⟨ys,by rw[ha,aJ]⟩
  ·exact⟨zs,by rw[aY ha];exact e⟩
 dct:=λa zs e=>by rw[aY (pU e h (by simp))];exact e
end L2
namespace Grd
noncomputable abbrev bI:=List (List Int)
noncomputable def pos (n:Int):Bool:=decide (0<=n)
noncomputable def road (n:Int):Bool:=decide (n= -1)
noncomputable def fA (f:Int->Bool)(r:Int)(xs:List Int):List (Int×Int):=xs.zipIdx.filterMap λq=>if f q.1 then some (r,(q.2:Int))else none
noncomputable def aN (f:Int->Bool)(g:bI):List (Int×Int):=(g.zipIdx.map λp=>fA f p.2 p.1).flatten
noncomputable def atG (g:bI)(c:Int×Int):Int:=(g.getD c.1.toNat []).getD c.2.toNat 0
noncomputable def gW (xs:List Int):Int:=(xs.map λn=>if n>0 then n else 0).sum
noncomputable def bU (g:bI):Int:=(g.map gW).sum
noncomputable def fG (xs:List Int):Nat:=(xs.filter pos).length
noncomputable def dE (g:bI):Nat:=(g.map fG).sum
structure cU (g:bI)(w:Nat):Prop where
 h1:1<=g.length
 h4:g.length<=4
 w1:1<=w
 w5:w<=5
 len:∀xs∈g,xs.length=w
 num:∀xs∈g,∀n∈xs,-2<=n/\n<=99
 c1:1<=dE g
 c10:dE g<=10
theorem uE (xs:List α)(i:Nat)(x:α)(h:xs[i]?=some x):(xs.take (i+1)).zipIdx=(xs.take i).zipIdx++[(x,i)]:=by have hlt:i<xs.length:=(zjW.mp h).1;rw[take_succ,h,List.zipIdx_append];simp;omega
theorem rowF_succ (f:Int->Bool)(r:Int)(xs:List Int)(i:Nat)(x:Int)(h:xs[i]?=some x):fA f r (xs.take (i+1))=fA f r (xs.take i)++if f x then [(r,(i:Int))]else []:=by
 unfold fA;rw[uE xs i x h,List.filterMap_append]
 congr 1
 cases hf:f x<;>simp[hf]
theorem gridF_succ (f:Int->Bool)(g:bI)(i:Nat)(xs:List Int)(h:g[i]?=some xs):aN f (g.take (i+1))=aN f (g.take i)++fA f i xs:=by unfold aN;rw[uE g i xs h,map_append,List.flatten_append];simp
theorem mem_rowF:c∈fA f r xs↔c.1=r/\∃j x,c.2=(j:Nat)/\xs[j]?=some x/\f x=true:=by
 unfold fA;rw[mem_filterMap];constructor
 ·rintro⟨⟨x,j⟩,hm,e⟩;have hx:=mem_zipIdx_iff_getElem?.mp hm;cases hf:f x with
  |true=>
   simp only[hf,if_true,Option.some.injEq]at e;subst e;exact⟨rfl,j,x,rfl,hx,hf⟩
  |false=>simp[hf]at e
 ·rintro⟨e1,j,x,e2,hx,hf⟩;refine⟨(x,j),mem_zipIdx_iff_getElem?.mpr hx,?_⟩;simp only[hf,if_true,Option.some.injEq];exact Prod.ext e1.symm e2.symm
theorem mem_gridF:c∈aN f g↔ ∃(i j:Nat)(xs:List Int)(x:Int),c=((i:Int),(j:Int))/\g[i]?=some xs/\xs[j]?=some x/\f x=true:=by
 unfold aN;rw[mem_flatten];constructor
 ·rintro⟨l,hl,hc⟩;obtain⟨⟨xs,i⟩,hm,rfl⟩:=mem_map.mp hl;obtain⟨e1,j,x,e2,hx,hf⟩:=mem_rowF.mp hc;exact⟨i,j,xs,x,Prod.ext e1 e2,mem_zipIdx_iff_getElem?.mp hm,hx,hf⟩
 ·rintro⟨i,j,xs,x,rfl,hg,hx,hf⟩;exact⟨fA f i xs,mem_map.mpr ⟨(xs,i),mem_zipIdx_iff_getElem?.mpr hg,rfl⟩,mem_rowF.mpr ⟨rfl,j,x,rfl,hx,hf⟩⟩
theorem iZ {g:bI}{i j:Nat}{xs:List Int}{x:Int}(h1:g[i]?=some xs)(h2:xs[j]?=some x):atG g ((i:Int),(j:Int))=x:=by unfold atG;simp[getD_eq_getElem?_getD,h1,h2]
theorem A2a {r:Int}:∀(pre xs:List Int)(v:Int×Int->Int),(∀j x,xs[j]?=some x->v (r,((pre.length+j:Nat):Int))=x)->(((xs.zipIdx pre.length).filterMap λq=>if pos q.1 then some (r,(q.2:Int))else none).map v)=xs.filter pos
 |_,[],_,_=>by simp
 |pre,x::xs,v,h=>by
  have ih:=A2a (r:=r) (pre++[x]) xs v λj y hy=>by
   have:=h (j+1) y (by simpa using hy);rw[length_append];have e:pre.length+[x].length+j=pre.length+(j+1):=by simp;omega
   rw[e];exact this
  have h0:=h 0 x rfl;rw[length_append]at ih;rw[zipIdx_cons];have ih':(((xs.zipIdx (pre.length+1)).filterMap λq=>if pos q.1 then some (r,(q.2:Int))else none).map v)=xs.filter pos:=ih;cases hp:pos x with
  |true=>
   rw[List.filterMap_cons_some (b:=(r,(pre.length:Int))) (by simp[hp]),map_cons,ih',filter_cons_of_pos hp]
   congr 1
  |false=>
   rw[List.filterMap_cons_none (by simp[hp]),ih',filter_cons_of_neg (by simp[hp])]
theorem tJ (g:bI):(aN pos g).map (atG g)=(g.map λxs=>xs.filter pos).flatten:=by
 unfold aN;rw[List.map_flatten,map_map];have e:g.zipIdx.map (List.map (atG g)∘λp=>fA pos p.2 p.1)=g.zipIdx.map λp=>p.1.filter pos:=by
  refine map_congr_left λp hp=> ?_;obtain⟨xs,i⟩:=p;have hx:=mem_zipIdx_iff_getElem?.mp hp;show(fA pos i xs).map (atG g)=xs.filter pos;exact A2a (r:=(i:Int)) [] xs (atG g) λj x hj=>by
   simp only[length_nil,zero_add];exact iZ hx hj
 rw[e]
 congr 1
 have:(λp:List Int×Nat=>p.1.filter pos)=(λxs=>xs.filter pos)∘Prod.fst:=rfl;rw[this,←map_map,List.zipIdx_map_fst]
theorem A30 (xs:List Int):(xs.filter pos).sum=gW xs:=by
 unfold gW
 induction xs with
 |nil=>rfl
 |cons x xs ih=>
  rw[map_cons,sum_cons,←ih];by_cases h:0<=x
  ·rw[filter_cons_of_pos (by simp[pos,h]),sum_cons]
   congr 1
   split<;>omega
  ·rw[filter_cons_of_neg (by simp[pos,h])];rw[if_neg (by omega)];omega
theorem uV:∀g:bI,(g.map λxs=>xs.filter pos).flatten.sum=bU g
 | []=>rfl
 |xs::g=>by
  rw[map_cons,flatten_cons,List.sum_append,A30,uV g];unfold bU;rw[map_cons,sum_cons]
theorem xA (g:bI):((aN pos g).map (atG g)).sum=bU g:=by rw[tJ,uV]
theorem eU (g:bI):(aN pos g).length=dE g:=by have:=congrArg List.length (tJ g);rw[length_map]at this;rw[this,List.length_flatten,map_map];rfl
end Grd
namespace L2
open PySem Grd
noncomputable def kG (s:Stmt):List Stmt:=match s with| .For _ _ b _ _=>b|_=> []
noncomputable def RowsG (H:Hp)(bs:List Addr)(g:bI):Prop:=Paired (λb xs=>H b=some (.tup ((xs:List Int).map V.int))) bs g
noncomputable def GridAt (H:Hp)(a:Addr)(g:bI):Prop:=∃bs:List Addr,H a=some (.tup (bs.map V.ref))/\RowsG H bs g
theorem RowsG.ext (h:RowsG H bs g)(e:Ext H H'):RowsG H' bs g:=Paired.mapP h λ_ _ z=>e.tup _ _ z
theorem GridAt.ext (h:GridAt H a g)(e:Ext H H'):GridAt H' a g:=let ⟨bs,h1,h2⟩:=h;⟨bs,e.tup _ _ h1,h2.ext e⟩
theorem RowsG.get:∀{bs:List Addr}{g:bI}{i:Nat}{xs:List Int},RowsG H bs g->g[i]?=some xs->∃b,bs[i]?=some b/\H b=some (.tup (xs.map V.int))
 |_,_,0,_,.cons r _,h=>by cases h;exact⟨_,rfl,r⟩
 |_,_,i+1,_,.cons _ t,h=>RowsG.get (i:=i) t (by simpa using h)
theorem RowsG.row:∀{bs:List Addr}{g:bI}{i:Nat}{b:Addr},RowsG H bs g->bs[i]?=some b->∃xs,g[i]?=some xs/\H b=some (.tup (xs.map V.int))
 |_,_,0,_,.cons r _,h=>by cases h;exact⟨_,rfl,r⟩
 |_,_,i+1,_,.cons _ t,h=>RowsG.row (i:=i) t (by simpa using h)
end L2
namespace M51
open PySem L2 PyProof.Rows Grd
structure eE (mg:Str->Option Value):Prop where
 range:mg "range" =none
 list:mg "list" =none
 zip:mg "zip" =none
 sum:mg "sum" =none
 dict:mg "dict" =none
 set:mg "set" =none
 sorted:mg "sorted" =none
 any:mg "any" =none
 abs:mg "abs" =none
 road:∃t,mg "ROAD" =some (.int (-1) t)
end M51
namespace L2
open PySem PySem.Spec PyProof.Rows
noncomputable def PlAt (H:Hp)(ps:List Addr)(cs:List (Int×Int)):Prop:=Paired (λp c=>H p=some (.tup [.int c.1,.int c.2])) ps cs
theorem PlAt.same (h:PlAt H ps cs)(s:Same H H'):PlAt H' ps cs:=Paired.mapP h λ_ _ e=>s _ _ e
theorem PlAt.snoc (h:PlAt H ps cs)(e:H p=some (.tup [.int c.1,.int c.2])):PlAt H (ps++[p]) (cs++[c]):=Paired.snoc h e
end L2
namespace PySem
open Sem (wp)
section
structure hW (z TI TO i1 i2:Addr)(f1 f2:List Addr):Prop where
 z1:z∉f1
 z2:z∉f2
 o1:TO∉f1
 o2:TO∉f2
 c1:i1∉f2
 c2:i2∉f1
 Iz:TI≠z
 Oz:TO≠z
 iz:i1≠z
 jz:i2≠z
 IO:TI≠TO
 I1:TI≠i1
 I2:TI≠i2
 O1:TO≠i1
 O2:TO≠i2
 ij:i1≠i2
theorem wW (n a b:Nat)(h1:a<n)(h2:b<n):hW (n+4) (n+2) (n+3) n (n+1) [n,a] [n+1,b]:=by
  constructor<;>intro h<;>first
    | (have h':@Eq Nat _ _:=h;omega)
    | (rcases mem_cons.mp h with y|y
       · have y':@Eq Nat _ _:=y;omega
       · have y':@Eq Nat _ _:=mem_singleton.mp y;omega)
theorem A6w {z TI TO i1 i2:Addr}{f1 f2:List Addr}{n1 n2 k:Nat}{P1 P2:Nat->Value->Prop}{S1 S2:Nat->Heap->Prop}{a b:Value}{Q:Value->Shared->Prop}(D1:Draws prog w A i1 f1 n1 P1 S1)(D2:Draws prog w A i2 f2 n2 P2 S2)(D:hW z TI TO i1 i2 f1 f2)
  (hz:IsZip s.heap z TI TO .none)(hTI:IsPair s.heap TI (.ref i1) (.ref i2))(hTO:IsPair s.heap TO a b)(t1:S1 k s.heap)(t2:S2 k s.heap)(hk1:k<n1)(hk2:k<n2)
  (hQ:∀x y h' tk,P1 k x->P2 k y->IsZip h' z TI TO (rawInt s.heap.objs.size)->IsPair h' TO x y->S1 (k+1) h'->S2 (k+1) h'->IsPair h' s.heap.objs.size x y->
   (∀c o,c≠z->c≠TO->c≠i1->c≠i2->s.heap.get? c=some o->h'.get? c=some o)->Q (.ref s.heap.objs.size) {s with heap:=h',toks:=tk}):
  wpAny (model prog w) A (Builtin.«zip.__next__» ⟨[.ref z],[]⟩) (λfin s'=> ∃v,fin= .done (.ret v)/\Q v s') E s:=by
 show wpAny _ _ (field (.ref z) 2>>=_) _ _ _;refine zjZ (wpAny_field hz rfl (x:=.bool false) rfl ?_);show wpAny _ _ (field (.ref z) 3>>=_) _ _ _;refine zjZ (wpAny_field hz rfl (x:=.ref TI) rfl (zjZ (wpAny_seqItems hTI rfl ?_)));show wpAny _ _ (Builtin.SmallTypes.ownedTupleIsFree (.ref z)>>=_) _ _ _;refine zjZ ?_;unfold Builtin.SmallTypes.ownedTupleIsFree;refine zjZ (wpAny_field hz rfl (x:=.none) rfl (zjY ?_));simp only[if_true];refine zjZ (wpAny_rule (zjZ (wpAny_field hz rfl (x:=.ref TO) rfl (zjZ (wpAny_setField_rec hz (by simp) λh₁ hz₁ hs₁=> ?_)))));replace hz₁:IsZip h₁ z TI TO .ellipsis:=hz₁;refine zjZ ?_;simp only[zipIdx_cons,zipIdx_nil,forIn_cons,forIn_nil];refine zjZ (zjZ (wpAny_onRaise ?_));show wpAny _ _ (Builtin.SmallTypes.nextOf (.ref i1)>>=_) _ _ _;have u1:S1 k h₁:=D1.frame k _ _ t1 λc hc o e=>hs₁.extBut _ _ (λq=>D.z1 (q▸hc)) e;refine zjZ (D1.item k _ _ _ hk1 u1 λx h₂ tk₂ hx v1 hs₂=>zjY ?_);have hTO₂:IsPair h₂ TO a b:=hs₂.extBut _ _ D.O1 (hs₁.extBut _ _ D.Oz hTO);refine zjZ (wpAny_seqItems hTO₂ rfl (zjZ (wpAny_updateSeq_pair hTO₂ λh₃ hTO₃ hs₃=> ?_)));replace hTO₃:IsPair h₃ TO x b:=hTO₃;refine zjZ (wpAny_letGo (zjY ?_));refine zjZ (zjZ (wpAny_onRaise ?_));show wpAny _ _ (Builtin.SmallTypes.nextOf (.ref i2)>>=_) _ _ _;have u2:S2 k h₃:=D2.frame k _ _ t2 λc hc o e=>hs₃.extBut _ _ (λq=>D.o2 (q▸hc)) (hs₂.extBut _ _ (λq=>D.c1 (q▸hc)) (hs₁.extBut _ _ (λq=>D.z2 (q▸hc)) e));refine zjZ (D2.item k _ _ _ hk2 u2 λy h₄ tk₄ hy v2 hs₄=>zjY ?_);have hTO₄:IsPair h₄ TO x b:=hs₄.extBut _ _ D.O2 hTO₃;refine zjZ (wpAny_seqItems hTO₄ rfl (zjZ (wpAny_updateSeq_pair hTO₄ λh₅ hTO₅ hs₅=> ?_)));replace hTO₅:IsPair h₅ TO x y:=hTO₅;refine zjZ (wpAny_letGo (zjY (zjY ?_)));refine zjZ (wpAny_seqItems hTO₅ rfl (zjZ (wpAny_newTuple ?_)));have hsz:h₅.objs.size=s.heap.objs.size:=by rw[hs₅.1,hs₄.1,hs₃.1,hs₂.1,hs₁.1]
 have hz₅:IsZip h₅ z TI TO .ellipsis:=hs₅.extBut _ _ D.Oz.symm (hs₄.extBut _ _ D.jz.symm (hs₃.extBut _ _ D.Oz.symm (hs₂.extBut _ _ D.iz.symm hz₁)));have hk₅:∀c o,c≠z->c≠TO->c≠i1->c≠i2->s.heap.get? c=some o->h₅.get? c=some o:=λc o e1 e2 e3 e4 e=>hs₅.extBut _ _ e2 (hs₄.extBut _ _ e4 (hs₃.extBut _ _ e2 (hs₂.extBut _ _ e3 (hs₁.extBut _ _ e1 e))));have w1:S1 (k+1) h₅:=D1.frame _ _ _ v1 λc hc o e=>hs₅.extBut _ _ (λq=>D.o1 (q▸hc)) (hs₄.extBut _ _ (λq=>D.c2 (q▸hc)) (hs₃.extBut _ _ (λq=>D.o1 (q▸hc)) e));have w2:S2 (k+1) h₅:=D2.frame _ _ _ v2 λc hc o e=>hs₅.extBut _ _ (λq=>D.o2 (q▸hc)) e;have hzlt:z<h₅.objs.size:=zjT hz₅;show wpAny _ _ (Builtin.SmallTypes.ownedTupleHandOut (.ref z) (.ref h₅.objs.size)>>=_) _ _ _;refine zjZ ?_;unfold Builtin.SmallTypes.ownedTupleHandOut;have hz₆:IsZip (h₅.push {cls:=.type "tuple",data:=.seq #[x,y]}) z TI TO .ellipsis:=zjX _ hz₅;refine zjZ (wpAny_setField_rec hz₆ (by simp) λh₇ hz₇ hs₇=> ?_);replace hz₇:IsZip h₇ z TI TO (rawInt h₅.objs.size):=hz₇;refine wpAny_setField_rec hz₇ (by simp) λh₈ hz₈ hs₈=> ?_;replace hz₈:IsZip h₈ z TI TO (rawInt h₅.objs.size):=hz₈;have up:∀c o,c≠z->h₅.get? c=some o->h₈.get? c=some o:=λc o e1 e=>hs₈.extBut _ _ e1 (hs₇.extBut _ _ e1 (zjX _ e));have hT₈:IsPair h₈ h₅.objs.size x y:=hs₈.extBut _ _ (ne_of_gt hzlt) (hs₇.extBut _ _ (ne_of_gt hzlt) (get?_push_size _ rfl));rw[hsz]at hz₈ hT₈;refine zjY ⟨_,rfl,?_⟩;show Q (.ref h₅.objs.size) _;rw[hsz];exact hQ x y h₈ _ hx hy hz₈ (up _ _ D.Oz hTO₅) (D1.frame _ _ _ w1 λc hc o e=>up c o (λq=>D.z1 (q▸hc)) e) (D2.frame _ _ _ w2 λc hc o e=>up c o (λq=>D.z2 (q▸hc)) e) hT₈ λc o e1 e2 e3 e4 e=>up c o e1 (hk₅ c o e1 e2 e3 e4 e)
theorem A9n (D1:Draws prog w A i1 f1 n1 P1 S1)(D:hW z TI TO i1 i2 f1 f2)
  (hz:IsZip s.heap z TI TO .none)(hTI:IsPair s.heap TI (.ref i1) (.ref i2))(t1:S1 n1 s.heap)
  (hE:∀h' e,(∀c o,c≠z->c≠i1->s.heap.get? c=some o->h'.get? c=some o)->(∃o,h'.get? e=some o/\o.cls= .type "StopIteration")->E (.ref e) {s with heap:=h'}):
  wpAny (model prog w) A (Builtin.«zip.__next__» ⟨[.ref z],[]⟩) Q E s:=by
 show wpAny _ _ (field (.ref z) 2>>=_) _ _ _;refine zjZ (wpAny_field hz rfl (x:=.bool false) rfl ?_);show wpAny _ _ (field (.ref z) 3>>=_) _ _ _;refine zjZ (wpAny_field hz rfl (x:=.ref TI) rfl (zjZ (wpAny_seqItems hTI rfl ?_)));show wpAny _ _ (Builtin.SmallTypes.ownedTupleIsFree (.ref z)>>=_) _ _ _;refine zjZ ?_;unfold Builtin.SmallTypes.ownedTupleIsFree;refine zjZ (wpAny_field hz rfl (x:=.none) rfl (zjY ?_));simp only[if_true];refine zjZ (wpAny_rule (zjZ (wpAny_field hz rfl (x:=.ref TO) rfl (zjZ (wpAny_setField_rec hz (by simp) λh₁ hz₁ hs₁=> ?_)))));replace hz₁:IsZip h₁ z TI TO .ellipsis:=hz₁;refine zjZ ?_;simp only[zipIdx_cons,zipIdx_nil,forIn_cons,forIn_nil];refine zjZ (zjZ (wpAny_onRaise ?_));show wpAny _ _ (Builtin.SmallTypes.nextOf (.ref i1)>>=_) _ _ _;have u1:S1 n1 h₁:=D1.frame n1 _ _ t1 λc hc o e=>hs₁.extBut _ _ (λq=>D.z1 (q▸hc)) e;refine zjZ (D1.done _ _ _ u1 λh₂ e hs₂ he=> ?_);obtain⟨oe,hoe,hce⟩:=he;have hz₂:IsZip h₂ z TI TO .ellipsis:=hs₂ _ _ D.iz.symm hz₁;have hez:e≠z:=λx=>by subst x;rw[hz₂]at hoe;cases hoe;simp at hce
 refine wpAny_setField_rec hz₂ (by simp) λh₃ _ hs₃=>hE h₃ e (λc o c1 c3 x=>hs₃.extBut _ _ c1 (hs₂ _ _ c3 (hs₁.extBut _ _ c1 x))) ⟨oe,hs₃.extBut _ _ hez hoe,hce⟩
theorem A33 {z TI TO i1 i2:Addr}{f1 f2:List Addr}{n1 n2 k:Nat}{P1 P2:Nat->Value->Prop}{S1 S2:Nat->Heap->Prop}{a b:Value}{Q:Option Value->Shared->Prop}(D1:Draws prog w A.in1 i1 f1 n1 P1 S1)(D2:Draws prog w A.in1 i2 f2 n2 P2 S2)(D:hW z TI TO i1 i2 f1 f2)
  (hz:IsZip s.heap z TI TO .none)(hTI:IsPair s.heap TI (.ref i1) (.ref i2))(hTO:IsPair s.heap TO a b)(t1:S1 k s.heap)(t2:S2 k s.heap)(hk1:k<n1)(hk2:k<n2)
  (hQ:∀x y h' tk,P1 k x->P2 k y->IsZip h' z TI TO (rawInt s.heap.objs.size)->IsPair h' TO x y->S1 (k+1) h'->S2 (k+1) h'->IsPair h' s.heap.objs.size x y->
   (∀c o,c≠z->c≠TO->c≠i1->c≠i2->s.heap.get? c=some o->h'.get? c=some o)->Q (some (.ref s.heap.objs.size)) {s with heap:=h',toks:=tk}):
  wpAny (model prog w) A (pyNext (.ref z)) Q E s:=by
 have hT:s.TypeIs (.ref z) "zip":=⟨_,hz,rfl⟩;unfold pyNext;exact zjZ (wpAny_attempt (wpAny_callSpecial?_slot (name:=Str.ofString "__next__") hT F.slot_zip_next (wpAny_call_entry F.slot_zip_next hT F.entry_zip_next
   (A6w D1 D2 D hz hTI hTO t1 t2 hk1 hk2 λx y h' tk q1 q2 a1 a2 a3 a4 a5 a6=>zjY (hQ x y h' tk q1 q2 a1 a2 a3 a4 a5 a6)) (F.args_zip_next_1 _))))
theorem A8r (D1:Draws prog w A.in1 i1 f1 n1 P1 S1)(D:hW z TI TO i1 i2 f1 f2)
  (hz:IsZip s.heap z TI TO .none)(hTI:IsPair s.heap TI (.ref i1) (.ref i2))(t1:S1 n1 s.heap)
  (hQ:∀h',(∀c o,c≠z->c≠i1->s.heap.get? c=some o->h'.get? c=some o)->Q none {s with heap:=h'}):wpAny (model prog w) A (pyNext (.ref z)) Q E s:=by
 have hT:s.TypeIs (.ref z) "zip":=⟨_,hz,rfl⟩;unfold pyNext;refine zjZ (wpAny_attempt (wpAny_callSpecial?_slot (name:=Str.ofString "__next__") hT F.slot_zip_next (wpAny_call_entry F.slot_zip_next hT F.entry_zip_next (A9n D1 D hz hTI t1 λh' e hk he=> ?_) (F.args_zip_next_1 _))));obtain⟨o,ho,hc⟩:=he;exact zjZ (wpAny_isInstance (T:="StopIteration") (b:=true) ⟨o,ho,hc⟩ isSubtype_stop (zjY (hQ _ hk)))
end
noncomputable abbrev zT1 (h:Heap)(l1:Addr):Heap:=h.push {cls:=.type "tuple_iterator",data:=.fields #[.ref l1,.int 0 0]}
noncomputable abbrev zT2 (h:Heap)(l1 l2:Addr):Heap:=(zT1 h l1).push {cls:=.type "tuple_iterator",data:=.fields #[.ref l2,.int 0 0]}
noncomputable abbrev zT3 (h:Heap)(l1 l2:Addr):Heap:=(zT2 h l1 l2).push {cls:=.type "tuple",data:=.seq #[.ref h.objs.size,.ref (zT1 h l1).objs.size]}
noncomputable abbrev zT4 (h:Heap)(l1 l2:Addr):Heap:=(zT3 h l1 l2).push {cls:=.type "tuple",data:=.seq #[.none,.none]}
noncomputable abbrev zT5 (h:Heap)(l1 l2:Addr):Heap:=(zT4 h l1 l2).push {cls:=.type "zip",data:=.fields #[.none,.bool false,.bool false,.ref (zT2 h l1 l2).objs.size,.ref (zT3 h l1 l2).objs.size]}
theorem A5k (l1 l2:Addr)(xs ys:Array Value):
  Meets (Builtin.«zip.__new__» ⟨[.type "zip",.ref l1,.ref l2],[]⟩) (λ_ R s=>s.heap.IsTuple l1 xs/\s.heap.IsTuple l2 ys/\R (.ok (.ret (.ref (zT4 s.heap l1 l2).objs.size))) {s with heap:=zT5 s.heap l1 l2}):=
 .of_wp λprog w A R s h=>by
  obtain⟨hp,g,d,tk,os⟩:=s;obtain⟨p1,p2,h⟩:=h;have isz:=sub_zip;have q1:Heap.IsTuple (Shared.heap ⟨hp,g,d,tk,os⟩) l1 xs:=p1;have q2:Heap.IsTuple (Shared.heap ⟨hp.push {cls:=.type "tuple_iterator",data:=.fields #[.ref l1,.int 0 0]},g,d,tk,os⟩) l2 ys:=let ⟨o,ho,r⟩:=p2;⟨o,zjX _ ho,r⟩
  wp_walk using wpAny_pyIter_tuple q1,wpAny_pyIter_tuple q2
  exact⟨_,rfl,h⟩
section
theorem A4m (p1:s.heap.IsTuple l1 xs)(p2:s.heap.IsTuple l2 ys)
  (h:∀h',IsZip h' (s.heap.objs.size+4) (s.heap.objs.size+2) (s.heap.objs.size+3) .none->IsPair h' (s.heap.objs.size+2) (.ref s.heap.objs.size) (.ref (s.heap.objs.size+1))->
   IsPair h' (s.heap.objs.size+3) .none .none->h'.IsTupleIter s.heap.objs.size l1 0->h'.IsTupleIter (s.heap.objs.size+1) l2 0->h'.objs.size=s.heap.objs.size+5->
   (∀c o,s.heap.get? c=some o->h'.get? c=some o)->Q (.ref (s.heap.objs.size+4)) {s with heap:=h'}):
  wpAny (model prog w) A (call (.type "zip") [.ref l1,.ref l2]) Q E s:=by
 refine callType_new F.called_zip (by decide) (F.typeCall_zip_2 _ _) (F.newCall_zip_2 _ _) (λobj=>F.args_object_init_3 obj _ _) F.entry_zip_new (A5k l1 l2 xs ys) ⟨p1,p2,?_⟩;have y1:(zT1 s.heap l1).objs.size=s.heap.objs.size+1:=size_push ..;have y2:(zT2 s.heap l1 l2).objs.size=s.heap.objs.size+2:=by rw[size_push,y1]
 have y3:(zT3 s.heap l1 l2).objs.size=s.heap.objs.size+3:=by rw[size_push,y2]
 have y4:(zT4 s.heap l1 l2).objs.size=s.heap.objs.size+4:=by rw[size_push,y3]
 have y5:(zT5 s.heap l1 l2).objs.size=s.heap.objs.size+5:=by rw[size_push,y4]
 have r5:(zT5 s.heap l1 l2).get? (zT4 s.heap l1 l2).objs.size=some _:=get?_push_size _ rfl;have r4:(zT5 s.heap l1 l2).get? (zT3 s.heap l1 l2).objs.size=some _:=zjX _ (get?_push_size _ rfl);have r3:(zT5 s.heap l1 l2).get? (zT2 s.heap l1 l2).objs.size=some _:=zjX _ (zjX _ (get?_push_size _ rfl));have r2:(zT5 s.heap l1 l2).get? (zT1 s.heap l1).objs.size=some _:=zjX _ (zjX _ (zjX _ (get?_push_size _ rfl)));have r1:(zT5 s.heap l1 l2).get? s.heap.objs.size=some _:=zjX _ (zjX _ (zjX _ (zjX _ (get?_push_size _ rfl))));show _/\_;rw[y2,y3,y4]at r5;rw[y1,y2]at r3;rw[y3]at r4;rw[y1]at r2;rw[y4];exact⟨⟨_,r5,rfl⟩,h _ r5 r3 r4 ⟨_,r1,rfl,rfl⟩ ⟨_,r2,rfl,rfl⟩ y5 λc o x=>zjX _ (zjX _ (zjX _ (zjX _ (zjX _ x))))⟩
theorem A26 (D1:Draws prog w A i1 f1 n1 P1 S1)(D2:Draws prog w A i2 f2 n2 P2 S2)(D:hW z TI TO i1 i2 f1 f2)
  (hz:IsZip s.heap z TI TO .none)(hTI:IsPair s.heap TI (.ref i1) (.ref i2))(hTO:IsPair s.heap TO a b)(t1:S1 n2 s.heap)(t2:S2 n2 s.heap)(hk1:n2<n1)
  (hE:∀h' e tk,(∀c o,c≠z->c≠TO->c≠i1->c≠i2->s.heap.get? c=some o->h'.get? c=some o)->(∃o,h'.get? e=some o/\o.cls= .type "StopIteration")->E (.ref e) {s with heap:=h',toks:=tk}):
  wpAny (model prog w) A (Builtin.«zip.__next__» ⟨[.ref z],[]⟩) Q E s:=by
 show wpAny _ _ (field (.ref z) 2>>=_) _ _ _;refine zjZ (wpAny_field hz rfl (x:=.bool false) rfl ?_);show wpAny _ _ (field (.ref z) 3>>=_) _ _ _;refine zjZ (wpAny_field hz rfl (x:=.ref TI) rfl (zjZ (wpAny_seqItems hTI rfl ?_)));show wpAny _ _ (Builtin.SmallTypes.ownedTupleIsFree (.ref z)>>=_) _ _ _;refine zjZ ?_;unfold Builtin.SmallTypes.ownedTupleIsFree;refine zjZ (wpAny_field hz rfl (x:=.none) rfl (zjY ?_));simp only[if_true];refine zjZ (wpAny_rule (zjZ (wpAny_field hz rfl (x:=.ref TO) rfl (zjZ (wpAny_setField_rec hz (by simp) λh₁ hz₁ hs₁=> ?_)))));replace hz₁:IsZip h₁ z TI TO .ellipsis:=hz₁;refine zjZ ?_;simp only[zipIdx_cons,zipIdx_nil,forIn_cons,forIn_nil];refine zjZ (zjZ (wpAny_onRaise ?_));show wpAny _ _ (Builtin.SmallTypes.nextOf (.ref i1)>>=_) _ _ _;have u1:S1 n2 h₁:=D1.frame n2 _ _ t1 λc hc o e=>hs₁.extBut _ _ (λq=>D.z1 (q▸hc)) e;refine zjZ (D1.item n2 _ _ _ hk1 u1 λx h₂ tk₂ hx v1 hs₂=>zjY ?_);have hTO₂:IsPair h₂ TO a b:=hs₂.extBut _ _ D.O1 (hs₁.extBut _ _ D.Oz hTO);refine zjZ (wpAny_seqItems hTO₂ rfl (zjZ (wpAny_updateSeq_pair hTO₂ λh₃ hTO₃ hs₃=> ?_)));refine zjZ (wpAny_letGo (zjY ?_));refine zjZ (zjZ (wpAny_onRaise ?_));show wpAny _ _ (Builtin.SmallTypes.nextOf (.ref i2)>>=_) _ _ _;have u2:S2 n2 h₃:=D2.frame n2 _ _ t2 λc hc o e=>hs₃.extBut _ _ (λq=>D.o2 (q▸hc)) (hs₂.extBut _ _ (λq=>D.c1 (q▸hc)) (hs₁.extBut _ _ (λq=>D.z2 (q▸hc)) e));refine zjZ (D2.done _ _ _ u2 λh₄ e hs₄ he=> ?_);obtain⟨oe,hoe,hce⟩:=he;have hz₄:IsZip h₄ z TI TO .ellipsis:=hs₄ _ _ D.jz.symm (hs₃.extBut _ _ D.Oz.symm (hs₂.extBut _ _ D.iz.symm hz₁));have hez:e≠z:=λx=>by subst x;rw[hz₄]at hoe;cases hoe;simp at hce
 refine wpAny_setField_rec hz₄ (by simp) λh₅ _ hs₅=>hE h₅ e _ (λc o c1 c2 c3 c4 x=>hs₅.extBut _ _ c1 (hs₄ _ _ c4 (hs₃.extBut _ _ c2 (hs₂.extBut _ _ c3 (hs₁.extBut _ _ c1 x))))) ⟨oe,hs₅.extBut _ _ hez hoe,hce⟩
theorem A4l (D1:Draws prog w A.in1 i1 f1 n1 P1 S1)(D2:Draws prog w A.in1 i2 f2 n2 P2 S2)(D:hW z TI TO i1 i2 f1 f2)
  (hz:IsZip s.heap z TI TO .none)(hTI:IsPair s.heap TI (.ref i1) (.ref i2))(hTO:IsPair s.heap TO a b)(t1:S1 n2 s.heap)(t2:S2 n2 s.heap)(hk1:n2<n1)
  (hQ:∀h' tk,(∀c o,c≠z->c≠TO->c≠i1->c≠i2->s.heap.get? c=some o->h'.get? c=some o)->Q none {s with heap:=h',toks:=tk}):wpAny (model prog w) A (pyNext (.ref z)) Q E s:=by
 have hT:s.TypeIs (.ref z) "zip":=⟨_,hz,rfl⟩;unfold pyNext;refine zjZ (wpAny_attempt (wpAny_callSpecial?_slot (name:=Str.ofString "__next__") hT F.slot_zip_next (wpAny_call_entry F.slot_zip_next hT F.entry_zip_next (A26 D1 D2 D hz hTI hTO t1 t2 hk1 λh' e tk hk he=> ?_) (F.args_zip_next_1 _))));obtain⟨o,ho,hc⟩:=he;exact zjZ (wpAny_isInstance (T:="StopIteration") (b:=true) ⟨o,ho,hc⟩ isSubtype_stop (zjY (hQ _ _ hk)))
end
end PySem
namespace L2
open PySem PySem.Spec PyProof.Rows
structure SeqK where
 Sq:W.Frag->Hp->Addr->List V->Prop
 isq:Heap->Addr->Array Value->Prop
 iit:Heap->Addr->Addr->Nat->Prop
structure SeqK.Ok (k:SeqK):Prop where
 get:∀{X:Cx}{pins:List (Addr×Obj)}{σ:St}{H:Hp}{s:Shared}{a:Addr}{xs:List V},Inv X pins σ H s->k.Sq X.K H a xs->∃its:List Value,Vals xs its/\k.isq s.heap a its.toArray
 inj:∀{X:Cx}{pins:List (Addr×Obj)}{σ:St}{H:Hp}{s:Shared}{a:Addr}{xs ys:List V},Inv X pins σ H s->k.Sq X.K H a xs->k.Sq X.K H a ys->xs=ys
 lt:∀{h:Heap}{a:Addr}{its:Array Value},k.isq h a its->a<h.objs.size
 dr:∀{prog:Program}{w:World}{A:Around},A.handled=none->∀(it l:Addr),l≠it->∀items:Array Value,Draws prog w A it [it,l] items.size (λi v=>items[i]?=some v) (λi h=>k.iit h it l i/\k.isq h l items)
 obj:∀{h:Heap}{it l:Addr}{i:Nat},k.iit h it l i->∃o,h.get? it=some o/\∀v,o.data≠ .cell v
 «at»:∀{h h':Heap}{it l:Addr}{i:Nat},k.iit h it l i->(∀o,h.get? it=some o->h'.get? it=some o)->k.iit h' it l i
 zip:∀{prog:Program}{w:World}{A:Around}{E:Value->Shared->Prop}{s:Shared}{l1 l2:Addr}{xs ys:Array Value}{Q:Value->Shared->Prop},k.isq s.heap l1 xs->k.isq s.heap l2 ys->
  (∀h',IsZip h' (s.heap.objs.size+4) (s.heap.objs.size+2) (s.heap.objs.size+3) .none->IsPair h' (s.heap.objs.size+2) (.ref s.heap.objs.size) (.ref (s.heap.objs.size+1))->IsPair h' (s.heap.objs.size+3) .none .none->
   k.iit h' s.heap.objs.size l1 0->k.iit h' (s.heap.objs.size+1) l2 0->(∀c o,s.heap.get? c=some o->h'.get? c=some o)->Q (.ref (s.heap.objs.size+4)) {s with heap:=h'})->wpAny (model prog w) A (call (.type "zip") [.ref l1,.ref l2]) Q E s
noncomputable def kL:SeqK:=⟨SqL,Heap.IsList,Heap.IsListIter⟩
noncomputable def kT:SeqK:=⟨SqT,Heap.IsTuple,Heap.IsTupleIter⟩
theorem kL_ok:kL.Ok where
 get:=λI h=>let ⟨its,r,p,_⟩:=I.list h;⟨its,r,p.isList⟩
 inj:=λI h1 h2=>I.list_inj h1 h2
 lt:=λp=>let ⟨o,ho,_⟩:=p;zjT ho
 dr:=λhh it l hne items=>Draws.list hh it l hne items
 obj:=λ⟨o,e,c,d⟩=> ⟨o,e,λv z=>by rw[d]at z;cases z⟩
 «at»:=λx k=>Heap.IsListIter.at x k
 zip:=λp1 p2 h=>call_zip_2 p1 p2 λh' a1 a2 a3 a4 a5 _ a7=>h h' a1 a2 a3 a4 a5 a7
theorem kT_ok:kT.Ok where
 get:=λI h=>let ⟨its,r,p,_⟩:=I.tuple h;⟨its,r,p⟩
 inj:=λI h1 h2=>I.tuple_inj h1 h2
 lt:=λp=>let ⟨o,ho,_⟩:=p;zjT ho
 dr:=λhh it l hne items=>Draws.tuple hh it l hne items
 obj:=λ⟨o,e,c,d⟩=> ⟨o,e,λv z=>by rw[d]at z;cases z⟩
 «at»:=λx k=>Heap.IsTupleIter.at x k
 zip:=λp1 p2 h=>A4m p1 p2 λh' a1 a2 a3 a4 a5 _ a7=>h h' a1 a2 a3 a4 a5 a7
noncomputable def Itz (S1 S2:Hp->List V->Prop):It:=
 ⟨λi H=> ∃xs ys x y,S1 H xs/\S2 H ys/\xs[i]?=some x/\ys[i]?=some y,λi H v H'=> ∃p x y,v= .ref p/\H p=none/\H'=upd H p (.tup [x,y])/\(∀xs,S1 H xs->xs[i]?=some x)/\∀ys,S2 H ys->ys[i]?=some y,λi H=> ∃xs ys,S1 H xs/\S2 H ys/\(xs.length=i\/(ys.length=i/\i<xs.length))⟩
theorem uQ {P:Program}{w:World}{K:W.Frag}{es:List Expr}{x1}{pos:Pos}{k k2:SeqK}(ok:k.Ok)(ok2:k2.Ok)(z TI TO i1 i2 a b:Addr)(D:hW z TI TO i1 i2 [i1,a] [i2,b])(ha:a≠i1)(hb:b≠i2):
  hJ P w K (.Tuple es x1 pos) (Itz (λH xs=>k.Sq K H a xs) λH ys=>k2.Sq K H b ys) [z,TI,TO,i1,i2] z (λi h=>IsZip h z TI TO .none/\IsPair h TI (.ref i1) (.ref i2)/\(∃u v,IsPair h TO u v)/\k.iit h i1 a i/\k2.iit h i2 b i)where
 mem:=by simp
 obj:=λi h st c hc=>by
  obtain⟨hz,hTI,⟨u,v,hTO⟩,h1,h2⟩:=st;simp only[mem_cons,not_mem_nil,or_false]at hc;rcases hc with rfl|rfl|rfl|rfl|rfl
  ·exact⟨_,hz,λv z=>by cases z⟩
  ·exact⟨_,hTI,λv z=>by cases z⟩
  ·exact⟨_,hTO,λv z=>by cases z⟩
  ·exact ok.obj h1
  ·exact ok2.obj h2
 keep:=λi h h' st kp=>by
  obtain⟨hz,hTI,⟨u,v,hTO⟩,h1,h2⟩:=st;exact⟨kp z (by simp) _ hz,kp TI (by simp) _ hTI,⟨u,v,kp TO (by simp) _ hTO⟩,ok.at h1 λo q=>kp i1 (by simp) o q,ok2.at h2 λo q=>kp i2 (by simp) o q⟩
 item:=by
  intro X hP hw hK hc i pins s σ H E I hf st hg;subst hP hw hK;obtain⟨hz,hTI,⟨u,v,hTO⟩,h1,h2⟩:=st;obtain⟨xs,ys,x,y,q1,q2,e1,e2⟩:=hg;obtain⟨its,rv,p1⟩:=ok.get I q1;obtain⟨jts,rw',p2⟩:=ok2.get I q2;obtain⟨ux,hux,rx⟩:=rv.get e1;obtain⟨uy,huy,ry⟩:=rw'.get e2;have l1:i<its.toArray.size:=by rw[size_toArray];exact(zjW.mp hux).1
  have l2:i<jts.toArray.size:=by rw[size_toArray];exact(zjW.mp huy).1
  have hh:X.A.in1.handled=none:=by simp[I.ok.hd hc]
  refine A33 (ok.dr hh i1 a ha its.toArray) (ok2.dr hh i2 b hb jts.toArray) D hz hTI hTO ⟨h1,p1⟩ ⟨h2,p2⟩ l1 l2 λvx vy h' tk hvx hvy g1 g2 g3 g4 g5 g6=> ?_;have ex:vx=ux:=by
   have e:its[i]?=some vx:=by simpa using hvx
   rw[hux]at e;exact(Option.some.inj e).symm
  have ey:vy=uy:=by
   have e:jts[i]?=some vy:=by simpa using hvy
   rw[huy]at e;exact(Option.some.inj e).symm
  subst ex ey;refine⟨_,rfl,wpAny_letOwnedTupleGo_zip (s:={s with heap:=h',toks:=tk}) g1 λh2' hz2 hs2=> ?_⟩;have hn:H s.heap.objs.size=none:=I.hok.fresh (zjQ _);have lz:∀{c o},s.heap.get? c=some o->s.heap.objs.size≠c:=λe=>ne_of_gt (zjT e);have li1:s.heap.objs.size≠i1:=let ⟨o,e,_⟩:=ok.obj h1;lz e;have li2:s.heap.objs.size≠i2:=let ⟨o,e,_⟩:=ok2.obj h2;lz e;have kp:∀c o,c∉[z,TI,TO,i1,i2]->s.heap.get? c=some o->h2'.get? c=some o:=λc o hc' q=>by
   have c1:c≠z:=λe=>hc' (by simp[e]);exact(hs2.2 c c1).trans (g6 c o c1 (λe=>hc' (by simp[e])) (λe=>hc' (by simp[e])) (λe=>hc' (by simp[e])) q)
  have hT2:IsPair h2' s.heap.objs.size vx vy:=(hs2.2 _ (lz hz)).trans g5;have I2:Inv X pins σ (upd H s.heap.objs.size (.tup [x,y])) {s with heap:=h2',toks:=tk}:=I.turnLaid (fp:=[z,TI,TO,i1,i2]) kp hf (zjQ _) ⟨by show 2<=sizeLine;rw[sizeLine_eq];decide,[vx,vy],.cons rx (.cons ry .nil),⟨_,hT2,rfl,_,rfl⟩⟩;have hTI2:IsPair h2' TI (.ref i1) (.ref i2):=(hs2.2 _ D.Iz).trans (g6 _ _ D.Iz D.IO D.I1 D.I2 hTI);refine⟨.ref s.heap.objs.size,_,I2,rfl,⟨s.heap.objs.size,x,y,rfl,hn,rfl,λzs hz'=>by rw[ok.inj I hz' q1];exact e1,λzs hz'=>by rw[ok2.inj I hz' q2];exact e2⟩,⟨hz2,hTI2,⟨_,_,(hs2.2 _ D.Oz).trans g2⟩,ok.at g3.1 λo q=>(hs2.2 _ D.iz).trans q,ok2.at g4.1 λo q=>(hs2.2 _ D.jz).trans q⟩,λc hc'=> ?_⟩;have hcz:c≠s.heap.objs.size:=by
   simp only[mem_cons,not_mem_nil,or_false]at hc';rcases hc' with rfl|rfl|rfl|rfl|rfl
   ·exact(lz hz).symm
   ·exact(lz hTI).symm
   ·exact(lz hTO).symm
   ·exact li1.symm
   ·exact li2.symm
  rw[aY hcz];exact(hf c hc').1
 done:=by
  intro X hP hw hK hc i pins s σ H E I hf st hg;subst hP hw hK;obtain⟨hz,hTI,⟨u,v,hTO⟩,h1,h2⟩:=st;obtain⟨xs,ys,q1,q2,hxy⟩:=hg;obtain⟨its,rv,p1⟩:=ok.get I q1;have hl:=rv.length;have hh:X.A.in1.handled=none:=by simp[I.ok.hd hc]
  rcases hxy with hx| ⟨hy,hx⟩
  rotate_left
  ·obtain⟨jts,rw',p2⟩:=ok2.get I q2;have hl2:=rw'.length;have hi2:jts.toArray.size=i:=by rw[size_toArray,←hl2,hy]
   have hi1:i<its.toArray.size:=by rw[size_toArray,←hl];exact hx
   refine A4l (ok.dr hh i1 a ha its.toArray) (ok2.dr hh i2 b hb jts.toArray) D hz hTI hTO (by rw[hi2];exact⟨h1,p1⟩) (by rw[hi2];exact⟨h2,p2⟩) (by rw[hi2];exact hi1) λh' tk hk=> ⟨rfl,?_⟩;exact I.turnedL (fp:=[z,TI,TO,i1,i2]) (t':=tk) (λc o hc' q=>hk c o (λe=>hc' (by simp[e])) (λe=>hc' (by simp[e])) (λe=>hc' (by simp[e])) (λe=>hc' (by simp[e])) q) hf
  have hi:its.toArray.size=i:=by rw[size_toArray,←hl,hx]
  refine A8r (ok.dr hh i1 a ha its.toArray) D hz hTI (by rw[hi];exact⟨h1,p1⟩) λh' hk=> ⟨rfl,?_⟩;exact I.turnedL (fp:=[z,TI,TO,i1,i2]) (t':=s.toks) (λc o hc' q=>hk c o (λe=>hc' (by simp[e])) (λe=>hc' (by simp[e])) q) hf
 self:=λ_ _ _ _ _ st h=>wpAny_pyIter_zip st.1 h
noncomputable def A5z (k:SeqK)(K:W.Frag)(ta:TA):TI:=λσ H R=>ta σ H λvs H1=> ∃a b xs ys,vs=[.ref a,.ref b]/\k.Sq K H1 a xs/\k.Sq K H1 b ys/\R (Itz (λH xs=>k.Sq K H a xs) λH ys=>k.Sq K H b ys) H1
section
theorem qZ {a b:Expr}{ta:TA}{p pos:Pos}{es:List Expr}{x1}{tpos:Pos}{k:SeqK}(ok:k.Ok)(hg:Gl X "zip")(hm:X.mg "zip" =none)(ha:PA X [a,b] ta)(hs:starEach [a,b] X.env=[(false,eval a X.env),(false,eval b X.env)]:=by rfl)(hs2:starEach [b] X.env=[(false,eval b X.env)]:=by rfl):
  PI X (.Tuple es x1 tpos) (.Call (.Name "zip" p) [a,b] [] pos) (A5z k X.K ta):=by
 intro pins s σ H R I h;refine Call_ (jB I hg hm boot_zip (PyProof.Rows.callWith_type1 (thn (ha pos pins s σ H _ I h) λus s1 ⟨vs,H1,I1,r1,q1⟩=> ?_) (by rw[hs,hs2]) (by rw[hs2];rfl)));obtain⟨a',b',xs,ys,e,q1,q2,q⟩:=q1;subst e;obtain⟨u,v,rfl,rx,ry⟩:=kE r1;cases rx;cases ry;obtain⟨its,rv,p1⟩:=ok.get I1 q1;obtain⟨jts,rw',p2⟩:=ok.get I1 q2;have l1:=ok.lt p1;have l2:=ok.lt p2;refine ok.zip p1 p2 λh' a1 a2 a3 a4 a5 a7=> ?_;refine wpAny_pyIter_zip (s:={s1 with heap:=h'}) a1 ?_;have I2:Inv X pins σ H1 {s1 with heap:=h'}:=I1.kept (t':=s1.toks) a7;have far:=wW s1.heap.objs.size a' b' l1 l2;refine⟨s1.heap.objs.size+4,[s1.heap.objs.size+4,s1.heap.objs.size+2,s1.heap.objs.size+3,s1.heap.objs.size,s1.heap.objs.size+1],_,_,H1,rfl,I2,uQ ok ok _ _ _ _ _ a' b' far (ne_of_lt l1) (ne_of_lt (lt_succ_of_lt l2)),⟨a1,a2,⟨_,_,a3⟩,a4,a5⟩,λc hc'=> ?_,q⟩;have hge:s1.heap.objs.size<=c:=by
  simp only[mem_cons,not_mem_nil,or_false]at hc';rcases hc' with rfl|rfl|rfl|rfl|rfl
  ·exact le_add_right _ 4
  ·exact le_add_right _ 2
  ·exact le_add_right _ 3
  ·exact zjQ _
  ·exact le_succ _
 exact I1.fpOk hge (I1.hok.fresh hge)
theorem lT (hlen:ys.length<=xs.length)(Pv:Nat->St->Hp->Prop)(h0:Pv 0 σ H)(hl:∀i σ H,Pv i σ H->S1 H xs/\S2 H ys)
  (hs:∀i x y p σ H,xs[i]?=some x->ys[i]?=some y->Pv i σ H->H p=none->g (.ref p) σ (upd H p (.tup [x,y])) λσ2 H2=>tb {D with nx:=Pv (i+1),ct:=Pv (i+1),bk:=D.nx} σ2 H2)(hd:∀σ H,Pv ys.length σ H->D.nx σ H):
  eA (Itz S1 S2) g tb D σ H:=by
 refine⟨λi m σ H=>m=ys.length - i/\i<=ys.length/\Pv i σ H,⟨ys.length,by simp,zero_le _,h0⟩,?_⟩;rintro i m σ H ⟨rfl,hi,p⟩;obtain⟨q1,q2⟩:=hl i σ H p;by_cases hlt2:i<ys.length
 ·have hlt:i<xs.length:=by omega
  refine .inr ⟨⟨xs,ys,xs[i],ys[i],q1,q2,by simp[hlt],by simp[hlt2]⟩,Pv (i+1),λσ' H' p'=> ⟨ys.length -(i+1),by omega,rfl,hlt2,p'⟩,λx H' y=> ?_⟩;obtain⟨pp,a,b,e1,e2,e3,e4,e5⟩:=y;subst e1 e3;exact hs i a b pp σ H (e4 xs q1) (e5 ys q2) p e2
 ·have e:i=ys.length:=by omega
  subst e;exact .inl ⟨⟨xs,ys,q1,q2,by omega⟩,hd σ H p⟩
end
section
variable {X:Cx}
theorem lA (ns:List Int):∀j:Nat,preSum (λi=>(ns[i]?).getD 0) j=(ns.take j).sum
 |0=>by simp[preSum]
 |j+1=>by
  have ih:=lA ns j;rw[take_succ,List.sum_append];show preSum (λi=>(ns[i]?).getD 0) j+(ns[j]?).getD 0=_;rw[ih];cases ns[j]?<;>simp
theorem sV (hB:0<=B):∀{ns:List Int},(∀n∈ns,-B<=n/\n<=B)->-(B*ns.length)<=ns.sum/\ns.sum<=B*ns.length
 | [],_=>by simp
 |n::ns,h=>by
  have ih:=sV hB (ns:=ns) λm hm=>h m (zjS _ hm);have h0:=h n zjR;rw[sum_cons,length_cons];have e:B*((ns.length+1:Nat):Int)=B*(ns.length:Int)+B:=by
   rw[Int.natCast_add,Int.mul_add];simp
  rw[e];constructor<;>omega
theorem pH (hc:X.calm=true):eD X (.builtin "sum") (λxs H Q=> ∃(p:Addr)(ns:List Int),xs=[.ref p]/\SqL X.K H p (ns.map V.int)/\ns.length<=1000/\(∀n∈ns,-1000<=n/\n<=1000)/\Q (.int ns.sum) H):=by
 intro pins s σ H xs us Q I r h;obtain⟨p,ns,rfl,hq,hl,hn,q⟩:=h;obtain⟨u,rfl,rx⟩:=eZ r;cases rx;obtain⟨its,rv,pl,hz⟩:=I.list hq;have hlen:=rv.length;rw[length_map]at hlen;have hlt:p<s.heap.objs.size:=by obtain⟨_,e,_⟩:=pl.isList;exact zjT e
 have long:∀z:Int,-1000000<=z->z<=1000000->InLong z:=λz h1 h2=>by unfold InLong;omega
 refine call_sum_walk (wpAny_pyIter_list pl.isList ?_);refine⟨s.heap.objs.size,[s.heap.objs.size,p],[s.heap.objs.size],its.toArray.size,_,_,λi=>(ns[i]?).getD 0,rfl,Walks.list (A:=X.A.in1) (by simp[I.ok.hd hc]) _ p (ne_of_lt hlt) its.toArray,⟨⟨_,get?_push_size _ rfl,rfl,rfl⟩,pl.isList.push _⟩,λb hb=> ?_,λi v hP=> ?_,λj hj=> ?_,λh' tk t' hk=> ?_⟩
 ·show b<(s.heap.push _).objs.size;rw[size_push];rcases mem_cons.mp hb with z|z
  ·rw[z];exact lt_succ_self _
  ·rw[mem_singleton.mp z];exact lt_succ_of_lt hlt
 ·have hP':its[i]?=some v:=by simpa using hP
  have hi:i<ns.length:=by rw[hlen];exact(zjW.mp hP').1
  obtain⟨u,hu,ru⟩:=rv.get (i:=i) (x:=.int ns[i]) (by rw[getElem?_map];simp[hi]);rw[hP']at hu;cases hu;obtain⟨t,rfl⟩:=ru;exact⟨t,by simp[hi]⟩
 ·have hj':j<ns.length:=by rw[size_toArray]at hj;omega
  refine⟨?_,?_⟩
  ·have:=hn ns[j] (getElem_mem hj');have e:(ns[j]?).getD 0=ns[j]:=by simp[hj']
   show InLong ((ns[j]?).getD 0);rw[e];exact long _ (by omega) (by omega)
  ·rw[lA];have:=sV (B:=1000) (by decide) (ns:=ns.take (j+1)) λn h=>hn n (mem_of_mem_take h);have h2:(ns.take (j+1)).length<=1000:=by rw[length_take];omega
   exact long _ (by omega) (by omega)
 ·have e:preSum (λi=>(ns[i]?).getD 0) its.toArray.size=ns.sum:=by
   rw[lA,size_toArray,←hlen,take_of_length_le (zjQ _)]
  rw[e];exact⟨.int _,H,I.kept (h':=h') (t':=tk) (LSm.kept_iter hk),⟨_,rfl⟩,q⟩
theorem A2p {pins:List (Addr×Obj)}{σ:St}{H:Hp}{s:Shared}{A:Around}{a p:Addr}{c d:Int×Int}(I:Inv X pins σ H s)(hu:A.units<cLine)(ha:H a=some (.tup [.int d.1,.int d.2]))(hp:H p=some (.tup [.int c.1,.int c.2])):SeqAt.EqAt A s (.ref a) (.ref p) (decide (d=c)):=by
 by_cases hap:a=p
 ·subst hap;rw[ha]at hp;have e:d=c:=by
   injection hp with z;injection z with z;injection z with z1 z2;injection z2 with z2 _;exact Prod.ext (V.int.inj z1) (V.int.inj z2)
  rw[zjV e];exact SeqAt.EqAt.same _
 ·obtain⟨its,r1,p1,_⟩:=I.tuple (SqT.of ha);obtain⟨jts,r2,p2,_⟩:=I.tuple (SqT.of hp);obtain⟨x1,x2,rfl,⟨t1,rfl⟩,⟨t2,rfl⟩⟩:=r1.two;obtain⟨y1,y2,rfl,⟨u1,rfl⟩,⟨u2,rfl⟩⟩:=r2.two;have key:SeqAt.RcAt A s (.ref a) (.ref p) ((List.range (min 2 2)).all (λj=>if j=0 then d.1==c.1 else d.2==c.2)&&(2:Nat)==2):=SeqAt.RcAt.tuples (items:=#[.int d.1 t1,.int d.2 t2]) (items2:=#[.int c.1 u1,.int c.2 u2]) p1 p2 hu λj h1 h2=>by
   match j,h1,h2 with
   |0,_,_=>exact SeqAt.EqAt.int_int _ _ _ _
   |1,_,_=>exact SeqAt.EqAt.int_int _ _ _ _
  have e:((List.range (min 2 2)).all (λj=>if j=0 then d.1==c.1 else d.2==c.2)&&(2:Nat)==2)=decide (d=c):=by
   obtain⟨d1,d2⟩:=d;obtain⟨c1,c2⟩:=c;show(List.all [0,1] _&&true)=_;simp only[all_cons,all_nil,Bool.and_true,if_true,Nat.one_ne_zero,if_false];rw[Bool.eq_iff_iff];simp
  rw[e]at key;exact SeqAt.EqAt.of_refs hap key
theorem A84 (hu:X.A.units<cLine):OpR X (compareOp .Eq) (λx y H Q=> ∃a b bs,x= .ref a/\y= .ref b/\H a=some (.lst ((bs:List Bool).map V.bl))/\H b=some (.lst (bs.map V.bl))/\Q (.bl true) H):=by
 intro pins s σ H x y v u Q I rx ry h;obtain⟨a,b,bs,rfl,rfl,ha,hb,q⟩:=h;cases rx;cases ry;obtain⟨its,r1,p1,_⟩:=I.list (SqL.of ha);obtain⟨jts,r2,p2,_⟩:=I.list (SqL.of hb);have e:its=jts:=by
  have go:∀(bs:List Bool)(us ws:List Value),Vals (bs.map V.bl) us->Vals (bs.map V.bl) ws->us=ws:=by
   intro bs
   induction bs with
   |nil=>intro us ws h1 h2;cases h1;cases h2;rfl
   |cons b bs ih=>
    intro us ws h1 h2;cases h1 with
    |cons a1 a2=>
     cases h2 with
     |cons b1 b2=>
      rw[show _=Value.bool b from a1,show _=Value.bool b from b1,ih _ _ a2 b2]
  exact go bs its jts r1 r2
 subst e;refine SeqAt.eq_listAt (e:=λ_=>true) p1.isList p2.isList rfl hu (λj h1 h2=>SeqAt.EqAt.same _) ⟨.bl true,H,I,?_,q⟩;show Value.bool _=Value.bool true
 congr 1
 simp
end
theorem ObjOk.isThere (x:ObjOk P w H h a o):∃u,h.get? a=some u:=by
 cases o with
 |lst xs=>obtain⟨_,_,_,_,e⟩:=x;exact⟨_,e⟩
 |tup xs=>obtain⟨_,_,_,u,e,_⟩:=x;exact⟨u,e⟩
 |dK kvs=>obtain⟨_,_,_,_,o,_,_,e,_⟩:=x;exact⟨_,e⟩
 |dT kvs=>obtain⟨_,_,_,_,o,_,_,e,_⟩:=x;exact⟨_,e⟩
 |set S n=>obtain⟨o,_,_,_,e,_⟩:=x;exact⟨_,e⟩
 |ins C dx fs=>obtain⟨_,_,_,e,_⟩:=x;exact⟨_,e⟩
 |own y=>exact x
 |xd fs=>obtain⟨_,⟨_,_,_,e,_⟩,_⟩:=x;exact⟨_,e⟩
 |rng lo hi=>obtain⟨_,_,_,e⟩:=x;exact⟨_,e⟩
 |frz ob u=>obtain⟨e,_⟩:=x;exact⟨_,e⟩
 |tbl ps=>exact⟨_,(show h.get? a=some _ from x)⟩
 |met f y=>exact⟨_,(show h.get? a=some _ from x)⟩
 |ext φ=>obtain⟨_,e,_⟩:=x;exact e
theorem HOk.tracked (ok:HOk P w H h)(k:∀b u o,H b=some u->h.get? b=some o->h'.get? b=some o):HOk P w H h':=λa o e=>
 (ok a o e).stay (λb u hb q=>by
  rcases hb with z|z
  ·subst z;exact k _ _ _ e q
  ·exact k _ _ _ z q) (λ_ q=>q) λ_ _ q=>q
structure Fly (P:Program)(w:World)(outer:List Env)(H:Hp)(s:Shared)(e:Addr)(cls:Value)(H':Hp)(s':Shared):Prop where
 os:s'.os=s.os
 bare:AllBare s'.gens
 un:Un (frs outer) [] H H' s.heap s'.heap
 hok:HOk P w H' s'.heap
 fly:∃B a0,Heap.FlyingW B outer e cls a0 s'.heap/\(∀b o,s.heap.get? b=some o->H b=none->b∉frs outer->B.get? b=some o)/\(∀b o,s.heap.get? b=some o->b∉frs outer->∃o',B.get? b=some o')/\∀b u,H' b=some u->∃o,B.get? b=some o
noncomputable def CX1 (P:Program)(w:World):CXT:=λouter H s E e s'=> ∃a cls H',e= .ref a/\Fly P w outer H s a cls H' s'/\E cls none H'
theorem B1u (h:b∈frs l):b∈frs (env::l):=by obtain⟨e,he,hb⟩:=mem_filterMap.mp h;exact mem_filterMap.mpr ⟨e,zjS _ he,hb⟩
section
theorem Inv.notOwn (I:Inv X pins σ H s)(q:X.s₀.heap.get? b=some o)(hb:b∉X.fs):b∉frs X.stack:=λhm=>by
 rcases mem_cons.mp (I.stkSub b hm)with z|z
 ·exact absurd (lt_of_lt_of_le (zjT q) I.ok.above) (by rw[z];exact lt_irrefl _)
 ·exact hb z
theorem A3s (I:Inv X pins σ H s)(hs:X.stack=X.env::X.outer)(hf:X.env.frame=some X.env.locals)(hex:X.ex=[])(hx:Heap.MadeExcOf s.heap h1 e cls args)
  (k:∀h',Fly X.prog X.w X.outer X.H₀ X.s₀ e cls H {s with heap:=h'}->Q () {s with heap:=h'}):wpAny (model X.prog X.w) X.A (leaving X.env (.ref e)) Q E' {s with heap:=h1}:=by
 have st:s.heap.FunFrames X.base X.stack:=I.stack;have hin:∀env∈X.stack,∀b,env.frame=some b->b∈frs X.stack:=λenv he b hb=>mem_filterMap.mpr ⟨env,he,hb⟩;have fB:=W.funFrames_hide (as:=frs X.stack) st hin;have hfr:=I.ok.frames;rw[hs]at hfr fB;refine wpAny_leaves_madeW (base:=W.hideAll s.heap (frs X.stack)) (h:=s.heap) hfr hf (λb o q=>W.of_hideAll _ q) (by rw[hs];exact fB) hx λh' t x1 x2 x3 x4=>k h' ?_;have nex:∀b,b∉X.ex:=λb hb=>by rw[hex]at hb;cases hb
 have kB:∀b o,s.heap.get? b=some o->b∉frs X.stack->(W.hideAll s.heap (frs X.stack)).get? b=some o:=λb o q n=>W.hideAll_get _ q n;have kS:∀b o,s.heap.get? b=some o->b∈frs X.stack->∃sl,h'.get? b=some {o with slots:=sl}:=λb o q hb=>x4 b o (hx.keeps b o q) (by
  obtain⟨_,o',ho',hd⟩:=st.mem hb;rw[q]at ho';cases ho';exact hd)
 have kT:∀b u,H b=some u->b∉frs X.stack:=λb u q hb=>by
  have:=I.stkFree b hb;rw[q]at this;cases this
 have up:∀{b:Addr},b∈X.fs->b∈frs X.stack:=λhb=>by rw[hs];exact B1u hb
 refine⟨I.os,I.bare,⟨λb o q n hb _=> ?_,λb o q n hb _=> ?_,λb o q n _=>I.base.free b o q n (nex b),λb o q _=> ?_,I.base.tups,I.base.frzs,I.base.tbls⟩,I.hok.tracked λb u o q z=>x1.1 b o (kB b o z (kT b u q)),_,_,x1,λb o q n hb=> ?_,λb o q hb=> ?_,λb u q=> ?_⟩
 ·exact x1.1 b o (kB b o (I.base.keep b o q n hb (nex b)) (I.notOwn q hb))
 ·obtain⟨sl,e1⟩:=I.base.slot b o q n hb (nex b);obtain⟨sl',e2⟩:=kS b _ e1 (up hb);exact⟨sl',e2⟩
 ·obtain⟨o',e1⟩:=I.base.there b o q (nex b);by_cases hm:b∈frs X.stack
  ·obtain⟨sl,e2⟩:=kS b o' e1 hm;exact⟨_,e2⟩
  ·exact⟨o',x1.1 b o' (kB b o' e1 hm)⟩
 ·exact kB b o (I.base.keep b o q n hb (nex b)) (I.notOwn q hb)
 ·obtain⟨o',e1⟩:=I.base.there b o q (nex b);exact⟨o',kB b o' e1 (I.notOwn q hb)⟩
 ·obtain⟨o,e1⟩:=(I.hok b u q).isThere;exact⟨o,kB b o e1 (kT b u q)⟩
end
noncomputable abbrev bmV:List Value:=[.type "ValueError",.type "Exception",.type "BaseException",.type "object"]
structure ExcC (K:W.Frag)(C:Addr):Prop where
 ex:W.excIn K C bmV "ValueError.__new__" =true
theorem ExcC.obj {K:W.Frag}{C:Addr}{h:Heap}(c:ExcC K C)(X:K.In h):∃bm N nm q bs hdct sn sub ab col dd k0 k1 k2 k3 k5 mN,
  h.get? C=some (excClassObj nm q C N bs bm hdct sn sub ab col dd k0 k1 k2 k3 k5 "ValueError.__new__")/\h.Ns N mN/\mN "__init__" =none/\OwnTail h bmV bm:=by
 have z:=c.ex;unfold W.excIn at z
 split at z
 ·rename_i dct cdat slt look
  split at z
  ·rename_i C2 tl a0 a1 a2 a3 nid a5 m1 m2;simp only[Bool.and_eq_true,beq_iff_eq,Bool.not_eq_true']at z;obtain⟨⟨⟨⟨⟨rfl,rfl⟩,noDel⟩,tail⟩,isN⟩,noInit⟩:=z;obtain⟨y1,y2,y3,y4,y5,y6,y7,y8,y9,y10,y11⟩:=cdat;dsimp only at m1 noDel isN noInit;subst m1 noDel;obtain⟨ls⟩:=slt;replace m2:ls=_:=m2;subst m2;refine⟨tl,y4,y1,y5,y2,y6,y7,y8,y9,y10,dct,a0,a1,a2,a3,a5,_,X _ _ look,?_,W.nsMap_none_of_in X isN noInit,W.tail_of_in X tail⟩;exact .of_isNs (W.isNs_of_in X isN)
  ·cases z
 ·cases z
section
variable {X:Cx}{x:Str}{z:Str}{j:Nat}{np p1 cpos pos:Pos}{C:Addr}{E:XK}
theorem B0d (hxe:X.xe=λe s'=>wpAny (model X.prog X.w) X.A (leaving X.env e) (λ_ s''=>CX1 X.prog X.w X.outer X.H₀ X.s₀ E e s'') (λe' s''=>CX1 X.prog X.w X.outer X.H₀ X.s₀ E e' s'') s')
  (hs:X.stack=X.env::X.outer)(hf:X.env.frame=some X.env.locals)(hex:X.ex=[])(hc:X.calm=true)(hg:Gl X x)(hm:X.mg x=some (.ref C))(c:ExcC X.K C)(hd:(x==("__debug__":Str))=false:=by decide):
  PS X (.Raise (some (.Call (.Name x np) [.Constant (.str z) j p1] [] cpos)) none pos) (λ_ _ H=>E (.ref C) none H):=by
 intro pins s σ H D I h;obtain⟨bm,N,nm,q,bs,hdct,sn,sub,ab,col,dd,k0,k1,k2,k3,k5,mN,hC,hN,hni,T⟩:=c.obj I.ok.mod.kin;refine wpAny_Raise_call_subT (C:=C) (nm:=nm) (q:=q) (N:=N) (bs:=bs) (bm:=bm) (hdct:=hdct) (sn:=sn) (sub:=sub) (ab:=ab) (col:=col) (dd:=dd) (k0:=k0) (k1:=k1) (k2:=k2) (k3:=k3) (k5:=k5) PySem.F.excBase_ValueError (mN:=mN)
  (T.hasType PySem.F.excBase_ValueError.hasBase) (I.ok.hd hc) rfl hni (nT I hg hm ⟨rfl,?_⟩ hd)
 have ha:PA X [.Constant (.str z) j p1] (dM (tC (.str z)) iN):=bZ lV aB;refine Calls.evalArgs_plain (thn (ha cpos pins s σ H (λvs H'=>H'=H/\vs=[.str z]) I ⟨rfl,rfl⟩) λus s2 hA=> ?_);obtain⟨vs,H2,I2,rv,e1,e2⟩:=hA;subst e1 e2;have hl:=rv.length;refine⟨rfl,?_,I2.bk _ _ hC,hN.keeps I2.bk,T.keeps I2.bk,λh' e hx=> ?_⟩
 ·show us.length<=sizeLine;rw[←hl];show 1<=sizeLine;decide
 ·rw[hxe];exact A3s I2 hs hf hex hx λh2 F=> ⟨e,.ref C,_,rfl,F,h⟩
end
noncomputable def Cx.within (X:Cx)(e:Addr)(oe:Obj):Cx:={X with A:=X.A.mark (some (.ref e)),calm:=false,pn:=(e,oe)::X.pn,xe:=λ_ _=>False}
noncomputable def rC (X:Cx)(E:XK):Value->Shared->Prop:=λv s'=> ∃pins σ H s e cls H',v= .ref e/\Inv X pins σ H s/\Fly X.prog X.w X.stack H s e cls H' s'/\E cls none H'
theorem A89 {X:Cx}{E:XK}:oF (CX1 X.prog X.w) (X.wish (rC X E)) E:=by intro pins σ H s e s' I h;obtain⟨a,cls,H',rfl,F,q⟩:=h;exact⟨pins,σ,H,s,a,cls,H',rfl,I.unwish,F,q⟩
section
theorem Inv.landed (I:Inv X pins σ H s)(F:Fly X.prog X.w X.stack H s e cls H' s')(hfl:Heap.FlyingW B X.stack e cls a0 s'.heap)
  (g1:∀b o,s.heap.get? b=some o->H b=none->b∉frs X.stack->B.get? b=some o)(g2:∀b o,s.heap.get? b=some o->b∉frs X.stack->∃o',B.get? b=some o')(g3:∀b u,H' b=some u->∃o,B.get? b=some o)
  (hB:B.StaysIn h5)(hu:s'.heap.UpToSlots h5):Inv X pins σ H' {s' with heap:=h5}:=by
 have kS:∀b o,s'.heap.get? b=some o->b∈frs X.stack->∃sl,h5.get? b=some {o with slots:=sl}:=λb o q hb=>hu b o q (by
  obtain⟨_,o',ho',hd⟩:=hfl.2.2.1.mem hb;rw[q]at ho';cases ho';exact hd)
 refine I.call' (s':={s' with heap:=h5}) (ch:=[]) F.os ⟨λb o q n hb _=>hB b o (g1 b o q n hb),λb o q n hb _=> ?_,λb o q n _=>F.un.free b o q n (by simp),λb o q _=> ?_,F.un.tups,F.un.frzs,F.un.tbls⟩ (F.hok.tracked λb u o q z=> ?_) F.bare λb z=>nomatch z
 ·obtain⟨sl,e2⟩:=F.un.slot b o q n hb (by simp);obtain⟨sl',e3⟩:=kS b _ e2 hb;exact⟨sl',e3⟩
 ·by_cases hm:b∈frs X.stack
  ·obtain⟨o2,e2⟩:=F.un.there b o q (by simp);obtain⟨sl,e3⟩:=kS b o2 e2 hm;exact⟨_,e3⟩
  ·obtain⟨o2,e2⟩:=g2 b o q hm;exact⟨o2,hB b o2 e2⟩
 ·obtain⟨o',e1⟩:=g3 b u q;have:=hfl.1 b o' e1;rw[z]at this;cases this;exact hB b _ e1
theorem Inv.within (I:Inv X pins σ H s)(he:s.heap.get? e=some oe)(hn:H e=none)(hL:e≠X.env.locals)(hf:e∉X.fs)(hd:∀v,oe.data≠ .cell v):Inv (X.within e oe) pins σ H s:=
 ⟨⟨I.ok.mod,I.ok.kind,I.ok.glob,I.ok.blt,I.ok.above,I.ok.inj,I.ok.has,I.ok.cab,λz=>(Bool.false_ne_true z).elim,I.ok.frames,I.ok.stk,I.ok.exf,I.ok.bs,I.ok.bsz,I.ok.noex,I.ok.exfs,I.ok.funs,I.ok.frf⟩,I.os,I.bare,I.base,I.loc,I.cell,I.free,I.freeC,
  λp hp=>by
   rcases mem_append.mp hp with z|z
   ·rcases mem_cons.mp z with y|y
    ·subst y;exact⟨he,hn,hL,hf,hd⟩
    ·exact I.pin p (mem_append_left _ y)
   ·exact I.pin p (mem_append_right _ z),I.hok,I.len⟩
theorem Inv.suiteOver (hc:X.A.handled=none)(I:Inv (X.within e oe) [] σ H s)(hpn:X.pn=[])(hN:h'.Ns X.env.locals m)(hs:Heap.SameBut X.env.locals s.heap h'):Inv X [] (replicate X.N.length none) H {s with heap:=h',toks:=t}:=by
 have below:∀b o,X.s₀.heap.get? b=some o->b≠X.env.locals:=λb o q=>ne_of_lt (lt_of_lt_of_le (zjT q) I.ok.above);refine⟨⟨I.ok.mod,I.ok.kind,I.ok.glob,I.ok.blt,I.ok.above,I.ok.inj,I.ok.has,I.ok.cab,λ_=>hc,I.ok.frames,I.ok.stk,I.ok.exf,I.ok.bs,I.ok.bsz,I.ok.noex,I.ok.exfs,I.ok.funs,I.ok.frf⟩,I.os,I.bare,
  ⟨λb o q n hb hx=>(hs.2 b (below b o q)).trans (I.base.keep b o q n hb hx),λb o q n hb hx=>let ⟨sl,e1⟩:=I.base.slot b o q n hb hx;⟨sl,(hs.2 b (below b o q)).trans e1⟩,I.base.free,λb o q hx=>let ⟨o',e1⟩:=I.base.there b o q hx;⟨o',(hs.2 b (below b o q)).trans e1⟩,I.base.tups,I.base.frzs,I.base.tbls⟩,
  ⟨m,hN,λi x v _ e2 _=> ?_⟩,λy c q=> ?_,I.free,I.freeC,λp hp=> ?_,I.hok.tracked λb u o q z=> ?_,by simp⟩
 ·rw[getElem?_replicate]at e2
  split at e2<;>cases e2
 ·obtain⟨w',z⟩:=I.cell y c q;exact⟨w',z.sameBut hs (I.cne y c q)⟩
 ·rw[hpn]at hp;cases hp
 ·refine(hs.2 b λy=> ?_).trans z;have:=I.free;rw[show(X.within e oe).env.locals=X.env.locals from rfl,←y,q]at this;cases this
end
section
variable {X:Cx}{E:XK}{R:VK}{y n:Str}{i:Nat}{Cy:Addr}{b₀:Stmt}{suite:List Stmt}{np hp:Pos}{tS:Addr->Obj->TS}
theorem B1p (hs:X.stack=X.env::X.outer)(hf:X.env.frame=some X.env.locals)(hpn:X.pn=[])(hcalm:X.calm=true)(hy:Gl X y)(hm:X.mg y=some (.ref Cy))(hN:X.N.Nodup)(hi:X.N[i]?=some n)(hn:X.env.scope.names.lookup n=some .local)
  (hk:∀cls H',E cls none H'->W.exmOne X.K cls (.ref Cy)=some true)(hS:∀e oe,PSs (X.within e oe) (b₀::suite) (tS e oe))
  (q:∀e oe cls H',oe.cls=cls->E cls none H'->tS e oe {nx:=λ_ _=>False,rt:=R} ((replicate X.N.length none).set i (some (.ref e))) H')(hdb:(y==("__debug__":Str))=false){D:dR}(hD:D.rt=R){v:Value}{s':Shared}(h:rC X E v s'):
  wpAny (model X.prog X.w) X.A (noteFrame v X.env) (λ_ s₂=>wpAny (model X.prog X.w) X.A (setFlight v none) (λ_ s₃=>wpAny (model X.prog X.w) X.A (handleBy v X.env [.ExceptHandler (some (.Name y np)) (some n) (b₀::suite) hp]) (SP X [] D) X.xe s₃) X.xe s₂) X.xe s':=by
 obtain⟨pins,σ,H,s,e,cls,H',rfl,I,F,qE⟩:=h;obtain⟨B,a0,hfl,g1,g2,g3⟩:=F.fly;have hfr:=I.ok.frames;have hfl1:=hfl;rw[hs]at hfr hfl1;have heH:H' e=none:=by
  cases z:H' e with
  |none=>rfl
  |some u=>
   obtain⟨o,e1⟩:=g3 e u z;rw[hfl.2.1]at e1;cases e1
 have obj:∀{h:Heap},Heap.FlyingW B (X.env::X.outer) e cls a0 h->Inv X pins σ H' {s' with heap:=h}->∃oe,oe.cls=cls/\h.get? e=some oe/\∀{pins' σ'},Inv X pins' σ' H' {s' with heap:=h}->Inv (X.within e oe) pins' σ' H' {s' with heap:=h}:=fun{h} fl J=>by
  obtain⟨oe,vs,ho,hc,hd,_⟩:=fl.first;refine⟨oe,hc,ho,λJ'=>J'.within ho heH ?_ ?_ ?_⟩
  ·intro z;obtain⟨m,⟨o2,es,ep,ho2,hd2,_⟩,_⟩:=J'.loc;rw[←z,ho]at ho2;cases ho2;rw[hd]at hd2;cases hd2
  ·intro z;obtain⟨_,o2,ho2,hd2⟩:=J'.funs.mem z;rw[ho]at ho2;cases ho2;exact hd2 _ hd
  ·intro v z;rw[hd]at z;cases z
 refine wpAny_looks_onW hfr hf hfl1 λh₄ held₄ sm₄=>wpAny_landsW held₄ λh₅ fl₅ sm₅=> ?_;have I5:Inv X pins σ H' {s' with heap:=h₅}:=I.landed F hfl g1 g2 g3 fl₅.1 (sm₄.trans sm₅);obtain⟨o5,c5,he5,w5⟩:=obj fl₅ I5;have LT:W.Looks (model X.prog X.w) h₅ (typeOf (.ref e)) cls:=c5▸(W.Looks.ld he5).andThen .now;refine wpAny_handleBy_cons (codeAny_handlers_test (nT (X:=X.within e o5) (w5 I5) hy hm ?_ hdb)) (by intro z;cases z);refine(W.exm_one (M:=model X.prog X.w) I5.kIn LT (hk cls H' qE)).here ?_;refine codeAny_handlers_suite_as (lands_againW fl₅ λh₆ fl₆ sm₆=> ?_);have I6:Inv X pins σ H' {s' with heap:=h₆}:=I.landed F hfl g1 g2 g3 fl₆.1 ((sm₄.trans sm₅).trans sm₆);obtain⟨o6,c6,he6,w6⟩:=obj fl₆ I6;have I6':Inv X [] (replicate X.N.length none) H' {s' with heap:=h₆}:=(I6.pins_of (pins':=[]) λp z=>nomatch z).weak (by rw[List.length_replicate];exact I6.len.symm) λj v z=>by
  rw[getElem?_replicate]at z
  split at z<;>cases z
 refine jS (X:=X.within e o6) (w6 I6') hN hi (.inl hn) (v:=.ref e) rfl (λs₇ I7=> ?_) (.inr hn);refine wpAny_mono (hS e o6 [] s₇ _ H' _ I7 (q e o6 cls H' c6 qE)) (λf s₈ h8=> ?_) λ_ _ z=>False.elim z
 have fin:∀{σ8:St}{H8:Hp},Inv (X.within e o6) [] σ8 H8 s₈->(∀s9,Inv X [] (replicate X.N.length none) H8 s9->SP X [] D f s9)->wpAny (model X.prog X.w) X.A (do bindName X.env n .none;unbindBehindTheSuite X.env n hp) (λ_ s₃=>SP X [] D f s₃) X.xe s₈:=fun{σ8 H8} I8 k=>by
  obtain⟨m,hm8,_⟩:=I8.loc;exact wpAny_nameGoes hn hm8 (by rw[I.ok.kind];rfl) λh' m' hN' hs'=>k _ (Inv.suiteOver (I.ok.hd hcalm) I8 hpn hN' hs')
 cases f with
 |next=>obtain⟨σ8,H8,I8,z⟩:=h8;exact False.elim z
 |brk=>obtain⟨σ8,H8,I8,z⟩:=h8;exact False.elim z
 |cont=>obtain⟨σ8,H8,I8,z⟩:=h8;exact False.elim z
 |ret u=>
  obtain⟨v8,σ8,H8,I8,r8,z⟩:=h8;exact fin I8 λs9 I9=> ⟨v8,_,H8,I9,r8,by rw[hD];exact z⟩
end
section
variable {P:Program}{w:World}{K:W.Frag}{mg:Str->Option Value}{base:Heap}
theorem Fun.okX {x qual:Str}{st:Stmt}{f:Addr}{fd:FuncData}{N ps:List Str}{k:Nat}{sp:Sp}(F:Fun K x qual st f fd)(S:fN N ps (bB st))(len:∀vs H Q E,sp vs H Q E->vs.length=ps.length)
  (hbody:∀(cdv:Value)(A:Around)(outer:List Env)(s:Shared)(H:Hp)(vs:List V)(Q:VK)(E:XK),Room k (A.deeper (envOfC qual (bB st) s.heap.objs.size f cdv))->sp vs H Q E->
   ∃t,PSs (dJ (CX1 P w) P w K mg base N qual (bB st) f cdv A outer s H E) (dG st) t/\t {nx:=λ_ H'=>Q .non H',rt:=Q} (start N vs) H):FnOk P w K mg base (CX1 P w) (k+1) f fd ps sp:=by
 obtain⟨oc,od,kV,doc,pm,an,cdv,ct,osl,rfl,lk,hcd⟩:=F.ex;exact yR lk hcd S len λA outer s H vs Q E hr hsp=>hbody cdv A outer s H vs Q E hr hsp
theorem Fun.okTry {x qual:Str}{st:Stmt}{f:Addr}{fd:FuncData}{N ps:List Str}{k:Nat}{sp:Sp}{body:List Stmt}{y n:Str}{i:Nat}{Cy:Addr}{b₀:Stmt}{suite:List Stmt}{np hp pos:Pos}(F:Fun K x qual st f fd)(S:fN N ps (bB st))(len:∀vs H Q E,sp vs H Q E->vs.length=ps.length)
  (hst:dG st=[.Try body [.ExceptHandler (some (.Name y np)) (some n) (b₀::suite) hp] [] [] pos])(hy:(bB st).names.lookup y=some .globalImplicit)(hm:mg y=some (.ref Cy))(hi:N[i]?=some n)(hn:(bB st).names.lookup n=some .local)(hdb:(y==("__debug__":Str))=false)
  (hbody:∀(cdv:Value)(A:Around)(outer:List Env)(s:Shared)(H:Hp)(vs:List V)(Q:VK)(E:XK),Room k (A.deeper (envOfC qual (bB st) s.heap.objs.size f cdv))->sp vs H Q E->
   ∃(EX:XK)(t:TS)(tS:Addr->Obj->TS),PSs ((dJ CX0 P w K mg base N qual (bB st) f cdv A outer s H E).nox.wish (rC (dJ CX0 P w K mg base N qual (bB st) f cdv A outer s H E).nox EX)) body t/\
    (∀e oe,PSs ((dJ CX0 P w K mg base N qual (bB st) f cdv A outer s H E).nox.within e oe) (b₀::suite) (tS e oe))/\t {nx:=λ_ H'=>Q .non H',rt:=Q} (start N vs) H/\
    (∀cls H',EX cls none H'->W.exmOne K cls (.ref Cy)=some true)/\∀e oe cls H',oe.cls=cls->EX cls none H'->tS e oe {nx:=λ_ _=>False,rt:=Q} ((replicate N.length none).set i (some (.ref e))) H'):FnOk P w K mg base CX0 (k+1) f fd ps sp:=by
 obtain⟨oc,od,kV,doc,pm,an,cdv,ct,osl,rfl,lk,hcd⟩:=F.ex;refine⟨len,λA outer s H args us vs Q E hr e0 hb r hsp=> ?_⟩;obtain⟨EX,t,tS,h1,h2,h3,h4,h5⟩:=hbody cdv A outer s H vs Q E (hr.deeper _) hsp;have key:∀(s1:Shared),Inv (dJ CX0 P w K mg base N qual (bB st) f cdv A outer s H E).nox [] (start N vs) H s1->
   wpAny (model P w) (A.deeper (envOfC qual (bB st) s.heap.objs.size f cdv)) (execs (dG st) (envOfC qual (bB st) s.heap.objs.size f cdv)) (SP (dJ CX0 P w K mg base N qual (bB st) f cdv A outer s H E).nox [] {nx:=λ_ H'=>Q .non H',rt:=Q}) (λ_ _=>False) s1:=λs1 I=>by
  rw[hst];refine wpAny_execs_cons (thn (Q:=SP (dJ CX0 P w K mg base N qual (bB st) f cdv A outer s H E).nox [] {nx:=λ_ H'=>Q .non H',rt:=Q}) (wpAny_Try_except (wpAny_mono (h1 [] s1 (start N vs) H {nx:=λ_ H'=>Q .non H',rt:=Q} (I.wish _) h3) (λfl s2 q2=> ?_) λv s2 q2=> ?_)) λfl s2 q2=> ?_)
  ·have q3:=SP.unwish q2;cases fl with
   |next=>exact wpAny_execs_nil q3
   |ret u=>exact q3
   |brk=>exact q3
   |cont=>exact q3
  ·exact B1p (X:=(dJ CX0 P w K mg base N qual (bB st) f cdv A outer s H E).nox) (R:=Q) rfl rfl rfl rfl hy hm S.nd hi hn h4 h2 h5 hdb rfl q2
  ·cases fl with
   |next=>exact wpAny_execs_nil q2
   |ret u=>exact q2
   |brk=>exact q2
   |cont=>exact q2
 have hl:=len _ _ _ _ hsp;have KX:K.In s.heap:=e0.mod.kin.keeps λb o e=>(e0.bs b o e).1;have lim:s.heap.NoLimit:=e0.mod.nolimit.keeps λb o e=>(e0.bs b o e).1;have hkind:∀z∈ps.zip us,(bB st).names.lookup z.1=some .local\/((bB st).names.lookup z.1=some .cell/\((cellsFrom (s.heap.objs.size+1) (bB st).names []).lookup z.1).isSome=true):=λ⟨n,v⟩ hy=>by
  rcases S.par n (of_mem_zip hy).1 with q|q
  ·exact .inl q
  ·exact .inr ⟨q,W.cellsFrom_some _ _ _ (.inl q)⟩
 refine codeAny_call_function hr.depth (KX _ _ lk) rfl S.co S.gen rfl (W.codeRec_of KX hcd) (hb _ _ _ _ ?_);refine wpAny_newFunctionEnv_cells S.kind hkind λenv he s1 x=> ?_;subst he;refine⟨lim.keeps x.toInCall.keep,codeAny_func ?_⟩;have I:Inv (dJ CX0 P w K mg base N qual (bB st) f cdv A outer s H E) [] (start N vs) H s1:=zS S hr.hd e0 hl r x;refine wpAny_mono (key s1 (I.wish _)) (λfl s' hs=> ?_) λe s' hs=>hs.elim;have fin:∀{σ':St}{H':Hp}{v:V}{u:Value},Inv (dJ CX0 P w K mg base N qual (bB st) f cdv A outer s H E).nox [] σ' H' s'->RelV v u->Q v H'->CE outer P w H s Q u s':=
  fun{σ' H' v u} J rv q=> ⟨v,H',J.os,J.bare,J.base,J.hok,rv,q⟩
 cases fl with
 |ret u=>
  obtain⟨v,σ',H',J,rv,q⟩:=hs;exact fin J rv q
 |next=>
  obtain⟨σ',H',J,q⟩:=hs;exact fin (v:=V.non) (u:=Value.none) J rfl q
 |brk=>
  obtain⟨_,_,_,q⟩:=hs;exact False.elim q
 |cont=>
  obtain⟨_,_,_,q⟩:=hs;exact False.elim q
end
end L2
namespace L2
open PySem PySem.Spec PyProof.Rows Grd
theorem GridAt.same (h:GridAt H a g)(s:Same H H'):GridAt H' a g:=h.ext s.ext
theorem A18 {K:W.Frag}{a l:Addr}{g:bI}{bs:List Addr}{f:Int->Bool}{H0:Hp}{tt2:TT}{Q:St->Hp->Prop}(ha:H0 a=some (.tup (bs.map V.ref)))(hG:RowsG H0 bs g)(hl:H0 l=none)(h4:g.length<=4)(h6:∀xs∈g,xs.length<=6)
  (htt:∀(at' k:Nat)(r:V)(i:Int) H' (Q':Bool->Hp->Prop),Q' (f i) H'->tt2 [some (.int at'),some r,some (.int k),some (.int i)] H' Q')
  (hQ:∀σ H' ps,Same H0 H'->H' l=some (.lst (ps.map V.ref))->PlAt H' ps (aN f g)->Q σ H'):
  eA (Ite λH xs=>SqT K H a xs) (gN K 2 (eF (cT 0) (eF (cT 1) gQ))) (cZ gB (kK (wC K (dM (dN 1) iN)) (gN K 2 (eF (cT 2) (eF (cT 3) gQ))) tt2 (eJ l (nM (dM (dN 0) (dM (dN 2) iN)))))) (eC Q) [none,none,none,none] (upd H0 l (.lst [])):=by
 have s0:Same H0 (upd H0 l (.lst [])):=aQ hl;have hbs:bs.length=g.length:=Paired.length hG;refine jF (xs:=bs.map V.ref) (λi σ H'=>σ.length=4/\Same H0 H'/\∃ps,H' l=some (.lst (ps.map V.ref))/\PlAt H' ps (aN f (g.take i))/\ps.length<=6*i) ⟨rfl,s0,[],by rw[aJ];rfl,.nil,zero_le _⟩ (λi σ H' _ h=>SqT.of (h.2.1 _ _ ha)) ?_ ?_
 ·rintro i r p σ H' hx ⟨hσ,hs,ps,hl',hP,hn⟩ hp;obtain⟨b,hbi,rfl⟩:∃b,bs[i]?=some b/\V.ref b=r:=by
   rw[getElem?_map]at hx;cases e:bs[i]? with
   |none=>rw[e]at hx;cases hx
   |some b=>rw[e]at hx;exact⟨b,rfl,Option.some.inj hx⟩
  obtain⟨xs,hgi,hb⟩:=hG.row hbi;have hx6:=h6 xs (mem_of_getElem? hgi);have hi4:i<4:=lt_of_lt_of_le (zjW.mp hgi).1 h4;have s1:Same H' (upd H' p (.tup [.int i,.ref b])):=aQ hp
  match σ,hσ with
  | [x0,x1,x2,x3],_=>
  refine⟨p,_,rfl,SqT.of aJ,rfl,_,_,rfl,_,_,rfl,rfl,?_⟩;refine gO ?_;refine⟨_,rfl,b,xs.map V.int,rfl,SqT.of (s1 _ _ (hs _ _ hb)),?_⟩;refine jF (xs:=xs.map V.int) (λj σ H2=>(∃y2 y3,σ=[some (.int i),some (.ref b),y2,y3])/\Same H0 H2/\∃ps,H2 l=some (.lst (ps.map V.ref))/\PlAt H2 ps (aN f (g.take i)++fA f i (xs.take j))/\ps.length<=6*i+j) ?_ (λj σ H2 _ h=>SqT.of (h.2.1 _ _ hb)) ?_ ?_
  ·exact⟨⟨x2,x3,rfl⟩,hs.trans s1,ps,s1 _ _ hl',by simpa [fA]using hP.same s1,hn⟩
  ·rintro j x p2 σ H2 hxj ⟨⟨y2,y3,rfl⟩,hs2,ps2,hl2,hP2,hn2⟩ hp2;obtain⟨z,hzj,rfl⟩:∃z,xs[j]?=some z/\V.int z=x:=by
    rw[getElem?_map]at hxj;cases e:xs[j]? with
    |none=>rw[e]at hxj;cases hxj
    |some z=>rw[e]at hxj;exact⟨z,rfl,Option.some.inj hxj⟩
   have hj6:j<6:=lt_of_lt_of_le (zjW.mp hzj).1 hx6;have s2:Same H2 (upd H2 p2 (.tup [.int j,.int z])):=aQ hp2;refine⟨p2,_,rfl,SqT.of aJ,rfl,_,_,rfl,_,_,rfl,rfl,?_⟩;refine htt i j (.ref b) z _ _ (cY (λe=> ?_) λe=> ?_)
   ·refine⟨_,rfl,_,rfl,(by show 2<=sizeLine;decide),λq hq=> ?_⟩;have s3:=aQ (o:=.tup [.int i,.int j]) hq;have hlq:l≠q:=bH (s2 _ _ hl2) hq;refine⟨_,s3 _ _ (s2 _ _ hl2),bW (by rw[length_map];omega),⟨_,_,rfl⟩,λb' u e'=> ?_,ps2++[q],?_,?_,?_⟩
    ·rw[aY (bH e' hl)];exact s3 _ _ (s2 _ _ (hs2 _ _ e'))
    ·rw[aJ,map_append];rfl
    ·have hne:∀b' u,(upd (upd H2 p2 (.tup [.int j,.int z])) q (.tup [.int i,.int j])) b'=some (.tup u)->(upd (upd (upd H2 p2 (.tup [.int j,.int z])) q (.tup [.int i,.int j])) l (.lst (ps2.map V.ref++[.ref q]))) b'=some (.tup u):=λb' u e'=>by
      rw[aY (λz'=> ?_)];exact e';rw[z',aY hlq,s2 _ _ hl2]at e';cases e'
     rw[Grd.rowF_succ f i xs j _ hzj,if_pos e,←append_assoc];exact PlAt.snoc (Paired.mapP ((hP2.same s2).same s3) λ_ _ e'=>hne _ _ e') (hne _ _ aJ)
    ·rw[length_append];show ps2.length+1<=_;omega
   ·refine⟨⟨_,_,rfl⟩,hs2.trans s2,ps2,s2 _ _ hl2,?_,by omega⟩;rw[Grd.rowF_succ f i xs j _ hzj,if_neg (by rw[e];decide),append_nil];exact hP2.same s2
  ·rintro σ H2 ⟨⟨y2,y3,rfl⟩,hs2,ps2,hl2,hP2,hn2⟩;rw[length_map]at hP2 hn2;refine⟨rfl,hs2,ps2,hl2,?_,by omega⟩;rw[take_of_length_le (zjQ _)]at hP2;rw[Grd.gridF_succ f g i _ hgi];exact hP2
 ·rintro σ H' ⟨_,hs,ps,hl',hP,_⟩;rw[length_map,hbs,take_of_length_le (zjQ _)]at hP;exact hQ σ H' ps hs hl' hP
theorem GridAt.ix {H:Hp}{a:Addr}{g:bI}(hA:GridAt H a g){i j:Nat}{xs:List Int}{x:Int}(h1:g[i]?=some xs)(h2:xs[j]?=some x):∃(bs:List Addr)(b:Addr),H a=some (.tup (bs.map V.ref))/\atI (bs.map V.ref) i=some (.ref b)/\H b=some (.tup (xs.map V.int))/\atI (xs.map V.int) j=some (.int x):=by obtain⟨bs,ha,hG⟩:=hA;obtain⟨b,hb,hr⟩:=hG.get h1;exact⟨bs,b,ha,cB (by rw[getElem?_map,hb];rfl),hr,cB (by rw[getElem?_map,h2];rfl)⟩
end L2
namespace M51
open PySem L2 PyProof.Rows Grd
noncomputable def eY (f:Int->Bool):Sp:=λvs H Q _=> ∃a g w,vs=[.ref a]/\GridAt H a g/\cU g w/\∀H' l ps,H l=none->Same H H'->H' l=some (.lst (ps.map V.ref))->PlAt H' ps (aN f g)->Q (.ref l) H'
noncomputable def uD:Sp:=λvs H Q _=> ∃b xs,vs=[.ref b]/\H b=some (.tup ((xs:List Int).map V.int))/\1<=xs.length/\xs.length<=6/\(∀n∈xs,-2<=n/\n<=99)/\∀H',Same H H'->Q (.bl true) H'
noncomputable def sZ:Sp:=λvs H Q _=> ∃a g w,vs=[.ref a]/\GridAt H a g/\cU g w/\∀H',Same H H'->Q (.bl true) H'
theorem uI {H:Hp}{a:Addr}{xs:List V}{lo hi:Int}(h:H a=some (.tup xs))(h1:lo<=xs.length)(h2:(xs.length:Int)<=hi):dL H lo hi (.ref a)=true:=by
 unfold dL;rw[iI h];dsimp only
 rw[zjV h1,zjV h2];rfl
theorem tQ (xs:List α):(xs.map λ_=>true).all id=true:=by simp
noncomputable def rM:Sp:=λvs H Q _=> ∃a g w,vs=[.ref a]/\GridAt H a g/\cU g w/\∀H',Same H H'->Q .non H'
section
variable {P:Program}{w:World}{K:W.Frag}{mg:Str->Option Value}{base:Heap}
theorem A4p (F:D1 K mg "places_of_cells" qQ ["mead"])(T:Txt mg):A1 P w K mg base 1 "places_of_cells" (eY pos):=by
 refine F.k ["mead"] ?_;ac_nf
 ·obtain⟨a,g,w',rfl,⟨bs,ha,hG⟩,G,q⟩:=h;refine⟨_,aM (bC (A1v (bB qQ).names ["mead"] ["at","row","k","mark"] [] rfl (iB rfl rfl T.enumerate (bD (pv 0) aB)) rfl rfl rfl (by decide +kernel)
   (λZ=>bP rfl (bA (nm1 0 nd4) (bA (nm1 1 nd4) bR))) (λZ=>cF)
   (λZ=>iB rfl rfl T.enumerate (bD (pv 1) aB)) (λZ=>bP rfl (bA (nm1 2 nd4) (bA (nm1 3 nd4) bR)))
   (λZ=>eP (bV mK (pv 3) aV (nomark _))) (λZ=>dC (bD (pv 0) (bD (pv 2) aB))))),?_⟩
  refine⟨_,rfl,a,_,rfl,SqT.of ha,λZ l hl=> ?_⟩;exact A18 (f:=pos) ha hG hl G.h4 (λxs hx=>by have:=G.len xs hx;have:=G.w5;omega) (λat' k r i H' Q' hq=> ⟨_,rfl,_,_,rfl,rfl,_,rfl,hq⟩) λσ H' ps hs hl' hP=>q H' l ps hl hs hl' hP
theorem A69 (F:D1 K mg "is_row" tT ["thing"])(T:Txt mg)(a1:A1 P w K mg base 1 "is_tuple_within" gK)(a2:A1 P w K mg base 2 "is_number_within" jT):A1 P w K mg base 3 "is_row" uD:=by
 obtain⟨t1,mCol⟩:=T.cols;obtain⟨t2,mWa⟩:=T.water;obtain⟨t3,mWo⟩:=T.worth;refine F.k ["thing"] ?_;ac_nf
 ·obtain⟨b,xs,rfl,hb,h1,h6,hn,q⟩:=h;refine⟨_,aU (bK (cC (bM (a1.c hr (bD (pv 0) (bD aV (bD (dS (v:=.int 6) rfl mCol ⟨_,rfl⟩) aB)))))) (aM (bC cQ)) bL)
   (aM (bC (bE (fL rfl) rfl T.all boot_all (bD (bN (bB tT).names ["thing"] ["mark"] [] rfl (cR (pv 0)) rfl rfl rfl (by decide +kernel)
    (λZ=>aK (i:=0) (show(["mark"]:List Str).Nodup by decide +kernel) rfl (Or.inl rfl)) (λZ=>cF)
    (λZ=>a2.c hr (bD (pv 0) (bD (dS (v:=.int (-2)) rfl mWa ⟨_,rfl⟩) (bD (dS (v:=.int 99) rfl mWo ⟨_,rfl⟩) aB))))) aB)))),?_⟩
  have hz:(xs.map V.int).length<=1000:=by rw[length_map];omega
  refine⟨_,rfl,.ref b,1,6,rfl,.inr (.inr ⟨_,hb,hz,λ_ _=>trivial⟩),_,rfl,?_⟩;rw[uI hb (by rw[length_map];omega) (by rw[length_map];omega)];refine bQ ⟨_,rfl,b,rfl,⟨_,SqT.of hb⟩,λZ l hl=> ?_⟩;refine fZ (λ_=> .bl true) hb hl hz (λx H' Q' hm hs hq=> ?_) λσ H' hs hl'=> ?_
  ·obtain⟨n,hn',rfl⟩:=mem_map.mp hm;have:=hn n hn';refine⟨_,rfl,.int n,-2,99,rfl,trivial,?_⟩;rw[show dU (-2) 99 (.int n)=true by simp[dU,this]];exact hq _ (Same.refl _)
  ·refine⟨l,(xs.map V.int).map λ_=>true,rfl,SqL.of (by rw[hl'];simp only[map_map];rfl),?_⟩;rw[tQ];exact q H' hs
theorem B1g (F:D1 K mg "is_mead" oI ["thing"])(T:Txt mg)(a1:A1 P w K mg base 1 "is_tuple_within" gK)(a2:A1 P w K mg base 3 "is_row" uD)(a3:A1 P w K mg base 1 "places_of_cells" (eY pos)):A1 P w K mg base 4 "is_mead" sZ:=by
 obtain⟨t1,mRow⟩:=T.rows;obtain⟨t2,mCel⟩:=T.cells;refine F.k ["thing"] ?_;ac_nf
 ·obtain⟨a,g,w',rfl,hA,G,q⟩:=h;refine⟨_,aU (bK (cC (bM (a1.c hr (bD (pv 0) (bD aV (bD (dS (v:=.int 4) rfl mRow ⟨_,rfl⟩) aB)))))) (aM (bC cQ)) bL)
   (aU (bK (cC (bM (bE (fL rfl) rfl T.all boot_all (bD (bN (bB oI).names ["thing"] ["row"] [] rfl (cR (pv 0)) rfl rfl rfl (by decide +kernel)
    (λZ=>aK (i:=0) (show(["row"]:List Str).Nodup by decide +kernel) rfl (Or.inl rfl)) (λZ=>cF) (λZ=>a2.c hr (bD (pv 0) aB))) aB)))) (aM (bC cQ)) bL)
   (aU (bK (cC (bM (bE (fL rfl) rfl T.all boot_all (bD (bN (bB oI).names ["thing"] ["row"] [("thing",0)] rfl (cR (pv 0)) rfl rfl rfl (by decide +kernel)
    (λZ=>aK (i:=0) (show(["row","thing"]:List Str).Nodup by decide +kernel) rfl (Or.inl rfl)) (λZ=>cF)
    (λZ=>eW eG (bE fF rfl T.len PySem.boot_len (bD (pv 0) aB)) (bE fF rfl T.len PySem.boot_len (bD (bJ cA (pv 1) aV (λ_ _=>rfl)) aB)) (nomark _))) aB)))) (aM (bC cQ)) bL)
   (aM (bC (qC iS iS aV (bE fF rfl T.len PySem.boot_len (bD (a3.c hr (bD (pv 0) aB)) aB)) (dS (v:=.int 10) rfl mCel ⟨_,rfl⟩)))))),?_⟩
  obtain⟨bs,ha,hG⟩:=id hA;have hbl:bs.length=g.length:=Paired.length hG;have h4:=G.h4;have h1:=G.h1;have w5:=G.w5;have hz:(bs.map V.ref).length<=1000:=by rw[length_map];omega
  refine⟨_,rfl,.ref a,1,4,rfl,.inr (.inr ⟨_,ha,hz,λ_ _=>trivial⟩),_,rfl,?_⟩;rw[uI ha (by rw[length_map];omega) (by rw[length_map];omega)];refine bQ ⟨_,rfl,a,rfl,⟨_,SqT.of ha⟩,λZ l hl=> ?_⟩;have row:∀x∈bs.map V.ref,∃b xs,x= .ref b/\H b=some (.tup ((xs:List Int).map V.int))/\xs∈g:=λx hx=>by
   obtain⟨b,hb,rfl⟩:=mem_map.mp hx;obtain⟨i,hi⟩:=mem_iff_getElem?.mp hb;obtain⟨xs,h1,h2⟩:=hG.row hi;exact⟨b,xs,rfl,h2,mem_of_getElem? h1⟩
  refine fZ (λ_=> .bl true) ha hl hz (λx H' Q' hm hs hq=> ?_) λσ H1 s1 hl1=> ?_
  ·obtain⟨b,xs,rfl,hb,hx⟩:=row x hm;have:=G.len xs hx;have:=G.w1;exact⟨_,rfl,b,xs,rfl,hs _ _ hb,by omega,by omega,G.num xs hx,λH3 s3=>hq H3 s3⟩
  ·refine⟨l,(bs.map V.ref).map λ_=>true,rfl,SqL.of (by rw[hl1];simp only[map_map];rfl),_,rfl,?_⟩;rw[tQ];refine bQ ⟨_,rfl,a,rfl,⟨_,SqT.of (s1 _ _ ha)⟩,λZ2 l2 hl2=> ?_⟩;refine fZ (rest:=[some (.ref a)]) (λ_=> .bl true) (s1 _ _ ha) hl2 hz (λx H' Q' hm hs hq=> ?_) λσ H2 s2 hl2'=> ?_
   ·obtain⟨b,xs,rfl,hb,hx⟩:=row x hm;obtain⟨xs0,e0⟩:∃xs0,g[0]?=some xs0:=⟨g[0],getElem?_eq_getElem (by omega)⟩;obtain⟨b0,hb0,eb0⟩:=hG.get e0;have sH:=s1.trans hs;refine⟨_,rfl,b,_,rfl,.inr (SqT.of (sH _ _ hb)),_,rfl,a,_,0,.ref b0,rfl,rfl,SqT.of (sH _ _ ha),cB (j:=0) (by rw[getElem?_map,hb0];rfl),b0,_,rfl,.inr (SqT.of (sH _ _ eb0)),rfl,?_⟩;rw[zjV (by rw[length_map,length_map,G.len xs hx,G.len xs0 (mem_of_getElem? e0)])];exact hq _ (Same.refl _)
   ·refine⟨l2,(bs.map V.ref).map λ_=>true,rfl,SqL.of (by rw[hl2'];simp only[map_map];rfl),_,rfl,?_⟩;rw[tQ];have s12:=s1.trans s2;refine bQ ⟨_,rfl,a,g,w',rfl,hA.same s12,G,λH3 l3 ps hl3' s3 hl3 hP=> ?_⟩;have hp:ps.length=_:=Paired.length hP;rw[eU]at hp;have c1:=G.c1;have c10:=G.c10;refine⟨l3,_,rfl,.inl (SqL.of hl3),_,_,rfl,rfl,_,rfl,dW (λz=> ?_) λz=>absurd ?_ z⟩
    ·refine⟨_,_,rfl,rfl,?_⟩;dsimp only
     rw[zjV (show(((ps.map V.ref).length:Nat):Int)<=10 by rw[length_map];omega)];exact q H3 (s12.trans s3)
    ·rw[length_map];omega
theorem A6a (F:D1 K mg "check_mead" zD ["mead"])(aI:A1 P w K mg base 4 "is_mead" sZ):A1 P w K mg base 5 "check_mead" rM:=by
 refine F.k ["mead"] ?_;ac_nf
 ·obtain⟨a,g,w',rfl,hA,G,q⟩:=h;refine⟨_,aM (bK (cC (bM (aI.c hr (aG (pv 0) aB)))) fQ bL),?_⟩;exact⟨_,rfl,a,g,w',rfl,hA,G,λH' hs=> ⟨_,rfl,bQ (q H' hs)⟩⟩
theorem B2m (F:D1 K mg "cells_of" uL ["mead"])(aC:A1 P w K mg base 5 "check_mead" rM)(aP:A1 P w K mg base 1 "places_of_cells" (eY pos)):A1 P w K mg base 6 "cells_of" (eY pos):=by
 refine F.k ["mead"] ?_;ac_nf
 ·obtain⟨a,g,w',rfl,hA,G,q⟩:=h;refine⟨_,aU (cK (aC.c hr (aG (pv 0) aB)))<|aM (bC (aP.c hr (aG (pv 0) aB))),?_⟩;refine⟨_,rfl,a,g,w',rfl,hA,G,λH1 s1=> ?_⟩;exact⟨_,rfl,a,g,w',rfl,hA.same s1,G,λH2 l ps hl s2 hl' hP=>q H2 l ps (s1.free hl) (s1.trans s2) hl' hP⟩
theorem A92 (F:D1 K mg "roads_of" rH ["mead"])(T:Txt mg)(T2:eE mg)(aC:A1 P w K mg base 5 "check_mead" rM):A1 P w K mg base 6 "roads_of" (eY road):=by
 obtain⟨tR,mR⟩:=T2.road;refine F.k ["mead"] ?_;ac_nf
 ·obtain⟨a,g,w',rfl,hA,G,q⟩:=h;refine⟨_,aU (cK (aC.c hr (aG (pv 0) aB)))<|aM (bC (A1v (bB rH).names ["mead"] ["at","row","k","mark"] [] rfl (iB rfl rfl T.enumerate (bD (pv 0) aB)) rfl rfl rfl (by decide +kernel)
   (λZ=>bP rfl (bA (nm1 0 nd4) (bA (nm1 1 nd4) bR))) (λZ=>cF)
   (λZ=>iB rfl rfl T.enumerate (bD (pv 1) aB)) (λZ=>bP rfl (bA (nm1 2 nd4) (bA (nm1 3 nd4) bR)))
   (λZ=>eP (bV eG (pv 3) (dS (v:=.int (-1)) rfl mR ⟨_,rfl⟩) (nomark _))) (λZ=>dC (bD (pv 0) (bD (pv 2) aB))))),?_⟩
  refine⟨_,rfl,a,g,w',rfl,hA,G,λH1 s1=> ?_⟩;obtain⟨bs,ha,hG⟩:=hA.same s1;refine⟨_,rfl,a,_,rfl,SqT.of ha,λZ l hl=> ?_⟩;refine A18 (f:=road) ha hG hl G.h4 (λxs hx=>by have:=G.len xs hx;have:=G.w5;omega) (λat' k r i H' Q' hq=> ⟨_,rfl,rfl,_,rfl,?_⟩) λσ H' ps hs hl' hP=>q H' l ps (s1.free hl) (s1.trans hs) hl' hP;have e:decide (V.int i=V.int (-1))=road i:=by
   unfold road;rw[Bool.eq_iff_iff];simp
  rw[e];exact hq
noncomputable def uJ:Sp:=λvs H Q _=> ∃a l g w ps,vs=[.ref a,.ref l]/\GridAt H a g/\cU g w/\H l=some (.lst ((ps:List Addr).map V.ref))/\PlAt H ps (aN pos g)/\∀H',Same H H'->Q (.int (bU g)) H'
theorem nA:(["row","column","mead"]:List Str).Nodup:=by decide +kernel
theorem A65 (F:D1 K mg "worth_together" kO ["mead","places"])(T2:eE mg):A1 P w K mg base 1 "worth_together" uJ:=by
 refine F.k ["mead","places"] λnd f cdv A outer s H2 vs Q E hr h=> ?_
 ·obtain⟨a,l,g,w',ps,rfl,hA,G,hl',hP,q⟩:=h;refine⟨_,aM (bC (bE (pH rfl) rfl T2.sum boot_sum (cO (bN (bB kO).names ["mead","places"] ["row","column"] [("mead",0)] rfl (cV (pv 1)) rfl rfl rfl (by decide +kernel)
    (λZ=>bP rfl (bA (nm1 0 nA) (bA (nm1 1 nA) bR))) (λZ=>cF) (λZ=>bJ cA (bJ cA (pv 2) (pv 0) (λ_ _=>rfl)) (pv 1) (λ_ _=>rfl))) aB))),?_⟩
  have s12:Same H2 H2:=Same.refl H2;refine⟨_,rfl,?_⟩;have hpl:ps.length=(aN pos g).length:=Paired.length hP;have h20:ps.length<=10:=by rw[hpl,eU];exact G.c10
  refine⟨l,rfl,⟨_,SqL.of hl'⟩,λZ l3 hl3=> ?_⟩;refine dI (K:=K) (a:=l) (xs:=ps.map V.ref) (λi σ H'=>(∃o1 o2,σ=[o1,o2,some (.ref a)])/\Same H2 H'/\H' l3=some (.lst ((((aN pos g).take i).map (atG g)).map V.int))) ⟨⟨_,_,rfl⟩,aQ hl3,by rw[aJ];rfl⟩ (λi σ H' _ h=>SqL.of (h.2.1 _ _ hl')) ?_ ?_
  ·rintro i x σ H' hi ⟨⟨o1,o2,rfl⟩,hs,hl3'⟩;obtain⟨p,hpi,rfl⟩:∃p,ps[i]?=some p/\V.ref p=x:=by
    rw[getElem?_map]at hi;cases e:ps[i]? with
    |none=>rw[e]at hi;cases hi
    |some p=>rw[e]at hi;exact⟨p,rfl,Option.some.inj hi⟩
   have hil:i<ps.length:=(zjW.mp hpi).1;obtain⟨cc,hci,hpc⟩:∃cc,(aN pos g)[i]?=some cc/\H2 p=some (.tup [.int cc.1,.int cc.2]):=by
    have go:∀{ps:List Addr}{cs:List (Int×Int)}{i:Nat}{p:Addr},PlAt H2 ps cs->ps[i]?=some p->∃cc,cs[i]?=some cc/\H2 p=some (.tup [.int cc.1,.int cc.2]):=by
     intro ps cs i p h
     induction h generalizing i with
     |nil=>intro z;simp at z
     |cons r t ih=>
      intro z;cases i with
      |zero=>cases z;exact⟨_,rfl,r⟩
      |succ i=>exact ih (by simpa using z)
    exact go hP hpi
   obtain⟨i',j',xs,n,rfl,hg,hx,hf⟩:=mem_gridF.mp (mem_of_getElem? hci);obtain⟨bs,b,h1,h2,h3,h4⟩:=(hA.same (s12.trans hs)).ix hg hx;refine⟨p,_,rfl,SqT.of (hs _ _ hpc),rfl,_,_,rfl,_,_,rfl,rfl,?_⟩;refine gO ?_;refine⟨_,rfl,_,rfl,a,_,_,_,rfl,rfl,SqT.of h1,h2,_,rfl,b,_,_,_,rfl,rfl,SqT.of h3,h4,?_⟩;refine⟨_,hl3',bW (by rw[length_map,length_map,length_take];omega),⟨_,_,rfl⟩,λb' u e'=> ?_,?_⟩
   ·rw[aY (bH e' hl3)];exact hs _ _ e'
   ·rw[aJ,take_succ,hci,map_append,map_append];show some (HO.lst (_++[V.int n]))=some (HO.lst (_++[V.int (atG g ((i':Int),(j':Int)))]));rw[iZ hg hx]
  ·rintro σ H' ⟨_,hs,hl3'⟩;rw[length_map,hpl,take_of_length_le (zjQ _)]at hl3';refine⟨l3,_,rfl,SqL.of hl3',by rw[length_map,←hpl];omega,λn hn=> ?_,?_⟩
   ·rw[tJ]at hn;obtain⟨ys,hy,hny⟩:=mem_flatten.mp hn;obtain⟨xs,hxg,rfl⟩:=mem_map.mp hy;have:=G.num xs hxg n (mem_filter.mp hny).1;omega
   ·rw[xA];exact q H' (s12.trans hs)
end
end M51
namespace Srt
open PySem PySem.W PyProof.Rows
section
noncomputable def gC (cmp:Nat->Nat->(Bool->Shared->Prop)->Shared->Prop)(n:Nat)(r:Nat->Int)(s:Shared):Prop:=∀i j (C:Bool->Shared->Prop),i<n->j<n->C (decide (r i<r j)) s->cmp i j C s
noncomputable def at' (p:Array Nat)(k:Nat):Nat:=p.getD k 0
noncomputable def Pm (n:Nat)(p:Array Nat):Prop:=p.Perm (List.range n).toArray
theorem Pm.size (h:Pm n p):p.size=n:=by rw[Array.Perm.size_eq h];simp
theorem Pm.lt (h:Pm n p)(k:Nat)(hn:0<n):at' p k<n:=by
 unfold at';by_cases hk:k<p.size
 ·have e:p.getD k 0=p[k]:=by simp[Array.getD,hk]
  rw[e];have h1:p[k]∈p.toList:=by simp
  have h2:=(Array.perm_iff_toList_perm.mp h).mem_iff.mp h1;simpa using h2
 ·have e:p.getD k 0=0:=by simp[Array.getD,hk]
  rw[e];exact hn
noncomputable def R (r:Nat->Int)(p:Array Nat)(k:Nat):Int:=r (at' p k)
noncomputable def Up (r:Nat->Int)(p:Array Nat)(k:Nat):Prop:=∀i j,i<=j->j<k->R r p i<=R r p j
noncomputable def Dn (r:Nat->Int)(p:Array Nat)(k:Nat):Prop:=∀i j,i<=j->j<k->R r p j<=R r p i
theorem A93 (h:Up r p k)(h1:R r p (k - 1)<=R r p k):Up r p (k+1):=by
 intro i j hij hj;by_cases e:j<k
 ·exact h i j hij e
 ·have:j=k:=by omega
  subst this;by_cases e2:i=j
  ·subst e2;exact Int.le_refl _
  ·exact Int.le_trans (h i (j - 1) (by omega) (by omega)) h1
theorem pQ (h:Dn r p k)(h1:R r p k<=R r p (k - 1)):Dn r p (k+1):=by
 intro i j hij hj;by_cases e:j<k
 ·exact h i j hij e
 ·have:j=k:=by omega
  subst this;by_cases e2:i=j
  ·subst e2;exact Int.le_refl _
  ·exact Int.le_trans h1 (h i (j - 1) (by omega) (by omega))
theorem A57 (hj:j<=p.size)(k:Nat):at' (kas_rev p i j) k=if i<=k/\k<j then at' p (i+j - 1 - k)else at' p k:=by
 have e:=getElem?_mirror_all (xs:=p) (i:=i) hj k;have g:∀(xs:Array Nat)(k:Nat),at' xs k=(xs[k]?).getD 0:=λxs k=>by unfold at';simp[Array.getD];split<;>simp[*]
 rw[g,g,g];show(mirror p i j ((j - i)/2))[k]?.getD 0=_;rw[e]
 split<;>rfl
theorem qW (hj:j<=p.size)(k:Nat):R r (kas_rev p i j) k=if i<=k/\k<j then R r p (i+j - 1 - k)else R r p k:=by unfold R;rw[A57 hj];split<;>rfl
theorem jJ (hj:j<=p.size)(h:∀k,i<=k->k<j->R r p k=R r p (j - 1))(k:Nat):R r (kas_rev p i j) k=R r p k:=by
 rw[qW hj]
 split
 ·rw[h _ (by omega) (by omega),h k (by omega) (by omega)]
 ·rfl
theorem Pm.rev (h:Pm n p)(i j:Nat):Pm n (kas_rev p i j):=Array.Perm.trans (mirror_perm _ _ _ _) h
theorem Pm.bub (h:Pm n p)(k d:Nat):Pm n (bubble p k d):=Array.Perm.trans (bubble_perm _ _ _) h
theorem A1u (hs:src<p.size)(hd:d<=src)(k:Nat):R r (bubble p src d) k=if k=src - d then R r p src else if src - d<k/\k<=src then R r p (k - 1)else R r p k:=by
 have e:=getElem?_bubble (xs:=p) hs d hd k;have g:∀(xs:Array Nat)(k:Nat),at' xs k=(xs[k]?).getD 0:=λxs k=>by unfold at';simp[Array.getD];split<;>simp[*]
 unfold R;rw[g,e]
 split
 ·rw[g]
 ·split<;>rw[g]
theorem sU (ha:gC cmp n r s)(hn:0<n)(hp:Pm n p):∀(f k:Nat)(Q:Nat->Shared->Prop),1<=k->Up r p k->(∀m,k<=m->m<=k+f->Up r p m->(m=k+f\/R r p m<R r p (m - 1))->Q m s)->(kas_asc p f k).kasWp cmp Q s
 |0,k,Q,h1,hu,h=>h k (zjQ _) (zjQ _) hu (.inl rfl)
 |f+1,k,Q,h1,hu,h=>by
  show cmp (at' p k) (at' p (k - 1)) (λb s'=>(if b=true then KasT.ret k else kas_asc p f (k+1)).kasWp cmp Q s') s;refine ha _ _ _ (hp.lt _ hn) (hp.lt _ hn) ?_;by_cases c:r (at' p k)<r (at' p (k - 1))
  ·rw[zjV c];exact h k (zjQ _) (by omega) hu (.inr c)
  ·rw[zjU c];refine sU ha hn hp f (k+1) Q (by omega) (A93 hu (Int.not_lt.mp c)) λm a b u e=>h m (by omega) (by omega) u ?_;rcases e with e|e
   ·left;omega
   ·exact .inr e
theorem pX (ha:gC cmp n r s)(hn:0<n):∀(f k q:Nat)(p:Array Nat)(Q:Array Nat×Nat×Nat->Shared->Prop),Pm n p->1<=k->k+f<=n->Dn r p k->q+1<=k->(∀i,k -(q+1)<=i->i<k->R r p i=R r p (k - 1))->
  (∀p' m q',Pm n p'->k<=m->m<=k+f->Dn r p' m->q'+1<=m->(∀i,m -(q'+1)<=i->i<m->R r p' i=R r p' (m - 1))->Q (p',m,q') s)->(kas_desc f p k q).kasWp cmp Q s
 |0,k,q,p,Q,hp,h1,hk,hd,hq,he,h=>h p k q hp (zjQ _) (zjQ _) hd hq he
 |f+1,k,q,p,Q,hp,h1,hk,hd,hq,he,h=>by
  have hsz:k<=p.size:=by rw[hp.size];omega
  show cmp (at' p k) (at' p (k - 1)) (λc s'=>(if c=true then(if q>0 then kas_desc f (kas_rev p (k -(q+1)) k) (k+1) 0 else kas_desc f p (k+1) 0)else KasT.ask (at' p (k - 1)) (at' p k) λd=>if d=true then KasT.ret (p,k,q)else kas_desc f p (k+1) (q+1)).kasWp cmp Q s') s;refine ha _ _ _ (hp.lt _ hn) (hp.lt _ hn) ?_;by_cases c:r (at' p k)<r (at' p (k - 1))
  ·rw[zjV c];have go:∀p',Pm n p'->(∀i,R r p' i=R r p i)->(kas_desc f p' (k+1) 0).kasWp cmp Q s:=λp' hp' e=>by
    refine pX ha hn f (k+1) 0 p' Q hp' (by omega) (by omega) ?_ (by omega) ?_ λp2 m q' a1 a2 a3 a4 a5 a6=>h p2 m q' a1 (by omega) (by omega) a4 a5 a6
    ·intro i j hij hj;rw[e,e];exact pQ hd (Int.le_of_lt c) i j hij hj
    ·intro i hi1 hi2;have:i=k:=by omega
     subst this;rfl
   show(if q>0 then kas_desc f (kas_rev p (k -(q+1)) k) (k+1) 0 else kas_desc f p (k+1) 0).kasWp cmp Q s;by_cases hq0:q>0
   ·rw[if_pos hq0];exact go _ (hp.rev _ _) (jJ hsz he)
   ·rw[if_neg hq0];exact go p hp λ_=>rfl
  ·rw[zjU c];show cmp (at' p (k - 1)) (at' p k) (λd s'=>(if d=true then KasT.ret (p,k,q)else kas_desc f p (k+1) (q+1)).kasWp cmp Q s') s;refine ha _ _ _ (hp.lt _ hn) (hp.lt _ hn) ?_;by_cases d:r (at' p (k - 1))<r (at' p k)
   ·rw[zjV d];exact h p k q hp (zjQ _) (by omega) hd hq he
   ·rw[zjU d];have e:R r p k=R r p (k - 1):=Int.le_antisymm (Int.not_lt.mp d) (Int.not_lt.mp c);show(kas_desc f p (k+1) (q+1)).kasWp cmp Q s;refine pX ha hn f (k+1) (q+1) p Q hp (by omega) (by omega) (pQ hd (Int.le_of_eq e)) (by omega) ?_ λp2 m q' a1 a2 a3 a4 a5 a6=>h p2 m q' a1 (by omega) (by omega) a4 a5 a6;intro i hi1 hi2;rw[show k+1 - 1=k by omega,e];by_cases ik:i=k
    ·rw[ik,e]
    ·exact he i (by omega) (by omega)
theorem A12 (ha:gC cmp n r s)(hn:0<n)(hp:Pm n p)(h1:1<=k)(hk:k<=nrem)(hz:nrem<=n)(hd:Dn r p k)
  (h:∀m p',Pm n p'->1<=m->m<=nrem->Up r p' m->Q (m,p') s):(kas_tail3 k nrem p).kasWp cmp Q s:=by
 unfold kas_tail3;rw[KasT.kasWp_bind];have hsz:k<=p.size:=by rw[hp.size];omega
 refine sU ha hn (hp.rev 0 k) _ _ _ h1 ?_ λm a b u _=>h m _ (hp.rev 0 k) (by omega) (by omega) u;intro i j hij hj;rw[qW hsz,qW hsz,if_pos (by omega),if_pos (by omega)];exact hd _ _ (by omega) (by omega)
theorem tX (ha:gC cmp n r s)(hn:0<n)(hp:Pm n p)(hk:k+1<=nrem)(hz:nrem<=n)(hd:Dn r p (k+1))
  (h:∀m p',Pm n p'->1<=m->m<=nrem->Up r p' m->Q (m,p') s):(kas_descPart k nrem p).kasWp cmp Q s:=by
 unfold kas_descPart;rw[KasT.kasWp_bind];refine pX ha hn _ (k+1) 0 p _ hp (by omega) (by omega) hd (by omega) (λi a b=>show R r p i=R r p (k+1 - 1) by rw[show i=k+1 - 1 by omega]) λp' m q hp' a1 a2 hd' hq he=> ?_;show(if q>0 then kas_tail3 m nrem (kas_rev p' (m -(q+1)) m)else kas_tail3 m nrem p').kasWp cmp Q s;have hsz:m<=p'.size:=by rw[hp'.size];omega
 by_cases hq0:q>0
 ·rw[if_pos hq0];refine A12 ha hn (hp'.rev _ _) (by omega) (by omega) hz ?_ h;intro i j hij hj;rw[jJ hsz he,jJ hsz he];exact hd' i j hij hj
 ·rw[if_neg hq0];exact A12 ha hn hp' (by omega) (by omega) hz hd' h
theorem A83 (ha:gC cmp n r s)(hn:0<n)(hp:Pm n p)
  (h:∀m p',Pm n p'->1<=m->m<=n->Up r p' m->Q (m,p') s):(kas_count n p).kasWp cmp Q s:=by
 unfold kas_count;rw[KasT.kasWp_bind];refine sU ha hn hp _ 1 _ (zjQ _) (λi j a b=>show R r p i<=R r p j by rw[show i=j by omega];exact Int.le_refl _) λm a b u e=> ?_;by_cases e1:m=n
 ·rw[if_pos (by simpa using e1)];exact h m p hp a (by omega) u
 ·rw[if_neg (by simpa using e1)];have hlt:R r p m<R r p (m - 1):=e.resolve_left (by omega);have dn1:∀p',Pm n p'->Dn r p' m->(∀i,R r p' i=R r p i)->Dn r p' (m+1):=λp' _ d z=>pQ d (by rw[z,z];exact Int.le_of_lt hlt);by_cases e2:m>1
  ·rw[if_pos e2];show cmp (at' p 0) (at' p (m - 1)) (λc s'=>(if c=true then KasT.ret (m,p)else kas_descPart m n (kas_rev p 0 m)).kasWp cmp Q s') s;refine ha _ _ _ (hp.lt _ hn) (hp.lt _ hn) ?_;by_cases c:r (at' p 0)<r (at' p (m - 1))
   ·rw[zjV c];exact h m p hp a (by omega) u
   ·rw[zjU c];have hall:∀k,0<=k->k<m->R r p k=R r p (m - 1):=λk _ hk=>by
     have a1:=u 0 k (by omega) hk;have a2:=u k (m - 1) (by omega) (by omega);have a3:R r p (m - 1)<=R r p 0:=Int.not_lt.mp c;omega
    have hsz:m<=p.size:=by rw[hp.size];omega
    refine tX ha hn (hp.rev 0 m) (by omega) (zjQ _) (dn1 _ (hp.rev 0 m) ?_ (jJ hsz hall)) h;intro i j hij hj;rw[jJ hsz hall,jJ hsz hall,hall i (by omega) (by omega),hall j (by omega) hj];exact Int.le_refl _
  ·rw[if_neg e2];have:m=1:=by omega
   subst this;refine tX ha hn hp (by omega) (zjQ _) (dn1 p hp (λi j hij hj=> ?_) λ_=>rfl) h;have:i=j:=by omega
   subst this;exact Int.le_refl _
theorem sC (ha:gC cmp n r s)(hn:0<n)(hp:Pm n p)(hu:Up r p k):∀(f lo hi:Nat)(Q:Nat->Shared->Prop),lo<=hi->hi<=k->hi - lo<=f->(∀i,i<lo->R r p i<=R r p k)->(∀i,hi<=i->i<k->R r p k<R r p i)->
  (∀l,l<=k->(∀i,i<l->R r p i<=R r p k)->(∀i,l<=i->i<k->R r p k<R r p i)->Q l s)->(kas_place p k f lo hi).kasWp cmp Q s
 |0,lo,hi,Q,h1,h2,h3,hl,hh,h=>h lo (by omega) hl λi a b=>hh i (by omega) b
 |f+1,lo,hi,Q,h1,h2,h3,hl,hh,h=>by
  unfold kas_place;by_cases e:lo≥hi
  ·rw[if_pos e];exact h lo (by omega) hl λi a b=>hh i (by omega) b
  ·rw[if_neg e];show cmp (at' p k) (at' p ((lo+hi)/2)) (λc s'=>(if c=true then kas_place p k f lo ((lo+hi)/2)else kas_place p k f ((lo+hi)/2+1) hi).kasWp cmp Q s') s;refine ha _ _ _ (hp.lt _ hn) (hp.lt _ hn) ?_;by_cases c:r (at' p k)<r (at' p ((lo+hi)/2))
   ·rw[zjV c];refine sC ha hn hp hu f lo ((lo+hi)/2) Q (by omega) (by omega) (by omega) hl (λi a b=> ?_) h;exact Int.lt_of_lt_of_le c (hu ((lo+hi)/2) i a b)
   ·rw[zjU c];refine sC ha hn hp hu f ((lo+hi)/2+1) hi Q (by omega) (by omega) (by omega) (λi a=> ?_) hh h;exact Int.le_trans (hu i ((lo+hi)/2) (by omega) (by omega)) (Int.not_lt.mp c)
theorem zF (ha:gC cmp n r s)(hn:0<n):∀(f k:Nat)(p:Array Nat)(Q:Array Nat->Shared->Prop),Pm n p->k+f=n->Up r p k->(∀p',Pm n p'->Up r p' n->Q p' s)->(kas_bin f p k).kasWp cmp Q s
 |0,k,p,Q,hp,hk,hu,h=>h p hp (by rw[←hk];exact hu)
 |f+1,k,p,Q,hp,hk,hu,h=>by
  show((kas_place p k k 0 k).bind λl=>kas_bin f (bubble p k (k - l)) (k+1)).kasWp cmp Q s;rw[KasT.kasWp_bind];refine sC ha hn hp hu k 0 k _ (zero_le _) (zjQ _) (by omega) (λi a=>by omega) (λi a b=>by omega) λl hl h1 h2=> ?_;refine zF ha hn f (k+1) _ Q (hp.bub _ _) (by omega) ?_ h;have hs:k<p.size:=by rw[hp.size];omega
  intro i j hij hj;rw[A1u hs (by omega),A1u hs (by omega),show k -(k - l)=l by omega];by_cases c1:i=l
  ·rw[if_pos c1];by_cases c2:j=l
   ·rw[if_pos c2];exact Int.le_refl _
   ·rw[if_neg c2,if_pos (by omega)];exact Int.le_of_lt (h2 (j - 1) (by omega) (by omega))
  ·rw[if_neg c1];by_cases c2:j=l
   ·rw[if_pos c2,if_neg (by omega)];exact h1 i (by omega)
   ·rw[if_neg c2];by_cases c3:l<i/\i<=k
    ·rw[if_pos c3,if_pos (by omega)];exact hu _ _ (by omega) (by omega)
    ·rw[if_neg c3];by_cases c4:l<j/\j<=k
     ·rw[if_pos c4];exact hu _ _ (by omega) (by omega)
     ·rw[if_neg c4];exact hu _ _ hij (by omega)
theorem A6r (ha:gC cmp n r s)(h2:2<=n)(h:∀p,Pm n p->Up r p n->Q p s):(kas_sort n).kasWp cmp Q s:=by
 unfold kas_sort;rw[KasT.kasWp_bind];refine A83 ha (by omega) (Array.Perm.refl _) λm p hp h1 hm u=> ?_;show(if m<n then kas_bin (n - max m 1) p (max m 1)else KasT.ret p).kasWp cmp Q s;by_cases e:m<n
 ·rw[if_pos e];have:max m 1=m:=by omega
  rw[this];exact zF ha (by omega) _ _ p Q hp (by omega) u h
 ·rw[if_neg e];have:m=n:=by omega
  subst this;exact h p hp u
end
end Srt
namespace Tms
open PySem PyProof.Rows
noncomputable def gal:Bool->Keyed->Array Keyed->Nat->Nat->Nat->StateT SortSt Sem (Option Nat):=sortPriv%PySem.Builtin.gallop
section
variable {M:Model}{A:Around}{E:Value->Shared->Prop}{s:Shared}{S:Keyed->Prop}{r:Keyed->Keyed->Bool}{κ:SortKind}
noncomputable def Oc (M:Model)(A:Around)(E:Value->Shared->Prop)(s:Shared)(κ:SortKind)(S:Keyed->Prop)(r:Keyed->Keyed->Bool):Prop:=
 ∀(x y:Keyed)(st:SortSt)(Q:Option Bool->SortSt->Prop),S x->S y->kindOf st=κ->Q (some (r x y)) st->wpS M A E s (lt' x y) Q st
theorem dH {a:Array Keyed}{i:Nat}{x:Keyed}{Q:Keyed->SortSt->Prop}{st:SortSt}(e:a[i]?=some x)(h:Q x st):wpS M A E s (elem' a i) Q st:=by rw[elem'_eq,e];exact wpS_pure h
structure Bey (S:Keyed->Prop)(r:Keyed->Keyed->Bool)(left:Bool)(key:Keyed)(a:Array Keyed)(base n:Nat)(b:Nat->Bool):Prop where
 at_:∀i,i<n->∃x,a[base+i]?=some x/\S x/\(if left=true then r x key else !r key x)=b i
 mono:∀i j,i<=j->j<n->b j=true->b i=true
 key:S key
theorem jU {left:Bool}{key:Keyed}{a:Array Keyed}{base n hint:Nat}{b:Nat->Bool}{Q:Option Nat->SortSt->Prop}{st:SortSt}(O:Oc M A E s κ S r)(hk:kindOf st=κ)(B:Bey S r left key a base n b)(hh:hint<n)
  (h:∀k,k<=n->(∀i,i<k->b i=true)->(∀i,k<=i->i<n->b i=false)->Q (some k) st):wpS M A E s (gal left key a base n hint) Q st:=by
 have bey:∀(i:Nat)(R:Option Bool->SortSt->Prop),i<n->R (some (b i)) st->wpS M A E s (elem' a (base+i)>>=λx=>if left=true then lt' x key else lt' key x>>=λz=>pure (z.map (λx=> !x))) R st:=by
  intro i R hi hR;obtain⟨x,e,hS,eb⟩:=B.at_ i hi;refine wpS_bind (dH e ?_);cases left with
  |true=>rw[if_pos rfl]at eb⊢;exact O _ _ _ _ hS B.key hk (by rw[eb];exact hR)
  |false=>
   rw[if_neg (by decide)]at eb⊢;refine wpS_bind (O _ _ _ _ B.key hS hk (wpS_pure ?_));show R (some (!r key x)) st;rw[eb];exact hR
 have bin:∀lo hi:Nat,lo<=hi->hi<=n->(∀i,i<lo->b i=true)->(∀i,hi<=i->i<n->b i=false)->∀{f:Nat->Option (Option Nat)×Nat×Nat->StateT SortSt Sem (ForInStep (Option (Option Nat)×Nat×Nat))}{g:Option (Option Nat)×Nat×Nat->StateT SortSt Sem (Option Nat)},
   (∀x lo hi (R:ForInStep (Option (Option Nat)×Nat×Nat)->SortSt->Prop),hi<=n->(lo≥hi->R (.done (none,lo,hi)) st)->(∀m,m=lo+(hi - lo)/2->lo<hi->R (.yield (if b m=true then(none,m+1,hi)else(none,lo,m))) st)->wpS M A E s (f x (none,lo,hi)) R st)->
   (∀lo hi,Q (some hi) st->wpS M A E s (g (none,lo,hi)) Q st)->
   wpS M A E s (forIn [0:n] (none,lo,hi) f>>=g) Q st:=by
  intro lo hi h1 h2 h3 h4 f g hf hg;refine wpS_bind (wpS_mono (wpS_forRange (I:=λx c st'=>st'=st/\∃lo hi,c=(none,lo,hi)/\lo<=hi/\hi<=n/\(∀i,i<lo->b i=true)/\(∀i,hi<=i->i<n->b i=false)/\hi - lo+x<=n)
   (Q:=λc st'=>st'=st/\∃lo hi,c=(none,lo,hi)/\hi<=lo/\hi<=n/\(∀i,i<lo->b i=true)/\(∀i,hi<=i->i<n->b i=false)) ?_ ?_ ⟨rfl,lo,hi,rfl,h1,h2,h3,h4,by omega⟩) ?_)
  ·rintro x c st' _ hx ⟨rfl,lo,hi,rfl,g1,g2,g3,g4,g5⟩;refine hf x lo hi _ g2 (λhge=> ⟨rfl,lo,hi,rfl,hge,g2,g3,g4⟩) λm hm hlt=> ?_;have m1:lo<=m:=by omega
   have m2:m<hi:=by omega
   cases hb:b m with
   |true=>
    rw[if_pos rfl];exact⟨rfl,_,_,rfl,by omega,g2,λi hi'=>B.mono i m (by omega) (by omega) hb,g4,by omega⟩
   |false=>
    rw[if_neg (by decide)];refine⟨rfl,_,_,rfl,m1,by omega,g3,λi h5 h6=> ?_,by omega⟩;cases hc:b i with
    |false=>rfl
    |true=>rw[B.mono m i h5 h6 hc]at hb;exact nomatch hb
  ·rintro c st' ⟨rfl,lo,hi,rfl,g1,g2,g3,g4,g5⟩;exact⟨rfl,lo,hi,rfl,by omega,g2,g3,g4⟩
  ·rintro c st' ⟨rfl,lo,hi,rfl,g1,g2,g3,g4⟩;exact hg lo hi (h hi g2 (λi hi'=>g3 i (by omega)) g4)
 refine wpS_bind (bey hint _ hh ?_);dsimp only
 cases hb:b hint with
 |true=>
  rw[if_pos rfl];refine wpS_bind (wpS_mono (wpS_forRange (I:=λx c st'=>st'=st/\∃l o,c=(none,l,o)/\x+1<=o/\l<o/\hint+l<n/\b (hint+l)=true)
   (Q:=λc st'=>st'=st/\∃l o,c=(none,l,o)/\l<o/\hint+l<n/\b (hint+l)=true/\(n - hint<=o\/(hint+o<n/\b (hint+o)=false))) ?_ ?_ ⟨rfl,0,1,rfl,by omega,by omega,hh,hb⟩) ?_)
  ·rintro x c st' _ hx ⟨rfl,l,o,rfl,g1,g2,g3,g4⟩;dsimp only
   by_cases ho:o≥n - hint
   ·rw[if_pos ho];exact wpS_pure ⟨rfl,l,o,rfl,g2,g3,g4,.inl ho⟩
   ·rw[if_neg ho];refine wpS_bind (bey (hint+o) _ (by omega) ?_);cases hc:b (hint+o)with
    |true=>exact wpS_pure ⟨rfl,_,_,rfl,by omega,by omega,by omega,hc⟩
    |false=>exact wpS_pure ⟨rfl,_,_,rfl,g2,g3,g4,.inr ⟨by omega,hc⟩⟩
  ·rintro c st' ⟨rfl,l,o,rfl,g1,g2,g3,g4⟩;exact⟨rfl,l,o,rfl,g2,g3,g4,.inl (by omega)⟩
  ·rintro c st' ⟨rfl,l,o,rfl,g2,g3,g4,g5⟩;dsimp only
   refine bin _ _ (by rcases g5 with g5|g5<;>omega) (by omega) (λi hi=>B.mono i (hint+l) (by omega) g3 g4) (λi h5 h6=> ?_) (λx lo hi R hn h1 h2=> ?_) λlo hi hq=>wpS_pure hq
   ·rcases g5 with g5| ⟨g5,g6⟩
    ·omega
    ·cases hc:b i with
     |false=>rfl
     |true=>rw[B.mono (hint+o) i (by omega) h6 hc]at g6;exact nomatch g6
   ·dsimp only
    by_cases hlt:lo≥hi
    ·rw[if_pos hlt];exact wpS_pure (h1 hlt)
    ·rw[if_neg hlt];refine wpS_bind (bey (lo+(hi - lo)/2) _ (by omega) ?_);have q:=h2 _ rfl (by omega);cases hc:b (lo+(hi - lo)/2)with
     |true=>rw[hc,if_pos rfl]at q;exact wpS_pure q
     |false=>rw[hc,if_neg (by decide)]at q;exact wpS_pure q
 |false=>
  rw[if_neg (by decide)];refine wpS_bind (wpS_mono (wpS_forRange (I:=λx c st'=>st'=st/\∃l o,c=(none,l,o)/\x+1<=o/\l<o/\l<=hint/\b (hint - l)=false)
   (Q:=λc st'=>st'=st/\∃l o,c=(none,l,o)/\l<o/\l<=hint/\b (hint - l)=false/\(hint+1<=o\/(o<=hint/\b (hint - o)=true))) ?_ ?_ ⟨rfl,0,1,rfl,by omega,by omega,zero_le _,hb⟩) ?_)
  ·rintro x c st' _ hx ⟨rfl,l,o,rfl,g1,g2,g3,g4⟩;dsimp only
   by_cases ho:o≥hint+1
   ·rw[if_pos ho];exact wpS_pure ⟨rfl,l,o,rfl,g2,g3,g4,.inl ho⟩
   ·rw[if_neg ho];refine wpS_bind (bey (hint - o) _ (by omega) ?_);cases hc:b (hint - o)with
    |true=>exact wpS_pure ⟨rfl,_,_,rfl,g2,g3,g4,.inr ⟨by omega,hc⟩⟩
    |false=>exact wpS_pure ⟨rfl,_,_,rfl,by omega,by omega,by omega,hc⟩
  ·rintro c st' ⟨rfl,l,o,rfl,g1,g2,g3,g4⟩;exact⟨rfl,l,o,rfl,g2,g3,g4,.inl (by omega)⟩
  ·rintro c st' ⟨rfl,l,o,rfl,g2,g3,g4,g5⟩;dsimp only
   refine bin _ _ (by rcases g5 with g5|g5<;>omega) (by omega) (λi hi=> ?_) (λi h5 h6=> ?_) (λx lo hi R hn h1 h2=> ?_) λlo hi hq=>wpS_pure hq
   ·rcases g5 with g5| ⟨g5,g6⟩
    ·omega
    ·exact B.mono i (hint - o) (by omega) (by omega) g6
   ·cases hc:b i with
    |false=>rfl
    |true=>rw[B.mono (hint - l) i (by omega) h6 hc]at g4;exact nomatch g4
   ·dsimp only
    by_cases hlt:lo≥hi
    ·rw[if_pos hlt];exact wpS_pure (h1 hlt)
    ·rw[if_neg hlt];refine wpS_bind (bey (lo+(hi - lo)/2) _ (by omega) ?_);have q:=h2 _ rfl (by omega);cases hc:b (lo+(hi - lo)/2)with
     |true=>rw[hc,if_pos rfl]at q;exact wpS_pure q
     |false=>rw[hc,if_neg (by decide)]at q;exact wpS_pure q
end
section
variable {α:Type}{R:α->α->Prop}{la lb lo:List α}{ia ib k:Nat}{x:α}
structure Mg (R:α->α->Prop)(la lb lo:List α)(ia ib:Nat):Prop where
 pm:lo.Perm (la.take ia++lb.take ib)
 so:lo.Pairwise R
 lt:∀x∈lo,∀y,y∈la.drop ia\/y∈lb.drop ib->R x y
noncomputable def Md (R:α->α->Prop)(la lb l:List α):Prop:=l.Perm (la++lb)/\l.Pairwise R
theorem Mg.sw (m:Mg R la lb lo ia ib):Mg R lb la lo ib ia:=⟨m.pm.trans perm_append_comm,m.so,λx hx y hy=>m.lt x hx y hy.symm⟩
theorem lS (e:la[ia]?=some x):la.drop ia=x::la.drop (ia+1):=by obtain⟨h,e⟩:=zjW.mp e;rw[List.drop_eq_getElem_cons h,e]
theorem iV (e:la[ia]?=some x):la.take (ia+1)=la.take ia++[x]:=by rw[List.take_add_one,e];rfl
theorem Mg.a (m:Mg R la lb lo ia ib)(sa:la.Pairwise R)(e:la[ia]?=some x)(h:∀y∈lb.drop ib,R x y):Mg R la lb (lo++[x]) (ia+1) ib:=by
 have sd:(la.drop ia).Pairwise R:=sa.sublist (drop_sublist _ _);have ed:=lS e;refine⟨?_,?_,?_⟩
 ·rw[iV e];refine(m.pm.append_right [x]).trans ?_;rw[append_assoc,append_assoc];exact List.Perm.append_left _ perm_append_comm
 ·refine pairwise_append.mpr ⟨m.so,pairwise_singleton _ _,λz hz y hy=> ?_⟩;obtain rfl:y=x:=by simpa using hy
  exact m.lt z hz _ (.inl (by rw[ed];exact zjR))
 ·intro z hz y hy;rcases mem_append.mp hz with hz|hz
  ·exact m.lt z hz y (hy.imp (λq=>by rw[ed];exact zjS _ q) id)
  ·obtain rfl:z=x:=by simpa using hz
   rcases hy with hy|hy
   ·rw[ed]at sd;exact(pairwise_cons.mp sd).1 y hy
   ·exact h y hy
theorem Mg.b (m:Mg R la lb lo ia ib)(sb:lb.Pairwise R)(e:lb[ib]?=some x)(h:∀y∈la.drop ia,R x y):Mg R la lb (lo++[x]) ia (ib+1):=(m.sw.a sb e h).sw
theorem Mg.as (m:Mg R la lb lo ia ib)(sa:la.Pairwise R):∀k,ia+k<=la.length->(∀i x,i<k->la[ia+i]?=some x->∀y∈lb.drop ib,R x y)->Mg R la lb (lo++(la.drop ia).take k) (ia+k) ib
 |0,_,_=>by simpa using m
 |k+1,hk,h=>by
  have m1:=m.as sa k (by omega) λi x hi e=>h i x (by omega) e;have hl:ia+k<la.length:=by omega
  have e:la[ia+k]?=some la[ia+k]:=getElem?_eq_getElem hl;have m2:=m1.a sa e (h k _ (by omega) e);have et:(la.drop ia).take (k+1)=(la.drop ia).take k++[la[ia+k]]:=iV (by rw[getElem?_drop];exact e);rw[et,←append_assoc];exact m2
theorem Mg.bs (m:Mg R la lb lo ia ib)(sb:lb.Pairwise R)(k:Nat)(hk:ib+k<=lb.length)(h:∀i x,i<k->lb[ib+i]?=some x->∀y∈la.drop ia,R x y):Mg R la lb (lo++(lb.drop ib).take k) ia (ib+k):=(m.sw.as sb k hk h).sw
theorem Mg.da (m:Mg R la lb lo ia ib)(sa:la.Pairwise R)(hb:lb.length<=ib):Md R la lb (lo++la.drop ia):=by refine⟨?_,pairwise_append.mpr ⟨m.so,sa.sublist (drop_sublist _ _),λx hx y hy=>m.lt x hx y (.inl hy)⟩⟩;have p:=m.pm.append_right (la.drop ia);rw[take_of_length_le hb]at p;refine p.trans ?_;rw[append_assoc];refine(List.Perm.append_left _ perm_append_comm).trans ?_;rw[←append_assoc,take_append_drop]
theorem Mg.db (m:Mg R la lb lo ia ib)(sb:lb.Pairwise R)(ha:la.length<=ia):Md R la lb (lo++lb.drop ib):=⟨(m.sw.da sb ha).1.trans perm_append_comm,(m.sw.da sb ha).2⟩
theorem Mg.l1 (m:Mg R la lb lo ia ib)(sb:lb.Pairwise R)(e:la[ia]?=some x)(hl:ia+1=la.length)(h:∀y∈lb,R y x):Md R la lb (lo++lb.drop ib++la.drop ia):=by
 have ed:la.drop ia=[x]:=by rw[lS e,drop_of_length_le (by omega)]
 refine⟨?_,?_⟩
 ·have p:=(m.pm.append_right (lb.drop ib)).append_right (la.drop ia);refine p.trans ?_;rw[append_assoc (la.take ia),take_append_drop,append_assoc];refine(List.Perm.append_left _ perm_append_comm).trans ?_;rw[←append_assoc,take_append_drop]
 ·rw[ed];refine pairwise_append.mpr ⟨pairwise_append.mpr ⟨m.so,sb.sublist (drop_sublist _ _),λx hx y hy=>m.lt x hx y (.inr hy)⟩,pairwise_singleton _ _,λz hz y hy=> ?_⟩;obtain rfl:y=x:=by simpa using hy
  rcases mem_append.mp hz with hz|hz
  ·exact m.lt z hz _ (.inl (by rw[ed];exact zjR))
  ·exact h z (mem_of_mem_drop hz)
theorem jG (tr:∀x y z:α,R x y->R y z->R x z)(sb:lb.Pairwise R){y:α}(e:lb[ib]?=some y)(h:R x y):∀z∈lb.drop ib,R x z:=by
 have sd:(lb.drop ib).Pairwise R:=sb.sublist (drop_sublist _ _);rw[lS e]at sd⊢;intro z hz;rcases mem_cons.mp hz with rfl|hz
 ·exact h
 ·exact tr _ _ _ h ((pairwise_cons.mp sd).1 z hz)
theorem Mg.nil:Mg R la lb [] 0 0:=⟨by simp,List.Pairwise.nil,λ_ h=>nomatch h⟩
end
noncomputable def mgl:Array Keyed->Array Keyed->StateT SortSt Sem (Array Keyed):=sortPriv%PySem.Builtin.mergeLo
noncomputable abbrev sg (st:SortSt)(g:Nat):SortSt:=SortSt.mk' (kindOf st) (arrOf st) (pendingOf st) g (failedOf st)
noncomputable def Le (r:Keyed->Keyed->Bool)(x y:Keyed):Prop:=r y x=false
section
variable {M:Model}{A:Around}{E:Value->Shared->Prop}{s:Shared}{S:Keyed->Prop}{r:Keyed->Keyed->Bool}{κ:SortKind}{β:Type}{st:SortSt}{Q:β->SortSt->Prop}
end
section
variable {M:Model}{A:Around}{E:Value->Shared->Prop}{s:Shared}{S:Keyed->Prop}{r:Keyed->Keyed->Bool}{κ:SortKind}{a b:Array Keyed}
theorem iC {a:Array Keyed}{i j:Nat}:(a.extract i j).toList=(a.toList.drop i).take (j - i):=by rw[Array.toList_extract]
theorem jP {a:Array Keyed}{i:Nat}:(a.extract i a.size).toList=a.toList.drop i:=by rw[iC,take_of_length_le];rw[length_drop];exact zjQ _
theorem dO {a:Array Keyed}{i:Nat}(h:i<a.size):∃x,a[i]?=some x/\a.toList[i]?=some x/\x∈a.toList:=⟨a[i],by simp[h],by simp[h],by simp⟩
structure Li (r:Keyed->Keyed->Bool)(a b o:Array Keyed)(i j:Nat):Prop where
 mg:Mg (Le r) a.toList b.toList o.toList i j
 ha:i+1<a.size
 hb:j<b.size
theorem xH {key:Keyed}{i:Nat}(tr:∀x y z,Le r x y->Le r y z->Le r x z)(sa:a.toList.Pairwise (Le r))(hS:∀x∈a.toList,S x)(hk:S key):Bey S r false key a i (a.size - i) (λk=>match a[i+k]? with|some x=> !r key x|none=>false):=by
 refine⟨λk hk'=> ?_,λk l hkl hl hb=> ?_,hk⟩
 ·obtain⟨x,e,_,m⟩:=dO (a:=a) (i:=i+k) (by omega);exact⟨x,e,hS x m,by rw[e];rfl⟩
 ·obtain⟨x,e,e1,m⟩:=dO (a:=a) (i:=i+k) (by omega);obtain⟨y,e',e1',m'⟩:=dO (a:=a) (i:=i+l) (by omega);simp only[e,e']at hb⊢;rcases eq_or_lt_of_le hkl with rfl|hlt
  ·rw[e]at e';cases e';exact hb
  ·have q:Le r x y:=(pairwise_iff_getElem.mp sa) (i+k) (i+l) (by simp;omega) (by simp;omega) (by omega)|>λq=>by
    have h1:=(zjW.mp e1).2;have h2:=(zjW.mp e1').2;rw[h1,h2]at q;exact q
   have q2:Le r y key:=by unfold Le;simpa using hb
   have q3:Le r x key:=tr _ _ _ q q2;unfold Le at q3;simp[q3]
theorem wG {key:Keyed}{i:Nat}(tr:∀x y z,Le r x y->Le r y z->Le r x z)(sa:a.toList.Pairwise (Le r))(hS:∀x∈a.toList,S x)(hk:S key):Bey S r true key a i (a.size - i) (λk=>match a[i+k]? with|some x=>r x key|none=>false):=by
 refine⟨λk hk'=> ?_,λk l hkl hl hb=> ?_,hk⟩
 ·obtain⟨x,e,_,m⟩:=dO (a:=a) (i:=i+k) (by omega);exact⟨x,e,hS x m,by rw[e];rfl⟩
 ·obtain⟨x,e,e1,m⟩:=dO (a:=a) (i:=i+k) (by omega);obtain⟨y,e',e1',m'⟩:=dO (a:=a) (i:=i+l) (by omega);simp only[e,e']at hb⊢;rcases eq_or_lt_of_le hkl with rfl|hlt
  ·rw[e]at e';cases e';exact hb
  ·have q:Le r x y:=(pairwise_iff_getElem.mp sa) (i+k) (i+l) (by simp;omega) (by simp;omega) (by omega)|>λq=>by
    have h1:=(zjW.mp e1).2;have h2:=(zjW.mp e1').2;rw[h1,h2]at q;exact q
   cases h3:r x key with
   |true=>rfl
   |false=>
    have q3:Le r key y:=tr _ _ _ h3 q;unfold Le at q3;rw[q3]at hb;exact nomatch hb
end
section
variable {M:Model}{A:Around}{E:Value->Shared->Prop}{s:Shared}{S:Keyed->Prop}{r:Keyed->Keyed->Bool}{κ:SortKind}{a b:Array Keyed}
theorem A1p {α:Type}{c:Nat->Prop} [∀n,Decidable (c n)]{X F:Nat->StateT SortSt Sem α}{Q:α->SortSt->Prop}{st:SortSt}(hX:∀n,X n=F (n - 1))(h:∀n,wpS M A E s (F n) Q st):∀n,wpS M A E s (if c n then X n else F n) Q st:=λn=>by
 split
 ·rw[hX];exact h _
 ·exact h _
theorem oJ {β γ α:Type}{c:Prop} [Decidable c]{X F:β->γ->StateT SortSt Sem α}{Q:α->SortSt->Prop}{st:SortSt}{b0:β}{g0:γ}(Pre:β->γ->Prop)(hn:¬c->Pre b0 g0)(key:∀b g,Pre b g->wpS M A E s (F b g) Q st)
  (hp:c->(∀b g,Pre b g->wpS M A E s (F b g) Q st)->wpS M A E s (X b0 g0) Q st):∀b,b=b0->∀g,g=g0->wpS M A E s (if c then X b g else F b g) Q st:=by
 rintro _ rfl _ rfl
 split
 ·rename_i h;exact hp h key
 ·rename_i h;exact key _ _ (hn h)
structure Mi (S:Keyed->Prop)(r:Keyed->Keyed->Bool)(a b:Array Keyed):Prop where
 tr:∀x y z,Le r x y->Le r y z->Le r x z
 as:∀x y,r x y=true->Le r x y
 sa:a.toList.Pairwise (Le r)
 sb:b.toList.Pairwise (Le r)
 xa:∀x∈a.toList,S x
 xb:∀x∈b.toList,S x
 na:1<=a.size
 nb:1<=b.size
 hd:∀x∈a.toList,∀y,b.toList[0]?=some y->Le r y x
 tl:∀y∈b.toList,∀x,a.toList[a.size - 1]?=some x->Le r y x
theorem len {a:Array Keyed}:a.toList.length=a.size:=Array.length_toList
theorem Li.one {o:Array Keyed}{i j:Nat}(m:Mi S r a b)(L:Mg (Le r) a.toList b.toList o.toList i j)(hi:(i+1==a.size)=true):Md (Le r) a.toList b.toList (o++b.extract j b.size++a.extract i a.size).toList:=by
 have hi:i+1=a.size:=by simpa using hi
 obtain⟨x,_,e,_⟩:=dO (a:=a) (i:=i) (by omega);rw[Array.toList_append,Array.toList_append,jP,jP];exact L.l1 m.sb e (by rw[len];exact hi) λy hy=>m.tl y hy x (by rw[show a.size - 1=i by omega];exact e)
theorem Li.fb {o:Array Keyed}{i j:Nat}(m:Mi S r a b)(L:Mg (Le r) a.toList b.toList o.toList i j)(hj:(j==b.size)=true):Md (Le r) a.toList b.toList (o++a.extract i a.size++b.extract j b.size).toList:=by
 have hj:j=b.size:=by simpa using hj
 rw[Array.toList_append,Array.toList_append,jP,jP,drop_of_length_le (l:=b.toList) (by rw[len];omega),append_nil];exact L.da m.sa (by rw[len];omega)
theorem Li.fa {o:Array Keyed}{i j:Nat}(m:Mi S r a b)(L:Mg (Le r) a.toList b.toList o.toList i j)(hi:(i==a.size)=true):Md (Le r) a.toList b.toList (o++a.extract i a.size++b.extract j b.size).toList:=by
 have hi:i=a.size:=by simpa using hi
 rw[Array.toList_append,Array.toList_append,jP,jP,drop_of_length_le (l:=a.toList) (by rw[len];omega),append_nil];exact L.db m.sb (by rw[len];omega)
theorem A9h {st:SortSt}{Q:Array Keyed->SortSt->Prop}(O:Oc M A E s κ S r)(hk:kindOf st=κ)(m:Mi S r a b)(h:∀l g,Md (Le r) a.toList b.toList l.toList->Q l (sg st g)):wpS M A E s (mgl a b) Q st:=by
 have ga:∀{o:Array Keyed}{i j:Nat}{x y:Keyed},Mg (Le r) a.toList b.toList o.toList i j->a.toList[i]?=some x->b.toList[j]?=some y->Le r x y->Mg (Le r) a.toList b.toList (o.push x).toList (i+1) j:=by
  intro o i j x y L ex ey q;rw[Array.toList_push];exact L.a m.sa ex (jG m.tr m.sb ey q)
 have gb:∀{o:Array Keyed}{i j:Nat}{x y:Keyed},Mg (Le r) a.toList b.toList o.toList i j->a.toList[i]?=some x->b.toList[j]?=some y->Le r y x->Mg (Le r) a.toList b.toList (o.push y).toList i (j+1):=by
  intro o i j x y L ex ey q;rw[Array.toList_push];exact L.b m.sb ey (jG m.tr m.sa ex q)
 refine wpS_bind (wpS_lift (wpAny_rule ⟨rfl,?_⟩));obtain⟨y0,b0,b0',_⟩:=dO (a:=b) (i:=0) m.nb;refine wpS_bind (dH b0 ?_);have L0:Mg (Le r) a.toList b.toList (#[y0]:Array Keyed).toList 0 1:=(Mg.nil (R:=Le r) (la:=a.toList) (lb:=b.toList)).b m.sb b0' (λz hz=>m.hd z hz y0 b0');dsimp only
 by_cases e1:((1:Nat)==b.size)=true
 ·rw[if_pos e1];exact wpS_pure (h _ (gallopOf st) (Li.fb m L0 e1))
 rw[if_neg e1];by_cases e2:((0:Nat)+1==a.size)=true
 ·rw[if_pos e2];exact wpS_pure (h _ (gallopOf st) (Li.one m L0 e2))
 rw[if_neg e2];have n1:=m.na;have n2:=m.nb;have b1:1<b.size:=by have:¬(1:Nat)=b.size:=λq=>e1 (by rw[←q];rfl);omega
 have a1:0+1<a.size:=by have:¬(0:Nat)+1=a.size:=λq=>e2 (by rw[←q];rfl);omega
 refine wpS_bind (wpS_get ?_);refine wpS_bind (wpS_mono (wpS_forRange
  (I:=λX c st'=> ∃g o i j mg,st'=sg st g/\c=(none,o,i,j,mg)/\Li r a b o i j/\X<=i+j)
  (Q:=λc st'=> ∃g l w,st'=sg st g/\c=(some l,w)/\Md (Le r) a.toList b.toList l.toList) ?_ ?_ ⟨gallopOf st,_,_,_,_,rfl,rfl,⟨L0,a1,b1⟩,by omega⟩) ?_)
 ·rintro X c _ _ hX ⟨g,o,i,j,mg,rfl,rfl,L,hx⟩;dsimp only
  refine wpS_bind (wpS_mono (wpS_forRange
   (I:=λX c st'=>st'=sg st g/\∃o i' j' ac bc,c=(none,o,i',j',ac,bc)/\Li r a b o i' j'/\i+j+X<=i'+j')
   (Q:=λc st'=>st'=sg st g/\((∃l w,c=(some l,w)/\Md (Le r) a.toList b.toList l.toList)\/ ∃o i' j' ac bc,c=(none,o,i',j',ac,bc)/\Li r a b o i' j'/\i+j+1<=i'+j')) ?_ ?_ ⟨rfl,_,_,_,_,_,rfl,L,by omega⟩) ?_)
  ·rintro X c _ _ hX ⟨rfl,o,i',j',ac,bc,rfl,L,hx⟩;dsimp only
   obtain⟨x,ea,ea',ma⟩:=dO (a:=a) (i:=i') (by have:=L.ha;omega);obtain⟨y,eb,eb',mb⟩:=dO (a:=b) (i:=j') L.hb;refine wpS_bind (dH eb (wpS_bind (dH ea (wpS_bind (O _ _ _ _ (m.xb y mb) (m.xa x ma) hk ?_)))));dsimp only
   cases hr:r y x with
   |true=>
    rw[if_pos rfl];refine wpS_bind (dH eb ?_);have L1:=gb L.mg ea' eb' (m.as _ _ hr);by_cases f1:(j'+1==b.size)=true
    ·rw[if_pos f1];exact wpS_pure ⟨rfl,.inl ⟨_,_,rfl,Li.fb m L1 f1⟩⟩
    ·rw[if_neg f1];have L2:Li r a b (o.push y) i' (j'+1):=⟨L1,L.ha,by have:=L.hb;have:¬j'+1=b.size:=λq=>f1 (by rw[←q];exact beq_self_eq_true _);omega⟩
     split
     ·exact wpS_pure ⟨rfl,.inr ⟨_,_,_,_,_,rfl,L2,by omega⟩⟩
     ·exact wpS_pure ⟨rfl,_,_,_,_,_,rfl,L2,by omega⟩
   |false=>
    rw[if_neg (by decide)];refine wpS_bind (dH ea ?_);have L1:=ga L.mg ea' eb' hr;by_cases f1:(i'+1+1==a.size)=true
    ·rw[if_pos f1];exact wpS_pure ⟨rfl,.inl ⟨_,_,rfl,Li.one m L1 f1⟩⟩
    ·rw[if_neg f1];have L2:Li r a b (o.push x) (i'+1) j':=⟨L1,by have:=L.ha;have:¬i'+1+1=a.size:=λq=>f1 (by rw[←q];exact beq_self_eq_true _);omega,L.hb⟩
     split
     ·exact wpS_pure ⟨rfl,.inr ⟨_,_,_,_,_,rfl,L2,by omega⟩⟩
     ·exact wpS_pure ⟨rfl,_,_,_,_,_,rfl,L2,by omega⟩
  ·rintro c _ ⟨rfl,o,i',j',ac,bc,rfl,L,hx⟩;exact⟨rfl,.inr ⟨_,_,_,_,_,rfl,L,by omega⟩⟩
  ·rintro c _ ⟨rfl,⟨l,w,rfl,hl⟩| ⟨o,i',j',ac,bc,rfl,L,hx'⟩⟩
   ·exact wpS_pure ⟨g,l,_,rfl,rfl,hl⟩
   dsimp only
   refine wpS_bind (wpS_lift (wpAny_rule ⟨rfl,?_⟩));refine wpS_bind (wpS_mono (wpS_forRange
    (I:=λ_ c st'=> ∃g o i2 j2 mg ac bc,st'=sg st g/\c=(none,o,i2,j2,mg,ac,bc)/\Li r a b o i2 j2/\i'+j'<=i2+j2)
    (Q:=λc st'=> ∃g,st'=sg st g/\((∃l w,c=(some l,w)/\Md (Le r) a.toList b.toList l.toList)\/ ∃o i2 j2 mg ac bc,c=(none,o,i2,j2,mg,ac,bc)/\Li r a b o i2 j2/\i'+j'<=i2+j2)) ?_ ?_ ⟨g,_,_,_,_,_,_,rfl,rfl,L,by omega⟩) ?_)
   ·rintro X c _ _ hX ⟨g,o,i2,j2,mg,ac,bc,rfl,rfl,L,hx2⟩;dsimp only
    obtain⟨y,eb,eb',mb⟩:=dO (a:=b) (i:=j2) L.hb;have ha2:=L.ha;have hb2:=L.hb
    revert mg
    refine A1p (λ_=>rfl) λmg=> ?_;refine wpS_bind (wpS_modify ?_);refine wpS_bind (dH eb (wpS_bind (jU O hk (xH m.tr m.sa m.xa (m.xb y mb)) (by omega) λk k1 k2 k3=> ?_)));dsimp only
    have La:Mg (Le r) a.toList b.toList (o++a.extract i2 (i2+k)).toList (i2+k) j2:=by
     rw[Array.toList_append,iC,show i2+k - i2=k by omega];refine L.mg.as m.sa k (by rw[len];omega) λq x hq e=>jG m.tr m.sb eb' ?_;have:=k2 q hq;have e':a[i2+q]?=some x:=by rw[←Array.getElem?_toList];exact e
     rw[e']at this;unfold Le;simpa using this
    have low:∀x,i2+k<a.size->a.toList[i2+k]?=some x->Le r y x:=λx hl e=>by
     have:=k3 k (zjQ _) (by omega);have e':a[i2+k]?=some x:=by rw[←Array.getElem?_toList];exact e
     rw[e']at this;exact m.as _ _ (by simpa using this)
    obtain⟨o9,ho9⟩:∃o9,o9=o:=⟨_,rfl⟩;obtain⟨i9,hi9⟩:∃i9,i9=i2:=⟨_,rfl⟩;rw[←ho9,←hi9]
    revert o9 i9
    refine oJ (λ(o3:Array Keyed) (i3:Nat)=>Mg (Le r) a.toList b.toList o3.toList i3 j2/\i3+1<a.size/\i'+j'<=i3+j2/\∀x,a.toList[i3]?=some x->Le r y x) (λhk0=> ⟨L.mg,ha2,hx2,λx e=>low x (by omega) (by rw[show k=0 by omega];exact e)⟩) (λo3 i3 ⟨L3,h3,h4,h5⟩=> ?_) λhk0 key=> ?_
    rotate_left
    ·by_cases f1:(i2+k+1==a.size)=true
     ·rw[if_pos f1];exact wpS_pure ⟨_,rfl,.inl ⟨_,_,rfl,Li.one m La f1⟩⟩
     rw[if_neg f1];by_cases f2:(i2+k==a.size)=true
     ·rw[if_pos f2];exact wpS_pure ⟨_,rfl,.inl ⟨_,_,rfl,Li.fa m La f2⟩⟩
     rw[if_neg f2];have f1':¬i2+k+1=a.size:=λq=>f1 (by rw[q];exact beq_self_eq_true _);have f2':¬i2+k=a.size:=λq=>f2 (by rw[q];exact beq_self_eq_true _);exact key _ _ ⟨La,by omega,by omega,λx e=>low x (by omega) e⟩
    obtain⟨x,ea,ea',ma⟩:=dO (a:=a) (i:=i3) (by omega);refine wpS_bind (dH eb ?_);have L4:=gb L3 ea' eb' (h5 x ea');by_cases f1:(j2+1==b.size)=true
    case pos=>rw[if_pos f1];exact wpS_pure ⟨_,rfl,.inl ⟨_,_,rfl,Li.fb m L4 f1⟩⟩
    rw[if_neg f1];have f1':¬j2+1=b.size:=λq=>f1 (by rw[q];exact beq_self_eq_true _);refine wpS_bind (dH ea (wpS_bind (jU O hk (wG m.tr m.sb m.xb (m.xa x ma)) (by omega) λk' p1 p2 p3=> ?_)));dsimp only
    generalize o3.push y=o5 at L4⊢;generalize hj5:j2+1=j5 at L4 f1' p1 p2 p3⊢;have Lb:Mg (Le r) a.toList b.toList (o5++b.extract j5 (j5+k')).toList i3 (j5+k'):=by
     rw[Array.toList_append,iC,show j5+k' - j5=k' by omega];refine L4.bs m.sb k' (by rw[len];omega) λq z hq e=>jG m.tr m.sa ea' ?_;have:=p2 q hq;have e':b[j5+q]?=some z:=by rw[←Array.getElem?_toList];exact e
     rw[e']at this;exact m.as _ _ (by simpa using this)
    have lob:∀z,j5+k'<b.size->b.toList[j5+k']?=some z->Le r x z:=λz hl e=>by
     have:=p3 k' (zjQ _) (by omega);have e':b[j5+k']?=some z:=by rw[←Array.getElem?_toList];exact e
     rw[e']at this;simpa [Le]using this
    obtain⟨o9,ho9⟩:∃o9,o9=o5:=⟨_,rfl⟩;obtain⟨i9,hi9⟩:∃i9,i9=j5:=⟨_,rfl⟩;rw[←ho9,←hi9]
    revert o9 i9
    refine oJ (λ(o4:Array Keyed) (j3:Nat)=>Mg (Le r) a.toList b.toList o4.toList i3 j3/\j3<b.size/\i'+j'<=i3+j3/\∀z,b.toList[j3]?=some z->Le r x z) (λhk1=> ⟨L4,by omega,by omega,λz e=>lob z (by omega) (by rw[show k'=0 by omega];exact e)⟩) (λo4 j3 ⟨L5,h6,h7,h8⟩=> ?_) λhk1 key=> ?_
    rotate_left
    ·by_cases f2:(j5+k'==b.size)=true
     ·rw[if_pos f2];exact wpS_pure ⟨_,rfl,.inl ⟨_,_,rfl,Li.fb m Lb f2⟩⟩
     rw[if_neg f2];have f2':¬j5+k'=b.size:=λq=>f2 (by rw[q];exact beq_self_eq_true _);exact key _ _ ⟨Lb,by omega,by omega,λz e=>lob z (by omega) e⟩
    obtain⟨z,ez,ez',mz⟩:=dO (a:=b) (i:=j3) h6;refine wpS_bind (dH ea ?_);have L6:=ga L5 ea' ez' (h8 z ez');by_cases f2:(i3+1+1==a.size)=true
    case pos=>rw[if_pos f2];exact wpS_pure ⟨_,rfl,.inl ⟨_,_,rfl,Li.one m L6 f2⟩⟩
    rw[if_neg f2];have f2':¬i3+1+1=a.size:=λq=>f2 (by rw[q];exact beq_self_eq_true _);have L7:Li r a b (o4.push x) (i3+1) j3:=⟨L6,by omega,h6⟩
    split
    ·exact wpS_pure ⟨_,rfl,.inr ⟨_,_,_,_,_,_,rfl,L7,by omega⟩⟩
    ·exact wpS_pure ⟨_,_,_,_,_,_,_,rfl,rfl,L7,by omega⟩
   ·rintro c _ ⟨g,o,i2,j2,mg,ac,bc,rfl,rfl,L,hx⟩;exact⟨g,rfl,.inr ⟨_,_,_,_,_,_,rfl,L,hx⟩⟩
   ·rintro c _ ⟨g,rfl,⟨l,w,rfl,hl⟩| ⟨o,i2,j2,mg,ac,bc,rfl,L,hx2⟩⟩
    ·exact wpS_pure ⟨g,l,_,rfl,rfl,hl⟩
    ·dsimp only
     exact wpS_bind (wpS_modify (wpS_pure ⟨_,_,_,_,_,rfl,rfl,L,by omega⟩))
 ·rintro c _ ⟨g,o,i,j,mg,rfl,rfl,L,hx⟩;have h1:=L.ha;have h2:=L.hb;omega
 ·rintro c _ ⟨g,l,w,rfl,rfl,hl⟩;exact wpS_pure (h l g hl)
end
section
variable {α:Type}{R:α->α->Prop}{la lb lo:List α}{na nb k:Nat}{x:α}
structure Mh (R:α->α->Prop)(la lb lo:List α)(na nb:Nat):Prop where
 pm:lo.Perm (la.drop na++lb.drop nb)
 so:lo.Pairwise (λx y=>R y x)
 lt:∀x∈lo,∀y,y∈la.take na\/y∈lb.take nb->R y x
theorem Mh.sw (m:Mh R la lb lo na nb):Mh R lb la lo nb na:=⟨m.pm.trans perm_append_comm,m.so,λx hx y hy=>m.lt x hx y hy.symm⟩
theorem Mh.a (m:Mh R la lb lo (na+1) nb)(sa:la.Pairwise R)(e:la[na]?=some x)(h:∀y∈lb.take nb,R y x):Mh R la lb (lo++[x]) na nb:=by
 have st:(la.take (na+1)).Pairwise R:=sa.sublist (take_sublist _ _);have et:=iV e;refine⟨?_,?_,?_⟩
 ·rw[lS e];exact(perm_append_comm).trans (m.pm.cons x)
 ·refine pairwise_append.mpr ⟨m.so,pairwise_singleton _ _,λz hz y hy=> ?_⟩;obtain rfl:y=x:=by simpa using hy
  exact m.lt z hz _ (.inl (by rw[et];exact mem_append_right _ zjR))
 ·intro z hz y hy;rcases mem_append.mp hz with hz|hz
  ·exact m.lt z hz y (hy.imp (λq=>by rw[et];exact mem_append_left _ q) id)
  ·obtain rfl:z=x:=by simpa using hz
   rcases hy with hy|hy
   ·rw[et]at st;exact(pairwise_append.mp st).2.2 y hy _ zjR
   ·exact h y hy
theorem Mh.as (sa:la.Pairwise R):∀(k na:Nat),Mh R la lb lo (na+k) nb->na+k<=la.length->(∀i x,na<=i->i<na+k->la[i]?=some x->∀y∈lb.take nb,R y x)->Mh R la lb (lo++((la.drop na).take k).reverse) na nb
 |0,na,m,_,_=>by simpa using m
 |k+1,na,m,hk,h=>by
  have m1:=Mh.as sa k (na+1) (by rw[show na+1+k=na+(k+1) by omega];exact m) (by omega) λi x h1 h2 e=>h i x (by omega) (by omega) e;have hl:na<la.length:=by omega
  have e:la[na]?=some la[na]:=getElem?_eq_getElem hl;have m2:=m1.a sa e (h na _ (zjQ _) (by omega) e);have et:((la.drop na).take (k+1)).reverse=((la.drop (na+1)).take k).reverse++[la[na]]:=by rw[lS e,List.take_succ_cons,List.reverse_cons]
  rw[et,←append_assoc];exact m2
theorem Mh.da (m:Mh R la lb lo na nb)(sa:la.Pairwise R)(hb:nb=0):Md R la lb (la.take na++lo.reverse):=by refine⟨?_,pairwise_append.mpr ⟨sa.sublist (take_sublist _ _),List.pairwise_reverse.mpr m.so,λy hy x hx=>m.lt x (mem_reverse.mp hx) y (.inl hy)⟩⟩;have p:=(List.reverse_perm lo).trans m.pm;rw[hb,drop_zero]at p;refine(List.Perm.append_left _ p).trans ?_;rw[←append_assoc,take_append_drop]
theorem Mh.db (m:Mh R la lb lo na nb)(sb:lb.Pairwise R)(ha:na=0):Md R la lb (lb.take nb++lo.reverse):=⟨(m.sw.da sb ha).1.trans perm_append_comm,(m.sw.da sb ha).2⟩
theorem Mh.l1 (m:Mh R la lb lo na 1)(sa:la.Pairwise R)(e:lb[0]?=some x)(h:∀y∈la,R x y):Md R la lb (lb.take 1++la.take na++lo.reverse):=by
 have ed:lb.take 1=[x]:=by rw[show 1=0+1 from rfl,iV e];rfl
 refine⟨?_,?_⟩
 ·have p:=(List.reverse_perm lo).trans m.pm;refine(List.Perm.append_left _ p).trans ?_;rw[append_assoc,←append_assoc (la.take na),take_append_drop];refine perm_append_comm.trans ?_;rw[append_assoc];refine List.Perm.append_left _ (perm_append_comm.trans ?_);rw[take_append_drop]
 ·rw[ed];refine pairwise_append.mpr ⟨pairwise_append.mpr ⟨pairwise_singleton _ _,sa.sublist (take_sublist _ _),λz hz y hy=> ?_⟩,List.pairwise_reverse.mpr m.so,λz hz y hy=> ?_⟩
  ·obtain rfl:z=x:=by simpa using hz
   exact h y (mem_of_mem_take hy)
  ·rcases mem_append.mp hz with hz|hz
   ·exact m.lt y (mem_reverse.mp hy) z (.inr (by rw[ed];exact hz))
   ·exact m.lt y (mem_reverse.mp hy) z (.inl hz)
theorem mG (tr:∀x y z:α,R x y->R y z->R x z)(sb:lb.Pairwise R){y:α}(e:lb[nb]?=some y)(h:R y x):∀z∈lb.take (nb+1),R z x:=by
 have sd:(lb.take (nb+1)).Pairwise R:=sb.sublist (take_sublist _ _);rw[iV e]at sd⊢;intro z hz;rcases mem_append.mp hz with hz|hz
 ·exact tr _ _ _ ((pairwise_append.mp sd).2.2 z hz y zjR) h
 ·obtain rfl:z=y:=by simpa using hz
  exact h
end
noncomputable def mgh:Array Keyed->Array Keyed->StateT SortSt Sem (Array Keyed):=sortPriv%PySem.Builtin.mergeHi
section
variable {M:Model}{A:Around}{E:Value->Shared->Prop}{s:Shared}{S:Keyed->Prop}{r:Keyed->Keyed->Bool}{κ:SortKind}{a b:Array Keyed}
theorem Bey.le {left:Bool}{key:Keyed}{base n n':Nat}{f:Nat->Bool}(B:Bey S r left key a base n f)(h:n'<=n):Bey S r left key a base n' f:=⟨λi hi=>B.at_ i (by omega),λi j h1 h2 h3=>B.mono i j h1 (by omega) h3,B.key⟩
structure Lh (r:Keyed->Keyed->Bool)(a b o:Array Keyed)(i j:Nat):Prop where
 mg:Mh (Le r) a.toList b.toList o.toList i j
 ha:1<=i/\i<=a.size
 hb:2<=j/\j<=b.size
theorem jM {a:Array Keyed}{i:Nat}:(a.extract 0 i).toList=a.toList.take i:=by rw[iC,drop_zero,Nat.sub_zero]
theorem Lh.one {o:Array Keyed}{i j:Nat}(m:Mi S r a b)(L:Mh (Le r) a.toList b.toList o.toList i j)(hj:(j==1)=true):Md (Le r) a.toList b.toList (b.extract 0 j++a.extract 0 i++o.reverse).toList:=by
 have hj:j=1:=by simpa using hj
 subst hj;obtain⟨x,_,e,_⟩:=dO (a:=b) (i:=0) m.nb;rw[Array.toList_append,Array.toList_append,jM,jM,Array.toList_reverse];exact L.l1 m.sa e λy hy=>m.hd y hy x e
theorem Lh.fa {o:Array Keyed}{i j:Nat}(m:Mi S r a b)(L:Mh (Le r) a.toList b.toList o.toList i j)(hi:(i==0)=true):Md (Le r) a.toList b.toList (a.extract 0 i++b.extract 0 j++o.reverse).toList:=by
 have hi:i=0:=by simpa using hi
 subst hi;rw[Array.toList_append,Array.toList_append,jM,jM,Array.toList_reverse,take_zero,nil_append];exact L.db m.sb rfl
theorem Lh.fb {o:Array Keyed}{i j:Nat}(m:Mi S r a b)(L:Mh (Le r) a.toList b.toList o.toList i j)(hj:(j==0)=true):Md (Le r) a.toList b.toList (a.extract 0 i++b.extract 0 j++o.reverse).toList:=by
 have hj:j=0:=by simpa using hj
 subst hj;rw[Array.toList_append,Array.toList_append,jM,jM,Array.toList_reverse,take_zero,append_nil];exact L.da m.sa rfl
theorem A3o {st:SortSt}{Q:Array Keyed->SortSt->Prop}(O:Oc M A E s κ S r)(hk:kindOf st=κ)(m:Mi S r a b)(h:∀l g,Md (Le r) a.toList b.toList l.toList->Q l (sg st g)):wpS M A E s (mgh a b) Q st:=by
 have ga:∀{o:Array Keyed}{i j:Nat}{x y:Keyed},Mh (Le r) a.toList b.toList o.toList (i+1) (j+1)->a.toList[i]?=some x->b.toList[j]?=some y->Le r y x->Mh (Le r) a.toList b.toList (o.push x).toList i (j+1):=by
  intro o i j x y L ex ey q;rw[Array.toList_push];exact L.a m.sa ex (mG m.tr m.sb ey q)
 have gb:∀{o:Array Keyed}{i j:Nat}{x y:Keyed},Mh (Le r) a.toList b.toList o.toList (i+1) (j+1)->a.toList[i]?=some x->b.toList[j]?=some y->Le r x y->Mh (Le r) a.toList b.toList (o.push y).toList (i+1) j:=by
  intro o i j x y L ex ey q;rw[Array.toList_push];exact(L.sw.a m.sb ey (mG m.tr m.sa ex q)).sw
 have n1:=m.na;have n2:=m.nb;refine wpS_bind (wpS_lift (wpAny_rule ⟨rfl,?_⟩));obtain⟨x0,a0,a0',_⟩:=dO (a:=a) (i:=a.size - 1) (by omega);refine wpS_bind (dH a0 ?_);have L0:Mh (Le r) a.toList b.toList (#[x0]:Array Keyed).toList (a.size - 1) b.size:=by
  have z:Mh (Le r) a.toList b.toList [] (a.size - 1+1) b.size:=⟨by rw[drop_of_length_le (l:=a.toList) (by rw[len];omega),drop_of_length_le (l:=b.toList) (by rw[len];omega)];exact List.Perm.refl _,List.Pairwise.nil,λ_ h=>nomatch h⟩;exact z.a m.sa a0' λy hy=>m.tl y (mem_of_mem_take hy) x0 a0'
 dsimp only
 by_cases e1:(a.size - 1==0)=true
 ·rw[if_pos e1];exact wpS_pure (h _ (gallopOf st) (Lh.fa m L0 e1))
 rw[if_neg e1];by_cases e2:(b.size==1)=true
 ·rw[if_pos e2];exact wpS_pure (h _ (gallopOf st) (Lh.one m L0 e2))
 rw[if_neg e2];have a1:1<=a.size - 1:=by have:¬a.size - 1=0:=λq=>e1 (by rw[q];rfl);omega
 have b1:2<=b.size:=by have:¬b.size=1:=λq=>e2 (by rw[q];rfl);omega
 refine wpS_bind (wpS_get ?_);refine wpS_bind (wpS_mono (wpS_forRange
  (I:=λX c st'=> ∃g o i j mg,st'=sg st g/\c=(none,i,j,o,mg)/\Lh r a b o i j/\X+i+j<=a.size+b.size)
  (Q:=λc st'=> ∃g l w,st'=sg st g/\c=(some l,w)/\Md (Le r) a.toList b.toList l.toList) ?_ ?_ ⟨gallopOf st,_,_,_,_,rfl,rfl,⟨L0,⟨a1,by omega⟩,⟨b1,zjQ _⟩⟩,by omega⟩) ?_)
 ·rintro X c _ _ hX ⟨g,o,i,j,mg,rfl,rfl,L,hx⟩;dsimp only
  refine wpS_bind (wpS_mono (wpS_forRange
   (I:=λX c st'=>st'=sg st g/\∃o i' j' ac bc,c=(none,i',j',o,ac,bc)/\Lh r a b o i' j'/\X+i'+j'<=i+j)
   (Q:=λc st'=>st'=sg st g/\((∃l w,c=(some l,w)/\Md (Le r) a.toList b.toList l.toList)\/ ∃o i' j' ac bc,c=(none,i',j',o,ac,bc)/\Lh r a b o i' j'/\1+i'+j'<=i+j)) ?_ ?_ ⟨rfl,_,_,_,_,_,rfl,L,by omega⟩) ?_)
  ·rintro X c _ _ hX ⟨rfl,o,i',j',ac,bc,rfl,L,hx⟩;dsimp only
   obtain⟨i1,rfl⟩:∃i1,i'=i1+1:=⟨i' - 1,by have:=L.ha;omega⟩;obtain⟨j1,rfl⟩:∃j1,j'=j1+1:=⟨j' - 1,by have:=L.hb;omega⟩;have ha2:=L.ha;have hb2:=L.hb;simp only[add_sub_cancel];obtain⟨x,ea,ea',ma⟩:=dO (a:=a) (i:=i1) (by omega);obtain⟨y,eb,eb',mb⟩:=dO (a:=b) (i:=j1) (by omega);refine wpS_bind (dH eb (wpS_bind (dH ea (wpS_bind (O _ _ _ _ (m.xb y mb) (m.xa x ma) hk ?_)))));dsimp only
   cases hr:r y x with
   |true=>
    rw[if_pos rfl];refine wpS_bind (dH ea ?_);have L1:=ga L.mg ea' eb' (m.as _ _ hr);by_cases f1:(i1==0)=true
    ·rw[if_pos f1];exact wpS_pure ⟨rfl,.inl ⟨_,_,rfl,Lh.fa m L1 f1⟩⟩
    ·rw[if_neg f1];have L2:Lh r a b (o.push x) i1 (j1+1):=⟨L1,by have:¬i1=0:=λq=>f1 (by rw[q];rfl);omega,hb2⟩
     split
     ·exact wpS_pure ⟨rfl,.inr ⟨_,_,_,_,_,rfl,L2,by omega⟩⟩
     ·exact wpS_pure ⟨rfl,_,_,_,_,_,rfl,L2,by omega⟩
   |false=>
    rw[if_neg (by decide)];refine wpS_bind (dH eb ?_);have L1:=gb L.mg ea' eb' hr;by_cases f1:(j1==1)=true
    ·rw[if_pos f1];exact wpS_pure ⟨rfl,.inl ⟨_,_,rfl,Lh.one m L1 f1⟩⟩
    ·rw[if_neg f1];have L2:Lh r a b (o.push y) (i1+1) j1:=⟨L1,ha2,by have:¬j1=1:=λq=>f1 (by rw[q];rfl);omega⟩
     split
     ·exact wpS_pure ⟨rfl,.inr ⟨_,_,_,_,_,rfl,L2,by omega⟩⟩
     ·exact wpS_pure ⟨rfl,_,_,_,_,_,rfl,L2,by omega⟩
  ·rintro c _ ⟨rfl,o,i',j',ac,bc,rfl,L,hx⟩;exact⟨rfl,.inr ⟨_,_,_,_,_,rfl,L,by omega⟩⟩
  ·rintro c _ ⟨rfl,⟨l,w,rfl,hl⟩| ⟨o,i',j',ac,bc,rfl,L,hx'⟩⟩
   ·exact wpS_pure ⟨g,l,_,rfl,rfl,hl⟩
   dsimp only
   refine wpS_bind (wpS_lift (wpAny_rule ⟨rfl,?_⟩));refine wpS_bind (wpS_mono (wpS_forRange
    (I:=λ_ c st'=> ∃g o i2 j2 mg ac bc,st'=sg st g/\c=(none,i2,j2,o,mg,ac,bc)/\Lh r a b o i2 j2/\i2+j2<=i'+j')
    (Q:=λc st'=> ∃g,st'=sg st g/\((∃l w,c=(some l,w)/\Md (Le r) a.toList b.toList l.toList)\/ ∃o i2 j2 mg ac bc,c=(none,i2,j2,o,mg,ac,bc)/\Lh r a b o i2 j2/\i2+j2<=i'+j')) ?_ ?_ ⟨g,_,_,_,_,_,_,rfl,rfl,L,by omega⟩) ?_)
   ·rintro X c _ _ hX ⟨g,o,i2,j2,mg,ac,bc,rfl,rfl,L,hx2⟩;dsimp only
    have ha2:=L.ha;have hb2:=L.hb;obtain⟨j1,rfl⟩:∃j1,j2=j1+1:=⟨j2 - 1,by omega⟩;simp only[add_sub_cancel];obtain⟨y,eb,eb',mb⟩:=dO (a:=b) (i:=j1) (by omega)
    revert mg
    refine A1p (λ_=>rfl) λmg=> ?_;refine wpS_bind (wpS_modify ?_);refine wpS_bind (dH eb (wpS_bind (jU O hk ((xH (i:=0) m.tr m.sa m.xa (m.xb y mb)).le (n':=i2) (by omega)) (by omega) λk k1 k2 k3=> ?_)));dsimp only
    simp only[zero_add]at k2 k3;have La:Mh (Le r) a.toList b.toList (o++(a.extract k i2).reverse).toList k (j1+1):=by
     rw[Array.toList_append,Array.toList_reverse,iC];refine Mh.as m.sa (i2 - k) k (by rw[show k+(i2 - k)=i2 by omega];exact L.mg) (by rw[len];omega) λq x h1 h2 e=>mG m.tr m.sb eb' ?_;have:=k3 q h1 (by omega);have e':a[q]?=some x:=by rw[←Array.getElem?_toList];exact e
     rw[e']at this;exact m.as _ _ (by simpa using this)
    have low:∀x,1<=k->a.toList[k - 1]?=some x->Le r x y:=λx hl e=>by
     have:=k2 (k - 1) (by omega);have e':a[k - 1]?=some x:=by rw[←Array.getElem?_toList];exact e
     rw[e']at this;unfold Le;simpa using this
    generalize hkk:i2 - k=kk;obtain⟨o9,ho9⟩:∃o9,o9=o:=⟨_,rfl⟩;obtain⟨i9,hi9⟩:∃i9,i9=i2:=⟨_,rfl⟩;rw[←ho9,←hi9]
    revert o9 i9
    refine oJ (λ(o3:Array Keyed) (i3:Nat)=>Mh (Le r) a.toList b.toList o3.toList i3 (j1+1)/\(1<=i3/\i3<=a.size)/\i3+(j1+1)<=i'+j'/\∀x,a.toList[i3 - 1]?=some x->Le r x y) (λhk0=> ⟨L.mg,ha2,hx2,λx e=>low x (by omega) (by rw[show k=i2 by omega];exact e)⟩) (λo3 i3 ⟨L3,h3,h4,h5⟩=> ?_) λhk0 key=> ?_
    rotate_left
    ·by_cases f1:(k==0)=true
     ·rw[if_pos f1];exact wpS_pure ⟨_,rfl,.inl ⟨_,_,rfl,Lh.fa m La f1⟩⟩
     rw[if_neg f1];have f1':¬k=0:=λq=>f1 (by rw[q];rfl);exact key _ _ ⟨La,by omega,by omega,λx e=>low x (by omega) e⟩
    obtain⟨i1,rfl⟩:∃i1,i3=i1+1:=⟨i3 - 1,by omega⟩;simp only[add_sub_cancel]at h5⊢;obtain⟨x,ea,ea',ma⟩:=dO (a:=a) (i:=i1) (by omega);refine wpS_bind (dH eb ?_);have L4:=gb L3 ea' eb' (h5 x ea');by_cases f1:(j1==1)=true
    case pos=>rw[if_pos f1];exact wpS_pure ⟨_,rfl,.inl ⟨_,_,rfl,Lh.one m L4 f1⟩⟩
    rw[if_neg f1];have f1':¬j1=1:=λq=>f1 (by rw[q];rfl);refine wpS_bind (dH ea (wpS_bind (jU O hk ((wG (i:=0) m.tr m.sb m.xb (m.xa x ma)).le (n':=j1) (by omega)) (by omega) λk' p1 p2 p3=> ?_)));dsimp only
    generalize o3.push y=o5 at L4⊢;simp only[zero_add]at p2 p3;have Lb:Mh (Le r) a.toList b.toList (o5++(b.extract k' j1).reverse).toList (i1+1) k':=by
     rw[Array.toList_append,Array.toList_reverse,iC];refine(Mh.as m.sb (j1 - k') k' (by rw[show k'+(j1 - k')=j1 by omega];exact L4.sw) (by rw[len];omega) λq z h1 h2 e=>mG m.tr m.sa ea' ?_).sw;have:=p3 q h1 (by omega);have e':b[q]?=some z:=by rw[←Array.getElem?_toList];exact e
     rw[e']at this;simpa [Le]using this
    have lob:∀z,1<=k'->b.toList[k' - 1]?=some z->Le r z x:=λz hl e=>by
     have:=p2 (k' - 1) (by omega);have e':b[k' - 1]?=some z:=by rw[←Array.getElem?_toList];exact e
     rw[e']at this;exact m.as _ _ (by simpa using this)
    generalize hk9:j1 - k'=kk1;obtain⟨o9,ho9⟩:∃o9,o9=o5:=⟨_,rfl⟩;obtain⟨i9,hi9⟩:∃i9,i9=j1:=⟨_,rfl⟩;rw[←ho9,←hi9]
    revert o9 i9
    refine oJ (λ(o4:Array Keyed) (j3:Nat)=>Mh (Le r) a.toList b.toList o4.toList (i1+1) j3/\(2<=j3/\j3<=b.size)/\i1+1+j3<=i'+j'/\∀z,b.toList[j3 - 1]?=some z->Le r z x) (λhk1=> ⟨L4,by omega,by omega,λz e=>lob z (by omega) (by rw[show k'=j1 by omega];exact e)⟩) (λo4 j3 ⟨L5,h6,h7,h8⟩=> ?_) λhk1 key=> ?_
    rotate_left
    ·by_cases f2:(k'==1)=true
     ·rw[if_pos f2];exact wpS_pure ⟨_,rfl,.inl ⟨_,_,rfl,Lh.one m Lb f2⟩⟩
     rw[if_neg f2];by_cases f3:(k'==0)=true
     ·rw[if_pos f3];exact wpS_pure ⟨_,rfl,.inl ⟨_,_,rfl,Lh.fb m Lb f3⟩⟩
     rw[if_neg f3];have f2':¬k'=1:=λq=>f2 (by rw[q];rfl);have f3':¬k'=0:=λq=>f3 (by rw[q];rfl);exact key _ _ ⟨Lb,by omega,by omega,λz e=>lob z (by omega) e⟩
    obtain⟨j4,rfl⟩:∃j4,j3=j4+1:=⟨j3 - 1,by omega⟩;simp only[add_sub_cancel]at h8;obtain⟨z,ez,ez',mz⟩:=dO (a:=b) (i:=j4) (by omega);refine wpS_bind (dH ea ?_);have L6:=ga L5 ea' ez' (h8 z ez');by_cases f2:(i1==0)=true
    case pos=>rw[if_pos f2];exact wpS_pure ⟨_,rfl,.inl ⟨_,_,rfl,Lh.fa m L6 f2⟩⟩
    rw[if_neg f2];have f2':¬i1=0:=λq=>f2 (by rw[q];rfl);have L7:Lh r a b (o4.push x) i1 (j4+1):=⟨L6,by omega,h6⟩
    split
    ·exact wpS_pure ⟨_,rfl,.inr ⟨_,_,_,_,_,_,rfl,L7,by omega⟩⟩
    ·exact wpS_pure ⟨_,_,_,_,_,_,_,rfl,rfl,L7,by omega⟩
   ·rintro c _ ⟨g,o,i2,j2,mg,ac,bc,rfl,rfl,L,hx⟩;exact⟨g,rfl,.inr ⟨_,_,_,_,_,_,rfl,L,hx⟩⟩
   ·rintro c _ ⟨g,rfl,⟨l,w,rfl,hl⟩| ⟨o,i2,j2,mg,ac,bc,rfl,L,hx2⟩⟩
    ·exact wpS_pure ⟨g,l,_,rfl,rfl,hl⟩
    ·dsimp only
     exact wpS_bind (wpS_modify (wpS_pure ⟨_,_,_,_,_,rfl,rfl,L,by omega⟩))
 ·rintro c _ ⟨g,o,i,j,mg,rfl,rfl,L,hx⟩;have h1:=L.ha;have h2:=L.hb;omega
 ·rintro c _ ⟨g,l,w,rfl,rfl,hl⟩;exact wpS_pure (h l g hl)
end
theorem uZ {α:Type}(sa:Nat):∀(l:List α)(n:Nat)(a:Array α),sa+n+l.length<=a.size->
  ((l.zipIdx n).foldl (λa (p:α×Nat)=>a.setIfInBounds (sa+p.2) p.1) a).toList=a.toList.take (sa+n)++l++a.toList.drop (sa+n+l.length)
 | [],n,a,h=>by simp
 |x::l,n,a,h=>by
  have h':sa+n+(l.length+1)<=a.size:=h;show((l.zipIdx (n+1)).foldl _ (a.setIfInBounds (sa+n) x)).toList=_;rw[uZ sa l (n+1) _ (by rw[Array.size_setIfInBounds];omega)];have e:(a.setIfInBounds (sa+n) x).toList=a.toList.set (sa+n) x:=by simp
  have hl:sa+n<a.toList.length:=by rw[Array.length_toList];omega
  rw[e];have e1:(a.toList.set (sa+n) x).take (sa+(n+1))=a.toList.take (sa+n)++[x]:=by
   rw[show sa+(n+1)=sa+n+1 by omega,iV (x:=x) (by rw[List.getElem?_set_self hl])];rw[List.take_set_of_le (zjQ _)]
  have e2:(a.toList.set (sa+n) x).drop (sa+(n+1)+l.length)=a.toList.drop (sa+n+(x::l).length):=by
   rw[List.drop_set_of_lt (by omega),length_cons];congr 1;omega
  rw[e1,e2];simp
theorem B1f {M:Model}{A:Around}{E:Value->Shared->Prop}{s:Shared}{Q:PUnit->SortSt->Prop}{st st':SortSt}(h:Q ⟨⟩ st'):wpS M A E s (set st':StateT SortSt Sem PUnit) Q st:=by unfold wpS;rw[StateT.run_set];exact zjY ⟨rfl,h⟩
section
variable {S:Keyed->Prop}{r:Keyed->Keyed->Bool}
noncomputable def bf (r:Keyed->Keyed->Bool)(left:Bool)(key:Keyed)(l:List Keyed)(i:Nat):Bool:=match l[i]? with
 |some x=>if left=true then r x key else !r key x
 |none=>false
theorem A1g {left:Bool}{key:Keyed}{ar:Array Keyed}{base n:Nat}{l:List Keyed}(tr:∀x y z,Le r x y->Le r y z->Le r x z)(sl:l.Pairwise (Le r))(g:∀i,i<n->ar[base+i]?=l[i]?)(hn:l.length=n)(hk:S key)(hS:∀x∈l,S x):Bey S r left key ar base n (bf r left key l):=by
 refine⟨λi hi=> ?_,λi j hij hj hb=> ?_,hk⟩
 ·have e:l[i]?=some l[i]:=getElem?_eq_getElem (by omega);exact⟨l[i],(g i hi).trans e,hS _ (getElem_mem _),by unfold bf;rw[e]⟩
 ·rcases eq_or_lt_of_le hij with rfl|hlt
  ·exact hb
  have ei:l[i]?=some l[i]:=getElem?_eq_getElem (by omega);have ej:l[j]?=some l[j]:=getElem?_eq_getElem (by omega);have q:Le r l[i] l[j]:=pairwise_iff_getElem.mp sl i j (by omega) (by omega) hlt;unfold bf at hb⊢;rw[ej]at hb;rw[ei];cases left with
  |true=>
   simp only[if_true]at hb⊢;cases h3:r l[i] key with
   |true=>rfl
   |false=>
    have q3:Le r key l[j]:=tr _ _ _ h3 q;unfold Le at q3;rw[q3]at hb;exact nomatch hb
  |false=>
   simp only[Bool.false_eq_true,if_false]at hb⊢;have q2:Le r l[j] key:=by unfold Le;simpa using hb
   have q3:Le r l[i] key:=tr _ _ _ q q2;unfold Le at q3;simp[q3]
end
noncomputable def mga:Nat->StateT SortSt Sem Bool:=mergeAt'
section
variable {M:Model}{A:Around}{E:Value->Shared->Prop}{s:Shared}{S:Keyed->Prop}{r:Keyed->Keyed->Bool}{κ:SortKind}
end
noncomputable def at' (a:Array Keyed)(i:Nat):Keyed:=(a[i]?).getD (Value.none,Value.none)
theorem pN {a:Array Keyed}{i:Nat}(h:i<a.size):a[i]?=some (at' a i):=by unfold at';simp[h]
theorem A14 {a:Array Keyed}{i:Nat}(h:i<a.size):at' a i∈a.toList:=by have:=pN h;rw[←Array.getElem?_toList]at this;exact mem_of_getElem? this
section
variable {M:Model}{A:Around}{E:Value->Shared->Prop}{s:Shared}{S:Keyed->Prop}{r:Keyed->Keyed->Bool}{κ:SortKind}{st:SortSt}{a:Array Keyed}{lo nrem n:Nat}
theorem nJ {i j:Nat}{Q:Option Bool->SortSt->Prop}(O:Oc M A E s κ S r)(hk:kindOf st=κ)(hS:∀x∈(arrOf st).toList,S x)(hi:i<(arrOf st).size)(hj:j<(arrOf st).size)(h:Q (some (r (at' (arrOf st) i) (at' (arrOf st) j))) st):wpS M A E s (ltAt' i j) Q st:=by rw[ltAt'_eq];refine wpS_bind (wpS_get ?_);exact wpS_bind (dH (pN hi) (wpS_bind (dH (pN hj) (O _ _ _ _ (hS _ (A14 hi)) (hS _ (A14 hj)) hk h))))
theorem A78 {i j:Nat}{Q:Unit->SortSt->Prop}(h:Q () (setArr st (mirror (arrOf st) i j ((j - i)/2)))):wpS M A E s (reverseSlice' i j) Q st:=by rw[reverseSlice'_eq];exact wpS_modify h
noncomputable def Up (r:Keyed->Keyed->Bool)(a:Array Keyed)(lo n:Nat):Prop:=∀i,lo+1<=i->i<lo+n->r (at' a i) (at' a (i - 1))=false
theorem xW {f:Nat->Option (Option Nat)×Nat->StateT SortSt Sem (ForInStep (Option (Option Nat)×Nat))}{Q:Option (Option Nat)×Nat->SortSt->Prop}(h1:1<=n)(hn:n<=nrem)(U:Up r a lo n)
  (hf:∀x m (R:ForInStep (Option (Option Nat)×Nat)->SortSt->Prop),1<=m->m<nrem->(r (at' a (lo+m)) (at' a (lo+m - 1))=true->R (.done (none,m)) st)->(r (at' a (lo+m)) (at' a (lo+m - 1))=false->R (.yield (none,m+1)) st)->wpS M A E s (f x (none,m)) R st)
  (h:∀m,n<=m->m<=nrem->Up r a lo m->(m=nrem\/r (at' a (lo+m)) (at' a (lo+m - 1))=true)->Q (none,m) st):wpS M A E s (forIn [n:nrem] (none,n) f) Q st:=by
 refine wpS_mono (wpS_forRange (I:=λx c st'=>st'=st/\c=(none,x)/\x<=nrem/\n<=x/\Up r a lo x) (Q:=λc st'=>st'=st/\∃m,c=(none,m)/\n<=m/\m<=nrem/\Up r a lo m/\(m=nrem\/r (at' a (lo+m)) (at' a (lo+m - 1))=true)) ?_ ?_ ⟨rfl,rfl,hn,zjQ _,U⟩) ?_
 ·rintro x c _ h2 h3 ⟨rfl,rfl,h4,h5,U'⟩;refine hf x x _ (by omega) h3 (λq=> ⟨rfl,x,rfl,h5,h4,U',.inr q⟩) λq=> ⟨rfl,rfl,by omega,by omega,λi h6 h7=> ?_⟩;rcases lt_or_ge i (lo+x)with h8|h8
  ·exact U' i h6 h8
  ·obtain rfl:i=lo+x:=by omega
   exact q
 ·rintro c _ ⟨rfl,rfl,h4,h5,U'⟩;exact⟨rfl,_,rfl,h5,h4,U',.inl (by omega)⟩
 ·rintro c _ ⟨rfl,m,rfl,h4,h5,U',h6⟩;exact h m h4 h5 U' h6
theorem Up.le (tr:∀x y z,Le r x y->Le r y z->Le r x z)(U:Up r a lo n):∀d i,lo<=i->i+d+1<lo+n->Le r (at' a i) (at' a (i+d+1))
 |0,i,h1,h2=>U (i+1) (by omega) (by omega)
 |d+1,i,h1,h2=>tr _ _ _ (Up.le tr U d i h1 (by omega)) (U (i+d+2) (by omega) (by omega))
noncomputable def Di (r:Keyed->Keyed->Bool)(a:Array Keyed):Prop:=∀i j,i<j->j<a.size->r (at' a i) (at' a j)=true\/r (at' a j) (at' a i)=true
theorem B02 {Q:Option Nat->SortSt->Prop}(O:Oc M A E s κ S r)(hk:kindOf st=κ)(ha:arrOf st=a)(hS:∀x∈a.toList,S x)(D:Di r a)(tr:∀x y z,Le r x y->Le r y z->Le r x z)(as:∀x y,r x y=true->Le r x y)(h1:1<=nrem)(hz:lo+nrem<=a.size)
  (h:∀m a',1<=m->m<=nrem->a'.Perm a->(∀i,i<lo->a'[i]?=a[i]?)->Up r a' lo m->Q (some m) (setArr st a')):wpS M A E s (countRun' lo nrem) Q st:=by
 have step:∀{st:SortSt}{a:Array Keyed}(m:Nat){R:Option Bool->SortSt->Prop},kindOf st=κ->arrOf st=a->(∀x∈a.toList,S x)->lo+nrem<=a.size->1<=m->m<nrem->R (some (r (at' a (lo+m)) (at' a (lo+m - 1)))) st->wpS M A E s (ltAt' (lo+m) (lo+m - 1)) R st:=by
  intro st a m R hk ha hS hz h1 h2 hR;subst ha;exact nJ O hk hS (by omega) (by omega) hR
 have same:setArr st a=st:=by subst ha;rfl
 refine wpS_bind (xW (a:=a) (lo:=lo) (r:=r) (zjQ 1) h1 (λi h2 h3=>by omega) (λx m R m1 m2 r1 r2=> ?_) λm m1 m2 U mx=> ?_)
 ·refine wpS_bind (step m hk ha hS hz m1 m2 ?_);cases hr:r (at' a (lo+m)) (at' a (lo+m - 1))with
  |true=>exact wpS_pure (r1 hr)
  |false=>exact wpS_pure (r2 hr)
 dsimp only
 by_cases f1:(m==nrem)=true
 ·rw[if_pos f1];have q:=h m a m1 m2 (Array.Perm.refl _) (λ_ _=>rfl) U;rw[same]at q;exact wpS_pure q
 rw[if_neg f1];have f1':¬m=nrem:=λq=>f1 (by rw[q];exact beq_self_eq_true _);by_cases f2:m>1
 ·rw[if_pos f2];refine wpS_bind (nJ O hk (by rw[ha];exact hS) (by rw[ha];omega) (by rw[ha];omega) ?_);rw[ha];have q1:Le r (at' a lo) (at' a (lo+m - 1)):=by
   have:=Up.le tr U (m - 2) lo (zjQ _) (by omega);rw[show lo+(m - 2)+1=lo+m - 1 by omega]at this;exact this
  have q2:r (at' a lo) (at' a (lo+m - 1))=true:=(D lo (lo+m - 1) (by omega) (by omega)).elim id λq=>by unfold Le at q1;rw[q1]at q;exact nomatch q
  rw[q2];have q:=h m a m1 m2 (Array.Perm.refl _) (λ_ _=>rfl) U;rw[same]at q;exact wpS_pure q
 rw[if_neg f2];obtain rfl:m=1:=by omega
 have d1:r (at' a (lo+1)) (at' a lo)=true:=mx.elim (λq=>absurd q f1') λq=>by rw[show lo+1 - 1=lo by omega]at q;exact q
 refine wpS_bind (wpS_lift (wpAny_rule ⟨rfl,?_⟩));refine wpS_bind (wpS_mono (wpS_forRange (I:=λx c st'=>st'=st/\c=(none,x,0)/\x<=nrem/\2<=x/\∀i,lo+1<=i->i<lo+x->r (at' a i) (at' a (i - 1))=true)
  (Q:=λc st'=>st'=st/\∃x,c=(none,x,0)/\x<=nrem/\2<=x/\∀i,lo+1<=i->i<lo+x->r (at' a i) (at' a (i - 1))=true) ?_ ?_ ⟨rfl,rfl,by omega,zjQ _,λi h3 h4=> ?_⟩) ?_)
 ·rintro x c _ h3 h4 ⟨rfl,rfl,h5,h6,V⟩;dsimp only
  refine wpS_bind (step x hk ha hS hz (by omega) h4 ?_);cases hr:r (at' a (lo+x)) (at' a (lo+x - 1))with
  |true=>
   refine wpS_pure ⟨rfl,rfl,by omega,by omega,λi h7 h8=> ?_⟩;rcases lt_or_ge i (lo+x)with h9|h9
   ·exact V i h7 h9
   ·obtain rfl:i=lo+x:=by omega
    exact hr
  |false=>
   refine wpS_bind (nJ O hk (by rw[ha];exact hS) (by rw[ha];omega) (by rw[ha];omega) ?_);rw[ha];have q2:r (at' a (lo+x - 1)) (at' a (lo+x))=true:=(D (lo+x - 1) (lo+x) (by omega) (by omega)).elim id λq=>by rw[hr]at q;exact nomatch q
   rw[q2];exact wpS_pure ⟨rfl,x,rfl,h5,h6,V⟩
 ·rintro c _ ⟨rfl,rfl,h5,h6,V⟩;exact⟨rfl,_,rfl,h5,h6,V⟩
 ·obtain rfl:i=lo+1:=by omega
  rw[show lo+1 - 1=lo by omega];exact d1
 rintro c st ⟨rfl,x,rfl,h5,h6,V⟩;dsimp only
 rw[if_neg (by omega)];refine wpS_bind (A78 ?_);have eM:∀k,(mirror (arrOf st) lo (lo+x) ((lo+x - lo)/2))[k]?=if lo<=k/\k<lo+x then a[lo+(lo+x) - 1 - k]? else a[k]?:=λk=>by
  rw[ha];exact getElem?_mirror_all (by omega) k
 have pM:(mirror (arrOf st) lo (lo+x) ((lo+x - lo)/2)).Perm a:=by rw[ha];exact mirror_perm _ _ _ _
 generalize mirror (arrOf st) lo (lo+x) ((lo+x - lo)/2)=a' at eM pM⊢;have zM:a'.size=a.size:=pM.size_eq;have U':Up r a' lo x:=λi h7 h8=>by
  have e1:at' a' i=at' a (lo+(lo+x) - 1 - i):=by unfold at';rw[eM i,if_pos ⟨by omega,by omega⟩]
  have e2:at' a' (i - 1)=at' a (lo+(lo+x) - 1 -(i - 1)):=by unfold at';rw[eM (i - 1),if_pos ⟨by omega,by omega⟩]
  have q:=V (lo+(lo+x) - 1 -(i - 1)) (by omega) (by omega);rw[show lo+(lo+x) - 1 -(i - 1) - 1=lo+(lo+x) - 1 - i by omega]at q;rw[e1,e2];exact as _ _ q
 have hS':∀y∈a'.toList,S y:=λy hy=>hS y (pM.toList.mem_iff.mp hy);refine wpS_bind (xW (st:=setArr st a') (a:=a') (lo:=lo) (r:=r) (by omega) h5 U' (λz m R m1 m2 r1 r2=> ?_) λm m1 m2 U2 _=> ?_)
 ·refine wpS_bind (step (st:=setArr st a') (a:=a') m hk rfl hS' (by rw[zM];exact hz) m1 m2 ?_);cases hr:r (at' a' (lo+m)) (at' a' (lo+m - 1))with
  |true=>exact wpS_pure (r1 hr)
  |false=>exact wpS_pure (r2 hr)
 ·exact wpS_pure (h m a' (by omega) m2 pM (λi hi=>by rw[eM i,if_neg (by omega)]) U2)
end
section
variable {M:Model}{A:Around}{E:Value->Shared->Prop}{s:Shared}{S:Keyed->Prop}{r:Keyed->Keyed->Bool}{κ:SortKind}{st:SortSt}{a:Array Keyed}{lo n ok:Nat}
theorem A4k {i j:Nat}{Q:Unit->SortSt->Prop}(h:Q () (setArr st (bubble (arrOf st) i (i - j)))):wpS M A E s (moveDown' i j) Q st:=by rw[moveDown'_eq];exact wpS_modify h
theorem A4t {i j:Nat}{Q:Option Bool->SortSt->Prop}(ha:arrOf st=a)(O:Oc M A E s κ S r)(hk:kindOf st=κ)(hS:∀x∈a.toList,S x)(hi:i<a.size)(hj:j<a.size)(h:Q (some (r (at' a i) (at' a j))) st):wpS M A E s (ltAt' i j) Q st:=by subst ha;exact nJ O hk hS hi hj h
theorem Up.le' (tr:∀x y z,Le r x y->Le r y z->Le r x z)(U:Up r a lo n){i j:Nat}(h1:lo<=i)(h2:i<j)(h3:j<lo+n):Le r (at' a i) (at' a j):=by have:=Up.le tr U (j - i - 1) i h1 (by omega);rw[show i+(j - i - 1)+1=j by omega]at this;exact this
theorem A4w {Q:Bool->SortSt->Prop}(O:Oc M A E s κ S r)(hk:kindOf st=κ)(ha:arrOf st=a)(hS:∀x∈a.toList,S x)(tr:∀x y z,Le r x y->Le r y z->Le r x z)(as:∀x y,r x y=true->Le r x y)(hn:1<=n)(hok:ok<=n)(hz:lo+n<=a.size)(U:Up r a lo ok)
  (h:∀a',a'.Perm a->(∀i,i<lo->a'[i]?=a[i]?)->Up r a' lo n->Q true (setArr st a')):wpS M A E s (binarySort' lo n ok) Q st:=by
 have same:setArr st a=st:=by subst ha;rfl
 refine wpS_bind (wpS_mono (wpS_forRange (I:=λx c st'=> ∃a',st'=setArr st a'/\c=(none,())/\a'.Perm a/\(∀i,i<lo->a'[i]?=a[i]?)/\Up r a' lo x)
  (Q:=λc st'=> ∃a',st'=setArr st a'/\c=(none,())/\a'.Perm a/\(∀i,i<lo->a'[i]?=a[i]?)/\Up r a' lo n) ?_ ?_ ⟨a,same.symm,rfl,Array.Perm.refl _,λ_ _=>rfl,λi h1 h2=> ?_⟩) ?_)
 ·rintro k c _ h1 h2 ⟨b,rfl,rfl,pb,fb,V⟩;have zb:b.size=a.size:=pb.size_eq;have Sb:∀y∈b.toList,S y:=λy hy=>hS y (pb.toList.mem_iff.mp hy);dsimp only
  refine wpS_bind (wpS_mono (wpS_forRange (I:=λx c st'=>st'=setArr st b/\∃l e,c=(none,l,e)/\l<=e/\e<=k/\(∀i,i<l->r (at' b (lo+k)) (at' b (lo+i))=false)/\(∀i,e<=i->i<k->r (at' b (lo+k)) (at' b (lo+i))=true)/\e - l+x<=k)
   (Q:=λc st'=>st'=setArr st b/\∃l e,c=(none,l,e)/\l<=k/\(∀i,i<l->r (at' b (lo+k)) (at' b (lo+i))=false)/\(∀i,l<=i->i<k->r (at' b (lo+k)) (at' b (lo+i))=true)) ?_ ?_ ⟨rfl,0,k,rfl,zero_le _,zjQ _,λi hi=>absurd hi (Nat.not_lt_zero _),λi h3 h4=>by omega,by omega⟩) ?_)
  ·rintro x c _ _ hx ⟨rfl,l,e,rfl,g1,g2,g3,g4,g5⟩;dsimp only
   by_cases f1:l≥e
   ·rw[if_pos f1];exact wpS_pure ⟨rfl,l,e,rfl,by omega,g3,λi h3 h4=>g4 i (by omega) h4⟩
   rw[if_neg f1];refine wpS_bind (A4t (st:=setArr st b) (a:=b) (i:=lo+k) (j:=lo+(l+e)/2) rfl O hk Sb (by omega) (by omega) ?_);cases hr:r (at' b (lo+k)) (at' b (lo+(l+e)/2))with
   |true=>
    refine wpS_pure ⟨rfl,l,_,rfl,by omega,by omega,g3,λi h3 h4=> ?_,by omega⟩;rcases eq_or_lt_of_le h3 with rfl|h5
    ·exact hr
    ·have q:=Up.le' tr V (i:=lo+(l+e)/2) (j:=lo+i) (by omega) (by omega) (by omega);cases hc:r (at' b (lo+k)) (at' b (lo+i))with
     |true=>rfl
     |false=>have q2:=tr _ _ _ q hc;unfold Le at q2;rw[q2]at hr;exact nomatch hr
   |false=>
    refine wpS_pure ⟨rfl,_,e,rfl,by omega,g2,λi h3=> ?_,g4,by omega⟩;rcases lt_or_ge i ((l+e)/2)with h5|h5
    ·exact tr _ _ _ (Up.le' tr V (i:=lo+i) (j:=lo+(l+e)/2) (by omega) (by omega) (by omega)) hr
    ·obtain rfl:i=(l+e)/2:=by omega
     exact hr
  ·rintro c _ ⟨rfl,l,e,rfl,g1,g2,g3,g4,g5⟩;exact⟨rfl,l,e,rfl,by omega,g3,λi h3 h4=>g4 i (by omega) h4⟩
  ·rintro c _ ⟨rfl,l,e,rfl,g1,g3,g4⟩;dsimp only
   refine wpS_bind (A4k (wpS_pure ?_));have eB:∀j,(bubble b (lo+k) (k - l))[j]?=if j=lo+l then b[lo+k]? else if lo+l<j/\j<=lo+k then b[j - 1]? else b[j]?:=λj=>by
    have:=getElem?_bubble (xs:=b) (src:=lo+k) (by omega) (k - l) (by omega) j;rw[show lo+k -(k - l)=lo+l by omega]at this;exact this
   refine⟨bubble b (lo+k) (k - l),?_,rfl,(bubble_perm _ _ _).trans pb,λi hi=> ?_,λi h3 h4=> ?_⟩
   ·show setArr st (bubble b (lo+k) (lo+k -(lo+l)))=_;rw[show lo+k -(lo+l)=k - l by omega]
   ·rw[eB i,if_neg (by omega),if_neg (by omega)];exact fb i hi
   ·have ev:∀j,at' (bubble b (lo+k) (k - l)) j=if j=lo+l then at' b (lo+k)else if lo+l<j/\j<=lo+k then at' b (j - 1)else at' b j:=λj=>by
     unfold at';rw[eB j];split;rfl;split;rfl;rfl
    rw[ev i,ev (i - 1)];by_cases c1:i=lo+l
    ·rw[if_pos c1,if_neg (by omega),if_neg (by omega),show i - 1=lo+(l - 1) by omega];exact g3 (l - 1) (by omega)
    rw[if_neg c1];by_cases c2:i<lo+l
    ·rw[if_neg (by omega),if_neg (by omega),if_neg (by omega)];exact V i h3 (by omega)
    rw[if_pos ⟨by omega,by omega⟩];by_cases c3:i - 1=lo+l
    ·rw[if_pos c3,c3];exact as _ _ (g4 l (zjQ _) (by omega))
    ·rw[if_neg c3,if_pos ⟨by omega,by omega⟩];exact V (i - 1) (by omega) (by omega)
 ·rintro c _ ⟨b,rfl,rfl,pb,fb,V⟩;exact⟨b,rfl,rfl,pb,fb,λi h1 h2=>V i h1 (by omega)⟩
 ·rcases lt_or_ge ok 1 with h3|h3
  ·omega
  ·exact U i h1 (by omega)
 ·rintro c _ ⟨b,rfl,rfl,pb,fb,V⟩;exact wpS_pure (h b pb fb V)
end
section
variable {M:Model}{A:Around}{E:Value->Shared->Prop}{s:Shared}{S:Keyed->Prop}{r:Keyed->Keyed->Bool}{κ:SortKind}
theorem A7z {st:SortSt}{Q:Bool->SortSt->Prop}{i sa n1 n2 p q:Nat}{pre la lb post:List Keyed}(O:Oc M A E s κ S r)(hk:kindOf st=κ)(hp1:(pendingOf st)[i]?=some (sa,n1,p))(hp2:(pendingOf st)[i+1]?=some (sa+n1,n2,q))(hf:failedOf st=none)(ea:(arrOf st).toList=pre++(la++(lb++post)))(h0:pre.length=sa)(h1:la.length=n1)(h2:lb.length=n2)(n1p:1<=n1)(n2p:1<=n2)
  (tr:∀x y z,Le r x y->Le r y z->Le r x z)(as:∀x y,r x y=true->Le r x y)(sl:la.Pairwise (Le r))(sb:lb.Pairwise (Le r))(hS:∀x∈(arrOf st).toList,S x)
  (h:∀st' m,(arrOf st').toList=pre++(m++post)->m.Perm (la++lb)->m.Pairwise (Le r)->kindOf st'=κ->pendingOf st'=((pendingOf st).setIfInBounds i (sa,n1+n2,p)).eraseIdxIfInBounds (i+1)->failedOf st'=none->Q true st'):wpS M A E s (mga i) Q st:=by
 obtain⟨kd,ar,pd,gp,fl⟩:=st;have hp1:pd[i]?=some (sa,n1,p):=hp1;have hp2:pd[i+1]?=some (sa+n1,n2,q):=hp2;have hf:fl=none:=hf;have hk:kd=κ:=hk;have ea:ar.toList=pre++(la++(lb++post)):=ea;have sE:∀x∈ar.toList,S x:=hS;subst hf hk;have hz:ar.size=sa+n1+n2+post.length:=by rw[←Array.length_toList,ea,length_append,length_append,length_append,h0,h1,h2];omega
 have hSa:∀x∈la,S x:=λx hx=>sE x (by rw[ea];exact mem_append_right _ (mem_append_left _ hx));have hSb:∀x∈lb,S x:=λx hx=>sE x (by rw[ea];exact mem_append_right _ (mem_append_right _ (mem_append_left _ hx)));refine wpS_bind (wpS_get ?_);dsimp only
 rw[hp1,hp2];dsimp only
 refine wpS_bind (B1f ?_);obtain⟨b0,eb,eb',mb⟩:=dO (a:=ar) (i:=sa+n1) (by omega);refine wpS_bind (dH eb ?_);have ga:∀i,i<n1->ar[sa+i]?=la[i]?:=λi hi=>by
  rw[←Array.getElem?_toList,ea,getElem?_append_right (by omega),getElem?_append_left (by omega)];congr 1;omega
 have gb:∀i,i<n2->ar[sa+n1+i]?=lb[i]?:=λi hi=>by
  rw[←Array.getElem?_toList,ea,getElem?_append_right (by omega),getElem?_append_right (by omega),getElem?_append_left (by omega)];congr 1;omega
 have eb0:lb[0]?=some b0:=by rw[←gb 0 (by omega)];exact eb
 have done:(∀x∈la,Le r x b0)->Q true (SortSt.mk' kd ar ((pd.setIfInBounds i (sa,n1+n2,p)).eraseIdxIfInBounds (i+1)) gp none):=λhx=>by
  refine h _ (la++lb) (by show ar.toList=_;rw[ea,append_assoc]) (List.Perm.refl _) ?_ rfl rfl rfl;exact pairwise_append.mpr ⟨sl,sb,λx hx' y hy=>jG tr sb eb0 (hx x hx') y (by rw[drop_zero];exact hy)⟩
 refine wpS_bind (jU O hk.symm (A1g tr sl ga h1 (sE b0 mb) hSa) n1p λk k1 k2 k3=> ?_);dsimp only
 have lowk:∀x∈la.take k,Le r x b0:=λx hx=>by
  obtain⟨i,hi,e⟩:=mem_iff_getElem.mp hx;have hi':i<k:=by rw[length_take]at hi;omega
  have:=k2 i hi';have e':la[i]?=some x:=by rw[getElem_take]at e;rw[←e];exact getElem?_eq_getElem _
  unfold bf at this;rw[e']at this;unfold Le;simpa using this
 have upk:∀x∈la.drop k,Le r b0 x:=λx hx=>by
  obtain⟨i,hi,e⟩:=mem_iff_getElem.mp hx;have hi':k+i<n1:=by rw[length_drop]at hi;omega
  have:=k3 (k+i) (by omega) hi';have e':la[k+i]?=some x:=by rw[getElem_drop]at e;rw[←e];exact getElem?_eq_getElem _
  unfold bf at this;rw[e']at this;exact as _ _ (by simpa using this)
 by_cases f1:(n1 - k==0)=true
 ·rw[if_pos f1];have f1':n1 - k=0:=by simpa using f1
  exact wpS_pure (done λx hx=>lowk x (by rw[take_of_length_le (by omega)];exact hx))
 rw[if_neg f1];have f1':¬n1 - k=0:=λq=>f1 (by rw[q];rfl);obtain⟨ky,ek,ek',mk⟩:=dO (a:=ar) (i:=sa+k+(n1 - k) - 1) (by omega);have eka:la[n1 - 1]?=some ky:=by rw[←ga (n1 - 1) (by omega),show sa+(n1 - 1)=sa+k+(n1 - k) - 1 by omega];exact ek
 have allk:∀x∈la,Le r x ky\/x=ky:=λx hx=>by
  have st:=sl;have e0:la=la.take (n1 - 1)++[ky]:=by rw[←iV eka,show n1 - 1+1=n1 by omega,take_of_length_le (by omega)]
  rw[e0]at st hx;rcases mem_append.mp hx with hx|hx
  ·exact .inl ((pairwise_append.mp st).2.2 x hx ky zjR)
  ·exact .inr (by simpa using hx)
 refine wpS_bind (dH ek (wpS_bind (jU O hk.symm (A1g tr sb gb h2 (sE ky mk) hSb) (by omega) λnb b1 b2 b3=> ?_)));dsimp only
 have lowb:∀y∈lb.take nb,Le r y ky:=λy hy=>by
  obtain⟨i,hi,e⟩:=mem_iff_getElem.mp hy;have hi':i<nb:=by rw[length_take]at hi;omega
  have:=b2 i hi';have e':lb[i]?=some y:=by rw[getElem_take]at e;rw[←e];exact getElem?_eq_getElem _
  unfold bf at this;rw[e']at this;exact as _ _ (by simpa using this)
 have upb:∀y∈lb.drop nb,Le r ky y:=λy hy=>by
  obtain⟨i,hi,e⟩:=mem_iff_getElem.mp hy;have hi':nb+i<n2:=by rw[length_drop]at hi;omega
  have:=b3 (nb+i) (by omega) hi';have e':lb[nb+i]?=some y:=by rw[getElem_drop]at e;rw[←e];exact getElem?_eq_getElem _
  unfold bf at this;rw[e']at this;simpa [Le]using this
 by_cases f2:(nb==0)=true
 ·rw[if_pos f2];have f2':nb=0:=by simpa using f2
  have q0:Le r ky b0:=upb b0 (by rw[f2',drop_zero];exact mem_of_getElem? eb0);exact wpS_pure (done λx hx=>(allk x hx).elim (λq=>tr _ _ _ q q0) λq=>by rw[q];exact q0)
 rw[if_neg f2];have f2':¬nb=0:=λq=>f2 (by rw[q];rfl);have xa:(ar.extract (sa+k) (sa+n1)).toList=la.drop k:=by
  rw[iC,ea,←h0,List.drop_append,drop_of_length_le (by omega),nil_append,show pre.length+k - pre.length=k by omega,List.drop_append_of_le_length (by omega),List.take_append_of_le_length (by rw[length_drop];omega),take_of_length_le (by rw[length_drop];omega)]
 have xb:(ar.extract (sa+n1) (sa+n1+nb)).toList=lb.take nb:=by
  rw[iC,ea,←append_assoc,show sa+n1=(pre++la).length by rw[length_append,h0,h1],List.drop_left,List.take_append_of_le_length (by omega)];congr 1;omega
 have mi:Mi S r (ar.extract (sa+k) (sa+n1)) (ar.extract (sa+n1) (sa+n1+nb)):=by
  refine⟨tr,as,?_,?_,?_,?_,?_,?_,?_,?_⟩
  ·rw[xa];exact sl.sublist (drop_sublist _ _)
  ·rw[xb];exact sb.sublist (take_sublist _ _)
  ·rw[xa];exact λx hx=>hSa x (mem_of_mem_drop hx)
  ·rw[xb];exact λx hx=>hSb x (mem_of_mem_take hx)
  ·rw[←len,xa,length_drop];omega
  ·rw[←len,xb,length_take];omega
  ·rw[xa,xb];intro x hx y hy;have:y=b0:=by rw[List.getElem?_take_of_lt (by omega),eb0]at hy;exact(Option.some.inj hy).symm
   rw[this];exact upk x hx
  ·rw[←len,xa,xb];intro y hy x hx;have:x=ky:=by
    rw[getElem?_drop,length_drop,show k+(la.length - k - 1)=n1 - 1 by omega,eka]at hx;exact(Option.some.inj hx).symm
   rw[this];exact lowb y hy
 have fin:∀(l:Array Keyed)(g:Nat),Md (Le r) (ar.extract (sa+k) (sa+n1)).toList (ar.extract (sa+n1) (sa+n1+nb)).toList l.toList->
   Q true (SortSt.mk' kd (l.toList.zipIdx.foldl (λa x=>a.setIfInBounds (sa+k+x.snd) x.fst) ar) ((pd.setIfInBounds i (sa,n1+n2,p)).eraseIdxIfInBounds (i+1)) g none):=by
  intro l g hl;rw[xa,xb]at hl;have ll:l.toList.length=n1 - k+nb:=by rw[hl.1.length_eq,length_append,length_drop,length_take];omega
  have e:=uZ (sa+k) l.toList 0 ar (by rw[ll];omega);have e1:(l.toList.zipIdx.foldl (λa (x:Keyed×Nat)=>a.setIfInBounds (sa+k+x.snd) x.fst) ar).toList=pre++((la.take k++l.toList++lb.drop nb)++post):=by
   refine e.trans ?_;have d1:ar.toList.take (sa+k+0)=pre++la.take k:=by
    rw[ea,List.take_append,take_of_length_le (by omega),show sa+k+0 - pre.length=k by omega,List.take_append_of_le_length (by omega)]
   have d2:ar.toList.drop (sa+k+0+l.toList.length)=lb.drop nb++post:=by
    rw[ea,←append_assoc,show sa+k+0+l.toList.length=(pre++la).length+nb by rw[length_append];omega,List.drop_append,drop_of_length_le (by omega),nil_append,show(pre++la).length+nb -(pre++la).length=nb by omega,List.drop_append_of_le_length (by omega)]
   rw[d1,d2];simp only[append_assoc]
  refine h _ _ e1 ?_ ?_ rfl rfl rfl
  ·refine((List.Perm.append_left _ hl.1).append_right _).trans (List.Perm.of_eq ?_);rw[←append_assoc,take_append_drop,append_assoc,take_append_drop]
  ·skip
   have s1:(la.take k++la.drop k).Pairwise (Le r):=by rw[take_append_drop];exact sl
   have s2:(lb.take nb++lb.drop nb).Pairwise (Le r):=by rw[take_append_drop];exact sb
   have hlm:∀z∈l.toList,z∈la.drop k\/z∈lb.take nb:=λz hz=>mem_append.mp (hl.1.mem_iff.mp hz);have allb:∀x,Le r x b0->∀y∈lb,Le r x y:=λx hx y hy=>jG tr sb eb0 hx y (by rw[drop_zero];exact hy);refine pairwise_append.mpr ⟨pairwise_append.mpr ⟨(pairwise_append.mp s1).1,hl.2,λx hx z hz=> ?_⟩,(pairwise_append.mp s2).2.1,λx hx z hz=> ?_⟩
   ·rcases hlm z hz with hz|hz
    ·exact(pairwise_append.mp s1).2.2 x hx z hz
    ·exact allb x (lowk x hx) z (mem_of_mem_take hz)
   ·rcases mem_append.mp hx with hx|hx
    ·exact allb x (lowk x hx) z (mem_of_mem_drop hz)
    ·rcases hlm x hx with hx|hx
     ·exact(allk x (mem_of_mem_drop hx)).elim (λq=>tr _ _ _ q (upb z hz)) λq=>by rw[q];exact upb z hz
     ·exact(pairwise_append.mp s2).2.2 x hx z hz
 by_cases f3:n1 - k<=nb
 ·rw[if_pos f3];exact wpS_bind (A9h O hk.symm mi λl g hl=>wpS_bind (wpS_modify (wpS_bind (wpS_get (wpS_pure (fin l g hl))))))
 ·rw[if_neg f3];exact wpS_bind (A3o O hk.symm mi λl g hl=>wpS_bind (wpS_modify (wpS_bind (wpS_get (wpS_pure (fin l g hl))))))
end
section
variable {M:Model}{A:Around}{E:Value->Shared->Prop}{s:Shared}{S:Keyed->Prop}{r:Keyed->Keyed->Bool}{κ:SortKind}{st:SortSt}{a:Array Keyed}{lo n:Nat}
noncomputable def Ne (r:Keyed->Keyed->Bool)(x y:Keyed):Prop:=r x y=true\/r y x=true
theorem lU {a:Array Keyed}{i:Nat}(h:i<a.toList.length):a.toList[i]=at' a i:=by
 have h':i<a.size:=by rw[←Array.length_toList];exact h
 unfold at';simp[h']
theorem A2f (h:a.toList.Pairwise (Ne r)):Di r a:=λi j hij hj=>by
 have hl:a.toList.length=a.size:=Array.length_toList;have q:=pairwise_iff_getElem.mp h i j (by omega) (by omega) hij;rw[lU,lU]at q;exact q
theorem B2c {a':Array Keyed}(h:a.toList.Pairwise (Ne r))(p:a'.Perm a):a'.toList.Pairwise (Ne r):=
 (List.Perm.pairwise_iff (fun{x y} (q:Ne r x y)=>q.symm) p.toList).mpr h
theorem Up.pw (tr:∀x y z,Le r x y->Le r y z->Le r x z)(U:Up r a lo n)(hz:lo+n<=a.size):((a.toList.drop lo).take n).Pairwise (Le r):=by refine pairwise_iff_getElem.mpr λi j hi hj hij=> ?_;rw[length_take]at hi hj;rw[getElem_take,getElem_take,getElem_drop,getElem_drop,lU,lU];exact Up.le' tr U (by omega) (by omega) (by omega)
theorem Up.of {a':Array Keyed}(U:Up r a lo n)(h:∀i,lo<=i->i<lo+n->a'[i]?=a[i]?):Up r a' lo n:=λi h1 h2=>by
 have e:∀i,lo<=i->i<lo+n->at' a' i=at' a i:=λi h1 hi=>by unfold at';rw[h i h1 hi]
 rw[e i (by omega) (by omega),e (i - 1) (by omega) (by omega)];exact U i h1 h2
theorem Up.to {a':Array Keyed}{pre m post:List Keyed}(e:a'.toList=pre++(m++post))(sm:m.Pairwise (Le r)):Up r a' pre.length m.length:=λi h1 h2=>by
 have g:∀k,pre.length<=k->k<pre.length+m.length->some (at' a' k)=m[k - pre.length]?:=λk h1 h2=>by
  have hl:k<a'.toList.length:=by rw[e,length_append,length_append];omega
  rw[←lU hl,←getElem?_eq_getElem hl,e,getElem?_append_right h1,getElem?_append_left (by omega)]
 have g1:=g i (by omega) (by omega);have g2:=g (i - 1) (by omega) (by omega);rw[getElem?_eq_getElem (by omega)]at g1 g2;rw[Option.some.inj g1,Option.some.inj g2];exact pairwise_iff_getElem.mp sm (i - 1 - pre.length) (i - pre.length) (by omega) (by omega) (by omega)
noncomputable def Runs (r:Keyed->Keyed->Bool)(a:Array Keyed):Nat->List (Nat×Nat×Nat)->Nat->Prop
 |lo,[],hi=>lo=hi
 |lo,z::t,hi=>z.1=lo/\1<=z.2.1/\Up r a lo z.2.1/\Runs r a (lo+z.2.1) t hi
theorem Runs.len:∀{l:List (Nat×Nat×Nat)}{lo hi:Nat},Runs r a lo l hi->lo+l.length<=hi
 | [],lo,hi,h=>by have h:lo=hi:=h;rw[length_nil];omega
 |z::t,lo,hi,h=>by
  have:=Runs.len h.2.2.2;have:=h.2.1;rw[length_cons];omega
theorem Runs.of {a':Array Keyed}:∀{l:List (Nat×Nat×Nat)}{lo hi:Nat},Runs r a lo l hi->(∀i,lo<=i->i<hi->a'[i]?=a[i]?)->Runs r a' lo l hi
 | [],lo,hi,h,_=>h
 |z::t,lo,hi,h,g=>by
  have:=Runs.len h.2.2.2;exact⟨h.1,h.2.1,h.2.2.1.of λi h1 h2=>g i h1 (by omega),Runs.of h.2.2.2 λi h1 h2=>g i (by omega) h2⟩
theorem Runs.split:∀{l:List (Nat×Nat×Nat)}{t:List (Nat×Nat×Nat)}{lo hi:Nat},Runs r a lo (l++t) hi->∃mid,Runs r a lo l mid/\Runs r a mid t hi
 | [],t,lo,hi,h=> ⟨lo,rfl,h⟩
 |z::l,t,lo,hi,h=>by
  obtain⟨mid,h1,h2⟩:=Runs.split (l:=l) h.2.2.2;exact⟨mid,⟨h.1,h.2.1,h.2.2.1,h1⟩,h2⟩
theorem Runs.join:∀{l:List (Nat×Nat×Nat)}{t:List (Nat×Nat×Nat)}{lo mid hi:Nat},Runs r a lo l mid->Runs r a mid t hi->Runs r a lo (l++t) hi
 | [],t,lo,mid,hi,h,h2=>by have h:lo=mid:=h;subst h;exact h2
 |z::l,t,lo,mid,hi,h,h2=> ⟨h.1,h.2.1,h.2.2.1,Runs.join h.2.2.2 h2⟩
theorem Runs.cg:∀{l t:List (Nat×Nat×Nat)}{lo hi:Nat},l.map (λz=>(z.1,z.2.1))=t.map (λz=>(z.1,z.2.1))->Runs r a lo l hi->Runs r a lo t hi
 | [],[],_,_,_,h=>h
 | [],_::_,_,_,e,_=>by cases e
 |_::_,[],_,_,e,_=>by cases e
 |z::l,y::t,lo,hi,e,h=>by
  rw[map_cons,map_cons]at e;injection e with e1 e2
  injection e1 with e3 e4;refine⟨by rw[←e3];exact h.1,by rw[←e4];exact h.2.1,by rw[←e4];exact h.2.2.1,?_⟩;rw[←e4];exact Runs.cg e2 h.2.2.2
theorem B0c {α:Type}{pd:Array α}{i:Nat}(h:i+1<pd.size):∃x y l1 l2,pd.toList=l1++x::y::l2/\l1.length=i/\pd[i]?=some x/\pd[i+1]?=some y/\∀z,((pd.setIfInBounds i z).eraseIdxIfInBounds (i+1)).toList=l1++z::l2:=by
 have hl:i+1<pd.toList.length:=by rw[Array.length_toList];exact h
 have e:pd.toList=pd.toList.take i++pd.toList[i]::pd.toList[i+1]::pd.toList.drop (i+2):=by
  rw[←List.drop_eq_getElem_cons hl,←List.drop_eq_getElem_cons (by omega),take_append_drop]
 refine⟨pd.toList[i],pd.toList[i+1],pd.toList.take i,pd.toList.drop (i+2),e,by rw[length_take];omega,?_,?_,λz=> ?_⟩
 ·rw[←Array.getElem?_toList,getElem?_eq_getElem]
 ·rw[←Array.getElem?_toList,getElem?_eq_getElem]
 ·have e2:((pd.setIfInBounds i z).eraseIdxIfInBounds (i+1)).toList=(pd.toList.set i z).eraseIdx (i+1):=by
   unfold Array.eraseIdxIfInBounds;rw[dif_pos (by rw[Array.size_setIfInBounds];exact h),Array.toList_eraseIdx];simp
  rw[e2];generalize pd.toList[i]=x at e;generalize pd.toList[i+1]=y at e;have hi:(pd.toList.take i).length=i:=by rw[length_take];omega
  generalize pd.toList.take i=l1 at e hi⊢;generalize pd.toList.drop (i+2)=l2 at e⊢;rw[e];rw[List.set_append_right _ _ (by omega),hi,Nat.sub_self,List.set_cons_zero,List.eraseIdx_append_of_length_le (by omega),hi,show i+1 - i=1 by omega];rfl
theorem A1e {Q:Bool->SortSt->Prop}{pd:Array (Nat×Nat×Nat)}{g i hi:Nat}(O:Oc M A E s κ S r)(tr:∀x y z,Le r x y->Le r y z->Le r x z)(as:∀x y,r x y=true->Le r x y)(hS:∀x∈a.toList,S x)(hz:hi<=a.size)(R:Runs r a 0 pd.toList hi)(hi':i+1<pd.size)
  (h:∀a' pd' g',a'.Perm a->(∀k,hi<=k->a'[k]?=a[k]?)->Runs r a' 0 pd'.toList hi->pd'.size+1=pd.size->Q true (SortSt.mk' κ a' pd' g' none)):wpS M A E s (mga i) Q (SortSt.mk' κ a pd g none):=by
 obtain⟨⟨sa,n1,p⟩,⟨sb,n2,q⟩,l1,l2,e,hl,e1,e2,e3⟩:=B0c hi';rw[e]at R;obtain⟨mid,R1,R2⟩:=R.split;have R2:sa=mid/\1<=n1/\Up r a mid n1/\sb=mid+n1/\1<=n2/\Up r a (mid+n1) n2/\Runs r a (mid+n1+n2) l2 hi:=R2;obtain⟨rfl,x2,x3,rfl,y2,y3,R3⟩:=R2;have R3l:=R3.len;have al:a.toList.length=a.size:=Array.length_toList;have ea:a.toList=a.toList.take sa++((a.toList.drop sa).take n1++((a.toList.drop (sa+n1)).take n2++a.toList.drop (sa+n1+n2))):=by
  have d1:(a.toList.drop (sa+n1)).take n2++a.toList.drop (sa+n1+n2)=a.toList.drop (sa+n1):=by rw[←List.drop_drop (i:=n2),take_append_drop]
  have d2:(a.toList.drop sa).take n1++a.toList.drop (sa+n1)=a.toList.drop sa:=by rw[←List.drop_drop (i:=n1),take_append_drop]
  rw[d1,d2,take_append_drop]
 have hl0:(a.toList.take sa).length=sa:=by rw[length_take];omega
 refine A7z (i:=i) O rfl e1 e2 rfl ea hl0 (by rw[length_take,length_drop];omega) (by rw[length_take,length_drop];omega) x2 y2 tr as (x3.pw tr (by omega)) (y3.pw tr (by omega)) hS λst' m a1 a2 a3 a4 a5 a6=> ?_;obtain⟨kd,ar',pd',g',fl⟩:=st';replace a1:ar'.toList=a.toList.take sa++(m++a.toList.drop (sa+n1+n2)):=a1;replace a4:kd=κ:=a4;replace a5:pd'=(pd.setIfInBounds i (sa,n1+n2,p)).eraseIdxIfInBounds (i+1):=a5;replace a6:fl=none:=a6;subst a4 a6;have ml:m.length=n1+n2:=by rw[a2.length_eq,length_append,length_take,length_take,length_drop,length_drop];omega
 have hpd:pd'.toList=l1++(sa,n1+n2,p)::l2:=by rw[a5];exact e3 _
 have low:∀k,k<sa->ar'[k]?=a[k]?:=λk hk=>by
  rw[←Array.getElem?_toList,←Array.getElem?_toList,a1,getElem?_append_left (by omega),List.getElem?_take_of_lt hk]
 have up:∀k,sa+n1+n2<=k->ar'[k]?=a[k]?:=λk hk=>by
  rw[←Array.getElem?_toList,←Array.getElem?_toList,a1,getElem?_append_right (by omega),getElem?_append_right (by omega),getElem?_drop];congr 1;omega
 refine h ar' pd' g' ?_ (λk hk=>up k (by omega)) ?_ ?_
 ·rw[Array.perm_iff_toList_perm,a1];have pm:a.toList.Perm (a.toList.take sa++(((a.toList.drop sa).take n1++(a.toList.drop (sa+n1)).take n2)++a.toList.drop (sa+n1+n2))):=by
   rw[append_assoc,←ea]
  exact(List.Perm.append_left _ (a2.append_right _)).trans pm.symm
 ·rw[hpd];refine Runs.join (mid:=sa) (R1.of λk _ hk=>low k hk) ⟨rfl,by show 1<=n1+n2;omega,?_,?_⟩
  ·have:=Up.to (r:=r) a1 a3;rw[hl0,ml]at this;exact this
  ·show Runs r ar' (sa+(n1+n2)) l2 hi;rw[←Nat.add_assoc];exact R3.of λk hk _=>up k hk
 ·have z1:=congrArg List.length hpd;have z2:=congrArg List.length e;simp only[length_append,length_cons,Array.length_toList]at z1 z2;omega
theorem wp_runs {Q:Unit->SortSt->Prop}(O:Oc M A E s κ S r)(hk:kindOf st=κ)(ha:arrOf st=a)(hp:pendingOf st= #[])(hf:failedOf st=none)(hS:∀x∈a.toList,S x)(D:a.toList.Pairwise (Ne r))(tr:∀x y z,Le r x y->Le r y z->Le r x z)(as:∀x y,r x y=true->Le r x y)(hn:a.size=n)
  (h:∀st',(arrOf st').toList.Perm a.toList->failedOf st'=none->(arrOf st').toList.Pairwise (Le r)->Q () st'):wpS M A E s sortRuns' Q st:=by
 obtain⟨kd,ar,pd,gp,fl⟩:=st;have hp:pd= #[]:=hp;have hf:fl=none:=hf;have hk:kd=κ:=hk;have ha:ar=a:=ha;subst hp hf hk ha;rw[sortRuns'_eq];refine wpS_bind (wpS_get ?_);dsimp only
 simp only[hn];generalize minRun' n n 0=mr;refine wpS_bind (wpS_mono (wpS_forRange
  (I:=λx c st'=> ∃(lo:Nat)(a':Array Keyed)(pd:Array (Nat×Nat×Nat))(g:Nat),c=(none,lo)/\lo<=n/\(x<=lo\/lo=n)/\a'.Perm ar/\Runs r a' 0 pd.toList lo/\st'=SortSt.mk' kd a' pd g none)
  (Q:=λc st'=> ∃(a':Array Keyed)(pd:Array (Nat×Nat×Nat))(g:Nat),c=(none,n)/\a'.Perm ar/\Runs r a' 0 pd.toList n/\st'=SortSt.mk' kd a' pd g none) ?_ ?_ ⟨0,ar,#[],gp,rfl,zero_le _,.inl (zjQ _),Array.Perm.refl _,rfl,rfl⟩) ?_)
 ·rintro x c st' _ hx ⟨lo,a',pd,g,rfl,lo1,lo2,pa,R,rfl⟩;dsimp only
  by_cases f1:lo≥n
  ·rw[if_pos f1];obtain rfl:lo=n:=by omega
   exact wpS_pure ⟨a',pd,g,rfl,pa,R,rfl⟩
  rw[if_neg f1];have hS':∀x∈a'.toList,S x:=λx hx=>hS x (pa.toList.mem_iff.mp hx);refine wpS_bind (B02 (st:=SortSt.mk' kd a' pd g none) (a:=a') O hk rfl hS' (A2f (B2c D pa)) tr as (by omega) (by rw[pa.size_eq,hn];omega) λk a1 k1 k2 p1 q1 U1=> ?_);dsimp only
  by_cases f2:k<mr
  case' pos=>
   rw[if_pos f2];generalize hq:min (n - lo) mr=q;refine wpS_bind (wpS_lift (wpAny_rule ⟨rfl,?_⟩));refine wpS_bind (A4w (st:=setArr (SortSt.mk' kd a' pd g none) a1) (a:=a1) O hk rfl (λx hx=>hS' x (p1.toList.mem_iff.mp hx)) tr as (by omega) (by omega) (by rw[p1.size_eq,pa.size_eq,hn];omega) U1 λa2 p2 q2 U2=> ?_);have pz:a2.Perm ar:=(p2.trans p1).trans pa;have V:Runs r a2 0 pd.toList lo:=R.of λi _ hi=>(q2 i hi).trans (q1 i hi);have kq:1<=q/\q<=n - lo:=by omega
   simp only[Bool.not_true,Bool.false_eq_true,if_false]
  case' neg=>
   rw[if_neg f2];obtain⟨q,rfl⟩:∃q,q=k:=⟨_,rfl⟩;have pz:a1.Perm ar:=p1.trans pa;have V:Runs r a1 0 pd.toList lo:=R.of λi _ hi=>q1 i hi;have U2:=U1;have kq:1<=q/\q<=n - lo:=⟨k1,k2⟩;obtain⟨a2,rfl⟩:∃a2,a2=a1:=⟨_,rfl⟩
  all_goals
   refine wpS_bind (wpS_get ?_);have fin:∀(a3:Array Keyed)(pd3:Array (Nat×Nat×Nat))(g3:Nat),a3.Perm ar->Runs r a3 0 pd3.toList lo->Up r a3 lo q->∃(lo':Nat)(a':Array Keyed)(pd:Array (Nat×Nat×Nat))(g:Nat),((none,lo+q):Option Unit×Nat)=(none,lo')/\lo'<=n/\(x+1<=lo'\/lo'=n)/\a'.Perm ar/\Runs r a' 0 pd.toList lo'/\SortSt.mk' kd a3 (pd3.push (lo,q,0)) g3 none=SortSt.mk' kd a' pd g none:=λa3 pd3 g3 pz R U=>
    ⟨lo+q,a3,pd3.push (lo,q,0),g3,rfl,by omega,.inl (by omega),pz,by rw[Array.toList_push];exact R.join ⟨rfl,kq.1,U,rfl⟩,rfl⟩
   cases hb:(pendingOf (setArr (SortSt.mk' kd a' pd g none) a2)).back? with
   |none=>exact wpS_bind (wpS_modify (wpS_pure (fin a2 pd g pz V U2)))
   |some z=>
    obtain⟨s1,n1,pp⟩:=z;dsimp only
    generalize power' n (2*s1+n1) (2*s1+n1+n1+q) n=pw;refine wpS_bind (wpS_mono (wpS_forRange (I:=λ_ c st'=>c=(none,())/\∃(a3:Array Keyed)(pd3:Array (Nat×Nat×Nat))(g3:Nat),st'=SortSt.mk' kd a3 pd3 g3 none/\a3.Perm ar/\Runs r a3 0 pd3.toList lo/\Up r a3 lo q)
     (Q:=λc st'=>c=(none,())/\∃(a3:Array Keyed)(pd3:Array (Nat×Nat×Nat))(g3:Nat),st'=SortSt.mk' kd a3 pd3 g3 none/\a3.Perm ar/\Runs r a3 0 pd3.toList lo/\Up r a3 lo q) ?_ (λ_ _ hh=>hh) ⟨rfl,a2,pd,g,rfl,pz,V,U2⟩) ?_)
    ·rintro x c _ _ _ ⟨rfl,a3,pd3,g3,rfl,p3,R3,U3⟩;refine wpS_bind (wpS_get ?_);have ep:pendingOf (SortSt.mk' kd a3 pd3 g3 none)=pd3:=rfl;rw[ep];by_cases f3:pd3.size>1
     ·rw[if_pos f3,Array.getElem?_eq_getElem (by omega)];generalize pd3[pd3.size - 2]=zz;obtain⟨w1,w2,ol⟩:=zz;dsimp only
      by_cases f4:ol<=pw
      ·rw[if_pos f4];exact wpS_pure ⟨rfl,a3,pd3,g3,rfl,p3,R3,U3⟩
      ·rw[if_neg f4];refine wpS_bind (A1e O tr as (λx hx=>hS x (p3.toList.mem_iff.mp hx)) (by rw[p3.size_eq,show ar.size=n from hn];omega) R3 (i:=pd3.size - 2) (by omega) λa4 pd4 g4 p4 k4 R4 _=> ?_);simp only[Bool.not_true,Bool.false_eq_true,if_false];exact wpS_pure ⟨rfl,a4,pd4,g4,rfl,p4.trans p3,R4,U3.of λi h1 _=>k4 i h1⟩
     ·rw[if_neg f3];exact wpS_pure ⟨rfl,a3,pd3,g3,rfl,p3,R3,U3⟩
    ·rintro c _ ⟨rfl,a3,pd3,g3,rfl,p3,R3,U3⟩;refine wpS_bind (wpS_modify (wpS_bind (wpS_modify (wpS_pure (fin a3 _ g3 p3 (R3.cg ?_) U3)))));refine List.ext_getElem? λi=> ?_;rw[getElem?_map,getElem?_map,Array.getElem?_toList,Array.getElem?_toList];show _=Option.map _ (Array.modify pd3 (pd3.size - 1) _)[i]?;rw[Array.getElem?_modify]
     split
     ·cases pd3[i]?<;>rfl
     ·rfl
 ·rintro c st' ⟨lo,a',pd,g,rfl,lo1,lo2,pa,R,rfl⟩;obtain rfl:lo=n:=by omega
  exact⟨a',pd,g,rfl,pa,R,rfl⟩
 ·rintro c _ ⟨a',pd,g,rfl,pa,R,rfl⟩;dsimp only
  have fin:∀(a3:Array Keyed)(pd3:Array (Nat×Nat×Nat))(g3:Nat),a3.Perm ar->Runs r a3 0 pd3.toList n->pd3.size<=1->Q () (SortSt.mk' kd a3 pd3 g3 none):=λa3 pd3 g3 p3 R3 hz=>by
   refine h _ p3.toList rfl ?_;have za:a3.size=n:=by rw[p3.size_eq];exact hn
   show a3.toList.Pairwise _;have hl:pd3.toList.length<=1:=by rw[Array.length_toList];exact hz
   generalize pd3.toList=l at R3 hl
   match l,hl,R3 with
   | [],_,R3=>
    have R3:0=n:=R3;rw[eq_nil_of_length_eq_zero (l:=a3.toList) (by rw[Array.length_toList];omega)];exact .nil
   | [z],_,R3=>
    have R4:0+z.2.1=n:=R3.2.2.2;have q:=Up.pw tr R3.2.2.1 (by omega);rw[drop_zero,take_of_length_le (by rw[Array.length_toList];omega)]at q;exact q
  refine wpS_bind (wpS_mono (wpS_forRange (I:=λx c st'=>c=(none,())/\∃(a3:Array Keyed)(pd3:Array (Nat×Nat×Nat))(g3:Nat),st'=SortSt.mk' kd a3 pd3 g3 none/\a3.Perm ar/\Runs r a3 0 pd3.toList n/\(pd3.size<=1\/pd3.size+x<=n))
   (Q:=λc st'=>c=(none,())/\∃(a3:Array Keyed)(pd3:Array (Nat×Nat×Nat))(g3:Nat),st'=SortSt.mk' kd a3 pd3 g3 none/\a3.Perm ar/\Runs r a3 0 pd3.toList n/\pd3.size<=1) ?_ ?_ ⟨rfl,a',pd,g,rfl,pa,R,.inr (by have:=R.len;rw[Array.length_toList]at this;omega)⟩) ?_)
  ·rintro x c _ _ hx ⟨rfl,a3,pd3,g3,rfl,p3,R3,hz⟩;refine wpS_bind (wpS_get ?_);have ep:pendingOf (SortSt.mk' kd a3 pd3 g3 none)=pd3:=rfl;rw[ep];by_cases f3:pd3.size<=1
   ·rw[if_pos f3];exact wpS_pure ⟨rfl,a3,pd3,g3,rfl,p3,R3,f3⟩
   ·rw[if_neg f3];have hi:∀c:Prop,[Decidable c]->(if c then pd3.size - 2 - 1 else pd3.size - 2)+1<pd3.size:=λc _=>by split<;>omega
    refine wpS_bind (A1e O tr as (λx hx=>hS x (p3.toList.mem_iff.mp hx)) (by rw[p3.size_eq];exact le_of_eq hn.symm) R3 (hi _) λa4 pd4 g4 p4 k4 R4 z4=> ?_);simp only[Bool.not_true,Bool.false_eq_true,if_false];exact wpS_pure ⟨rfl,a4,pd4,g4,rfl,p4.trans p3,R4,by omega⟩
  ·rintro c _ ⟨rfl,a3,pd3,g3,rfl,p3,R3,hz⟩;exact⟨rfl,a3,pd3,g3,rfl,p3,R3,by omega⟩
  ·rintro c _ ⟨rfl,a3,pd3,g3,rfl,p3,R3,hz⟩;exact wpS_pure (fin a3 pd3 g3 p3 R3 hz)
end
end Tms
namespace Srt
open PySem PySem.W PyProof.Rows
section
variable {prog:Program}{w:World}{A:Around}{E:Value->Shared->Prop}{s:Shared}{κ:SortKind}{r:Nat->Int}
theorem B1j {vs:List Value}{Q:SortSt->Shared->Prop}(hd:∀i j,i<j->j<vs.length->r i≠r j/\vs.getD i Value.none≠vs.getD j Value.none)(ask:gC (kas_ask prog w A κ vs) vs.length r s)
  (h:∀st' p,Pm vs.length p->Up r p vs.length->arrOf st'=p.map (kas_item (vs.toArray.zip vs.toArray))->failedOf st'=none->Q st' s):
  wpAny (model prog w) A ((sortRuns').run (SortSt.mk' κ (vs.toArray.zip vs.toArray) #[] 7 none)) (λr s'=>Q r.2 s') E s:=by
 have it:∀i,i<vs.length->kas_item (vs.toArray.zip vs.toArray) i=(vs.getD i Value.none,vs.getD i Value.none):=λi hi=>by
  unfold kas_item;simp[Array.getD,hi]
 generalize hg:vs.toArray.zip vs.toArray=a at h it⊢;have az:a.size=vs.length:=by rw[←hg];simp
 have al:a.toList=(List.range vs.length).map (kas_item a):=by
  refine ext_getElem (by simp[az]) λi u v=> ?_;have:i<a.size:=by simpa using u
  simp[kas_item,Array.getD,this]
 let ix:Keyed->Nat:=λx=>Classical.epsilon λi=>i<vs.length/\kas_item a i=x;have sp:∀i,i<vs.length->ix (kas_item a i)<vs.length/\kas_item a (ix (kas_item a i))=kas_item a i:=λi hi=>Classical.epsilon_spec (p:=λj=>j<vs.length/\kas_item a j=kas_item a i) ⟨i,hi,rfl⟩;have ixe:∀i,i<vs.length->ix (kas_item a i)=i:=λi hi=>by
  obtain⟨u,v⟩:=sp i hi;generalize ix (kas_item a i)=j at u v;rw[it i hi,it j u,Prod.mk.injEq]at v;rcases Nat.lt_trichotomy i j with e|e|e
  ·exact((hd i j e u).2 v.1.symm).elim
  ·exact e.symm
  ·exact((hd j i e hi).2 v.1).elim
 have O:Tms.Oc (model prog w) A E s κ (λx=> ∃i,i<vs.length/\x=kas_item a i) λx y=>decide (r (ix x)<r (ix y)):=by
  rintro x y st R ⟨i,hi,rfl⟩ ⟨j,hj,rfl⟩ hk hR;rw[lt'_eq];refine wpS_bind (wpS_get ?_);have q:=ask i j (λb s'=>s'=s/\b=decide (r i<r j)) hi hj ⟨rfl,rfl⟩;unfold kas_ask at q;rw[hk,it i hi,it j hj];refine wpS_bind (wpS_lift (wpAny_attempt (wpAny_mono q ?_ λ_ _ hF=>hF.elim)));rintro b s' ⟨rfl,rfl⟩;refine⟨rfl,wpS_pure ?_⟩;have hR:R (some (decide (r (ix (kas_item a i))<r (ix (kas_item a j))))) st:=hR;rw[ixe i hi,ixe j hj]at hR;exact hR
 refine wpAny_mono (Tms.wp_runs (n:=vs.length) (a:=a) (Q:=λ_ st'=>Q st' s) O rfl rfl rfl rfl (λx hx=> ?_) ?_ (λx y z h1 h2=> ?_) (λx y h=> ?_) az λst' p1 p2 p3=> ?_) (λx s' q=>by obtain⟨rfl,q⟩:=q;exact q) λ_ _ e=>e
 ·rw[al]at hx;obtain⟨i,hi,rfl⟩:=mem_map.mp hx;exact⟨i,mem_range.mp hi,rfl⟩
 ·rw[al,pairwise_map,pairwise_iff_getElem];intro i j hi hj hij;rw[length_range]at hi hj;simp only[List.getElem_range];have:=(hd i j hij hj).1;show decide (r (ix (kas_item a i))<r (ix (kas_item a j)))=true\/decide (r (ix (kas_item a j))<r (ix (kas_item a i)))=true;rw[ixe i hi,ixe j hj];simp only[decide_eq_true_eq];omega
 ·have h1:=of_decide_eq_false h1;have h2:=of_decide_eq_false h2;exact zjU (by omega)
 ·have h:=of_decide_eq_true h;exact zjU (by omega)
 ·have me:∀x∈(arrOf st').toList,kas_item a (ix x)=x:=λx hx=>by
   have:=p1.mem_iff.mp hx;rw[al]at this;obtain⟨i,hi,rfl⟩:=mem_map.mp this;rw[ixe i (mem_range.mp hi)]
  refine h st' ((arrOf st').map ix) (Array.perm_iff_toList_perm.mpr ?_) (λi j hij hj=> ?_) ?_ p2
  ·rw[Array.toList_map];refine(p1.map ix).trans ?_;rw[al,map_map];show List.Perm _ (List.range vs.length);rw[map_congr_left (f:=ix∘kas_item a) (g:=id) λi hi=>ixe i (mem_range.mp hi),map_id]
  ·have zz:(arrOf st').toList.length=vs.length:=by rw[p1.length_eq,Array.length_toList,az]
   have zs:(arrOf st').size=vs.length:=by simpa using zz
   by_cases e:i=j
   ·subst e;exact Int.le_refl _
   ·have:=of_decide_eq_false (pairwise_iff_getElem.mp p3 i j (by omega) (by omega) (by omega));unfold R at';have gi:∀k (hk:k<vs.length),((arrOf st').map ix).getD k 0=ix ((arrOf st').toList[k]'(by omega)):=λk hk=>by
     simp[Array.getD,zs,hk]
    rw[gi i (by omega),gi j hj];omega
  ·rw[Array.map_map];apply Array.toList_inj.mp;rw[Array.toList_map]
   conv=>lhs;rw[←map_id (arrOf st').toList]
   exact map_congr_left λx hx=>(me x hx).symm
end
section
noncomputable def But (a:Addr)(h h':Heap):Prop:=∀b o,b≠a->h.get? b=some o->h'.get? b=some o
theorem A48 (n:Nat):Pm n (toArray (List.range n)):=Array.Perm.refl _
theorem A6z (h:n<2):Up r p n:=λi j hij hj=>by
 have:i=j:=by omega
 subst this;exact Int.le_refl _
theorem yW (vs:List Value):(toArray (List.range vs.length)).toList.map (λi=>vs.getD i Value.none)=vs:=by refine ext_getElem (by simp) λi h1 h2=> ?_;simp[h2]
theorem A4r (ho:s.heap.get? a=some (seqObj "list" vs.toArray n))(h64:vs.length<=1000000)(hd:64<=vs.length->∀i j,i<j->j<vs.length->r i≠r j/\vs.getD i Value.none≠vs.getD j Value.none)
  (hk:2<=vs.length->∀h',But a s.heap h'->(∀Q:SortKind->Shared->Prop,Q κ {s with heap:=h'}->wpAny (model prog w) A (keyKind' vs.toArray) Q E {s with heap:=h'})/\gC (kas_ask prog w A κ vs) vs.length r {s with heap:=h'})
  (h:∀h' c p,Pm vs.length p->Up r p vs.length->h'.get? a=some (seqObj "list" (p.toList.map λi=>vs.getD i Value.none).toArray c)->But a s.heap h'->P (.done (.ret .none)) {s with heap:=h'}):
  wpAny (model prog w) A (Builtin.«list.sort» ⟨[.ref a],[]⟩) P E s:=by
 have la:=zjT ho;obtain⟨c1,o1⟩:∃c1,(s.heap.update a (Obj.mapSeq λ_=>(#[]:Array Value))).get? a=some (seqObj "list" #[] c1):=⟨_,get?_update_seq ho λ_=> #[]⟩;have b1:But a s.heap (s.heap.update a (Obj.mapSeq λ_=>(#[]:Array Value))):=λb o hb e=>by rw[Heap.get?_update_ne _ _ _ _ hb];exact e
 generalize hg1:s.heap.update a (Obj.mapSeq λ_=>(#[]:Array Value))=g1 at o1 b1;have o3:((g1.push (seqObj "tuple" vs.toArray 0)).push (seqObj "list" #[] 0)).get? a=some (seqObj "list" #[] c1):=zjX _ (zjX _ o1);have b3:But a s.heap ((g1.push (seqObj "tuple" vs.toArray 0)).push (seqObj "list" #[] 0)):=λb o hb e=>zjX _ (zjX _ (b1 b o hb e));rw[list_sort_plain];refine zjZ (listItems_at ho rfl ?_);refine zjZ (listUpdate_at ho rfl ?_ (by rw[size_toArray,sizeLine_eq];omega) (zero_le _));rw[hg1];refine zjZ (seqEpoch_at o1 rfl ?_);refine zjZ (wpAny_newTuple ?_ (by show vs.length<=_;rw[sizeLine_eq];omega));refine zjZ (wpAny_newList ?_ (zero_le _));refine wpAny_holding ?_;show wpAny (model prog w) A _ P E {s with heap:=(g1.push (seqObj "tuple" vs.toArray 0)).push (seqObj "list" #[] 0)};generalize (g1.push (seqObj "tuple" vs.toArray 0)).push (seqObj "list" #[] 0)=g3 at o3 b3;dsimp only
 have fin:∀(st:SortSt)(p:Array Nat),Pm vs.length p->Up r p vs.length->(arrOf st).map (·.2)=(p.toList.map λi=>vs.getD i Value.none).toArray->failedOf st=none->
   wpAny (model prog w) A (do
    let touched:=(←seqEpoch a) !=c1
    Builtin.List.listUpdate (.ref a) λ_=>(arrOf st).map (·.2)
    if let some e:=failedOf st then rule "list.sort.comparison-raised";throw e
    if touched then rule "list.sort.modified";raiseError "ValueError" "list modified during sort"
    ret .none) P E {s with heap:=g3}:=λst p hp hu hout hf=>by
  rw[hout,hf];have hz:(p.toList.map λi=>vs.getD i Value.none).toArray.size=vs.length:=by rw[size_toArray,length_map,Array.length_toList,hp.size]
  obtain⟨c4,o4⟩:∃c4,(g3.update a (Obj.mapSeq λ_=>(p.toList.map λi=>vs.getD i Value.none).toArray)).get? a=some (seqObj "list" (p.toList.map λi=>vs.getD i Value.none).toArray c4):=⟨_,get?_update_seq o3 λ_=>(p.toList.map λi=>vs.getD i Value.none).toArray⟩;refine zjZ (seqEpoch_at o3 rfl ?_);refine zjZ (listUpdate_at o3 rfl ?_ (zero_le _) (le_trans (le_of_eq hz) (by rw[sizeLine_eq];omega)));simp only[bne_self_eq_false,Bool.false_eq_true,if_false];exact zjY (h _ c4 p hp hu o4 λb o hb e=>by rw[Heap.get?_update_ne _ _ _ _ hb];exact b3 b o hb e)
 by_cases h2:vs.toArray.size<2
 ·rw[if_pos h2,if_pos h2];refine zjZ (zjY ?_);rw[StateT.run_pure];refine zjZ (zjY ?_);refine fin _ _ (A48 _) (A6z (by rw[size_toArray]at h2;exact h2)) ?_ rfl;rw[yW];show(vs.toArray.zip vs.toArray).map (·.2)=_;apply Array.toList_inj.mp;simp[List.map_snd_zip]
 ·rw[if_neg h2,if_neg h2];rw[size_toArray]at h2;obtain⟨kk,ask⟩:=hk (by omega) g3 b3;refine zjZ (kk _ ?_);refine zjZ (wpAny_mono (Q:=λr' s'=>s'={s with heap:=g3}/\∃p,Pm vs.length p/\Up r p vs.length/\arrOf r'.2=p.map (kas_item (vs.toArray.zip vs.toArray))/\failedOf r'.2=none) ?_ ?_ λ_ _ e=>e)
  ·by_cases c:vs.length<64
   ·exact kat_run (Q:=λst' s'=>s'={s with heap:=g3}/\∃p,Pm vs.length p/\Up r p vs.length/\arrOf st'=p.map (kas_item (vs.toArray.zip vs.toArray))/\failedOf st'=none) (G:=λp s'=>s'={s with heap:=g3}/\Pm vs.length p/\Up r p vs.length)
     rfl (by omega) c (λp st' s' a1 a2 a3 a4=> ⟨a4.1,p,a4.2.1,a4.2.2,a2,a3⟩) (A6r ask (by omega) λp hp hu=> ⟨rfl,hp,hu⟩)
   ·exact B1j (Q:=λst' s'=>s'={s with heap:=g3}/\∃p,Pm vs.length p/\Up r p vs.length/\arrOf st'=p.map (kas_item (vs.toArray.zip vs.toArray))/\failedOf st'=none) (hd (by omega)) ask λst' p a1 a2 a3 a4=> ⟨rfl,p,a1,a2,a3,a4⟩
  rintro⟨⟨⟩,st'⟩ s' ⟨rfl,p,hp,hu,har,hf⟩;exact fin st' p hp hu (kat_snds rfl har) hf
theorem wL (h64:vs.length<=1000000)(hd:64<=vs.length->∀i j,i<j->j<vs.length->r i≠r j/\vs.getD i Value.none≠vs.getD j Value.none)
  (hc:∀Q':List Value->Shared->Prop,(∀h1 tk,(∀b o,s.heap.get? b=some o->h1.get? b=some o)->s.heap.objs.size<=h1.objs.size->Q' vs {s with heap:=h1,toks:=tk})->wpAny (model prog w) A.in1 (collect x) Q' E s)
  (hr:∀h1 tk,(∀b o,s.heap.get? b=some o->h1.get? b=some o)->2<=vs.length->(∀Q:SortKind->Shared->Prop,Q κ {s with heap:=h1,toks:=tk}->wpAny (model prog w) A.in1.in1 (keyKind' vs.toArray) Q E {s with heap:=h1,toks:=tk})/\gC (kas_ask prog w A.in1.in1 κ vs) vs.length r {s with heap:=h1,toks:=tk})
  (h:∀D h' tk c p,s.heap.objs.size<=D->Pm vs.length p->Up r p vs.length->h'.get? D=some (seqObj "list" (p.toList.map λi=>vs.getD i Value.none).toArray c)->(∀b o,s.heap.get? b=some o->h'.get? b=some o)->Q (.ref D) {s with heap:=h',toks:=tk}):
  wpAny (model prog w) A (call (.builtin "sorted") [x]) Q E s:=by
 refine Calls.call_function_entry kind_sorted plain_sorted entry_sorted (args_sorted1 _) ?_;unfold Builtin.«sorted»;refine zjZ (m:=checkCount "sorted" 1 1 _) (zjY ?_);refine zjZ (hc _ λh1 tk k1 z1=> ?_);refine zjZ (wpAny_newList ?_ (by rw[sizeLine_eq];omega));have oL:(h1.push (seqObj "list" vs.toArray 0)).get? h1.objs.size=some (seqObj "list" vs.toArray 0):=get?_push_size _ rfl;have kL:∀b o,s.heap.get? b=some o->(h1.push (seqObj "list" vs.toArray 0)).get? b=some o/\b≠h1.objs.size:=λb o e=> ⟨zjX _ (k1 b o e),ne_of_lt (lt_of_lt_of_le (zjT e) z1)⟩;refine zjZ (wpAny_holding (wpAny_call_entry slot_list_sort ⟨_,oL,rfl⟩ entry_list_sort ?_ (args_list_sort _)));refine A4r (κ:=κ) (r:=r) oL h64 hd (λh2 h' b'=>hr h' tk (λb o e=>b' b o (kL b o e).2 (kL b o e).1) h2) λh' c p hp hu o' b'=> ⟨_,rfl,?_⟩;exact zjY ⟨_,rfl,h h1.objs.size h' tk c p z1 hp hu o' λb o e=>b' b o (kL b o e).2 (kL b o e).1⟩
end
end Srt
namespace Srt
theorem iL:∀xs:List Int,HT.lexLt xs xs=false
 | []=>rfl
 |x::xs=>by rw[HT.lexLt_cons,if_pos rfl];exact iL xs
theorem nZ:∀{xs ys zs:List Int},HT.lexLt xs ys=true->HT.lexLt ys zs=true->HT.lexLt xs zs=true
 | [],[],_,h,_=>by cases h
 | [],_::_,[],_,h=>by cases h
 | [],_::_,_::_,_,_=>rfl
 |_::_,[],_,h,_=>by cases h
 |_::_,_::_,[],_,h=>by cases h
 |x::xs,y::ys,z::zs,h1,h2=>by
  rw[HT.lexLt_cons]at h1 h2⊢;by_cases e1:x=y
  ·subst e1;rw[if_pos rfl]at h1;by_cases e2:x=z
   ·subst e2;rw[if_pos rfl]at h2⊢;exact nZ h1 h2
   ·rw[if_neg e2]at h2⊢;exact h2
  ·rw[if_neg e1,decide_eq_true_eq]at h1;by_cases e2:y=z
   ·subst e2;rw[if_neg e1,decide_eq_true_eq];exact h1
   ·rw[if_neg e2,decide_eq_true_eq]at h2;rw[if_neg (by omega),decide_eq_true_eq];omega
theorem nW:∀{xs ys:List Int},HT.lexLt xs ys=false->HT.lexLt ys xs=false->xs=ys
 | [],[],_,_=>rfl
 | [],_::_,h,_=>by cases h
 |_::_,[],_,h=>by cases h
 |x::xs,y::ys,h1,h2=>by
  rw[HT.lexLt_cons]at h1 h2;by_cases e:x=y
  ·subst e;rw[if_pos rfl]at h1 h2;rw[nW h1 h2]
  ·rw[if_neg e,decide_eq_false_iff_not]at h1;rw[if_neg (λz=>e z.symm),decide_eq_false_iff_not]at h2;omega
noncomputable def rank (rows:List (List Int))(x:List Int):Int:=(rows.countP λz=>HT.lexLt z x:Nat)
theorem oS:∀{l:List α},(∀a∈l,p a=true->q a=true)->l.countP p<=l.countP q
 | [],_=>by simp
 |a::l,h=>by
  have ih:=oS (p:=p) (q:=q) (l:=l) λb hb=>h b (zjS _ hb);rw[countP_cons,countP_cons];have:=h a zjR;cases hp:p a<;>cases hq:q a<;>simp_all<;>omega
theorem A0t:∀{l:List α},(∀a∈l,p a=true->q a=true)->x∈l->p x=false->q x=true->l.countP p<l.countP q
 | [],_,hx,_,_=>by cases hx
 |a::l,h,hx,hp,hq=>by
  have hl:∀b∈l,p b=true->q b=true:=λb hb=>h b (zjS _ hb);rw[countP_cons,countP_cons];rcases mem_cons.mp hx with e|e
  ·subst e;have:=oS hl;rw[hp,hq];simp;omega
  ·have ih:=A0t hl e hp hq;have:=h a zjR;cases hp':p a<;>cases hq':q a<;>simp_all<;>omega
theorem nG (hx:x∈rows)(hy:y∈rows):decide (rank rows x<rank rows y)=HT.lexLt x y:=by
 unfold rank;cases h:HT.lexLt x y with
 |true=>
  rw[decide_eq_true_eq];have:=A0t (l:=rows) (p:=λz=>HT.lexLt z x) (q:=λz=>HT.lexLt z y) (λa _ ha=>nZ ha h) hx (iL x) h;omega
 |false=>
  rw[decide_eq_false_iff_not];have:rows.countP (λz=>HT.lexLt z y)<=rows.countP (λz=>HT.lexLt z x):=by
   refine oS λa _ ha=> ?_;cases h2:HT.lexLt y x with
   |true=>exact nZ ha h2
   |false=>rw[nW h h2];exact ha
  omega
end Srt
namespace L2
open PySem PySem.Spec PyProof.Rows Srt
section
variable {prog:Program}{w:World}{A:Around}
theorem yO {C:Bool->Shared->Prop}{s:Shared}{b:Bool}:∀{xs ys:List Int}{us ws:List Value}(i:Nat),Vals (xs.map V.int) us->Vals (ys.map V.int) ws->C (HT.lexLt xs ys) s->
  W.KatLex prog w A b (decide (xs.length<ys.length)) C (us.zip ws) i s
 | [],[],_,_,i,.nil,.nil,h=>by
  show C (decide (0<0)) s;exact h
 | [],y::ys,_,_,i,.nil,.cons _ _,h=>by
  show C (decide (0<ys.length+1)) s;rw[zjV (by omega)];exact h
 |x::xs,[],_,_,i,.cons _ _,.nil,h=>by
  show C (decide (xs.length+1<0)) s;rw[zjU (by omega)];exact h
 |x::xs,y::ys,_,_,i,.cons r1 t1,.cons r2 t2,h=>by
  obtain⟨t,rfl⟩:=r1;obtain⟨u,rfl⟩:=r2;rw[HT.lexLt_cons]at h;refine W.kat_cons (wpAny_eqBool_int ?_);by_cases e:x=y
  ·subst e;rw[if_pos rfl]at h;rw[show(x==x)=true by simp];refine W.kat_yes ?_;have:=yO (b:=b) (i+1) t1 t2 h;rw[show decide ((x::xs).length<(x::ys).length)=decide (xs.length<ys.length) by simp];exact this
  ·rw[if_neg e]at h;rw[show(x==y)=false by simpa using e];refine W.kat_no ?_;cases b&&i==0 with
   |true=>exact oneLt_int h
   |false=>exact W.kat_one _ _ (PyProof.Rows.lt_int (show W.BoolBack C (Value.bool (decide (x<y))) s from h))
end
theorem jH:∀{as:List Addr}{us:List Value},Vals (as.map V.ref) us->us=as.map Value.ref
 | [],_,.nil=>rfl
 |a::as,_,.cons r t=>by rw[jH t];cases (show _=Value.ref a from r);rfl
section
noncomputable def A8b {β:Type}(key:β->List Int)(zs zs':List (Addr×β)):Prop:=zs'.Perm zs/\zs'.Pairwise λa b=>HT.lexLt (key b.2) (key a.2)=false
noncomputable def sR (zs zs':List (Addr×List Int)):Prop:=zs'.Perm zs/\zs'.Pairwise λa b=>HT.lexLt b.2 a.2=false
theorem A56 (z0:β)(key:β->List Int)(hp:Pm zs.length p)(hu:Up (λi=>rank (zs.map key) (key (zs.getD i z0))) p zs.length):
  (p.toList.map λi=>zs.getD i z0).Perm zs/\(p.toList.map λi=>zs.getD i z0).Pairwise λa b=>HT.lexLt (key b) (key a)=false:=by
 have hperm:=Array.perm_iff_toList_perm.mp hp;have inz:∀k (hk:k<p.toList.length),p.toList[k]<zs.length:=λk hk=>by
  have:=hperm.mem_iff.mp (getElem_mem hk);simpa using this
 refine⟨(hperm.map λi=>zs.getD i z0).trans (List.Perm.of_eq (ext_getElem (by simp) λi a b=>by simp[b])),?_⟩;rw[pairwise_map,pairwise_iff_getElem];intro i j hi hj hij;have hsz:p.toList.length=zs.length:=by rw[Array.length_toList,hp.size]
 have h1:=hu i j (by omega) (by omega);have mem:∀k (hk:k<p.toList.length),key (zs.getD (p.toList[k]'hk) z0)∈zs.map key:=λk hk=>by
  have e:zs.getD p.toList[k] z0=zs[p.toList[k]]'(inz k hk):=by rw[getD_eq_getElem?_getD,getElem?_eq_getElem (inz k hk)];rfl
  rw[e];exact List.mem_map_of_mem (getElem_mem _)
 have e:∀k (hk:k<p.toList.length),at' p k=p.toList[k]:=λk hk=>by
  have:k<p.size:=by simpa using hk
  unfold at';simp[Array.getD,this]
 unfold R at h1;rw[e i hi,e j hj]at h1;rw[←nG (mem j hj) (mem i hi),decide_eq_false_iff_not];exact Int.not_lt.mpr h1
theorem A81 (b0:β)(key:β->List Int)(I:Inv X pins σ H s)(hq:SqL X.K H p (zs.map λz=>V.ref z.1))(h64:zs.length<=1000000)(hd:64<=zs.length->zs.Pairwise λz z'=>z.1≠z'.1/\key z.2≠key z'.2)
  (hr:∀h1 tk,(∀b o,s.heap.get? b=some o->h1.get? b=some o)->2<=zs.length->(∀Q2:SortKind->Shared->Prop,Q2 κ {s with heap:=h1,toks:=tk}->wpAny (model X.prog X.w) X.A.in1.in1 (keyKind' (zs.map λz=>Value.ref z.1).toArray) Q2 X.xe {s with heap:=h1,toks:=tk})/\
   ∀z∈zs,∀z'∈zs,∀C:Bool->Shared->Prop,C (HT.lexLt (key z.2) (key z'.2)) {s with heap:=h1,toks:=tk}->wpAny (model X.prog X.w) X.A.in1.in1 (keyLt' κ (.ref z.1) (.ref z'.1)) C (λ_ _=>False) {s with heap:=h1,toks:=tk})
  (q:∀l zs',H l=none->A8b key zs zs'->Q (.ref l) (upd H l (.lst (zs'.map λz=>V.ref z.1)))):wpAny (model X.prog X.w) X.A (call (.builtin "sorted") [.ref p]) (EP X pins σ Q) X.xe s:=by
 obtain⟨its,rv,pl,_⟩:=I.list hq;have hits:its=zs.map λz=>Value.ref z.1:=by
  have:=jH (as:=zs.map (·.1)) (us:=its) (by rw[map_map];exact rv);rw[this,map_map];rfl
 subst hits;have gd:∀i,i<zs.length->(zs.map λz=>Value.ref z.1).getD i Value.none= .ref (zs.getD i (0,b0)).1/\zs.getD i (0,b0)∈zs:=λi hi=>by
  constructor
  ·simp[hi]
  ·rw[show zs.getD i (0,b0)=zs[i] by simp[hi]];exact getElem_mem _
 refine wL (κ:=κ) (r:=λi=>rank (zs.map λz=>key z.2) (key (zs.getD i (0,b0)).2)) (vs:=zs.map λz=>Value.ref z.1) (by rw[length_map];exact h64) (λh6 i j hij hj=> ?_) (λQ' k=> ?_) (λh1 tk k1 h2=> ?_) λD h' tk c pp hD hp hu o' k'=> ?_
 ·rw[length_map]at h6 hj;obtain⟨ei,mi⟩:=gd i (by omega);obtain⟨ej,mj⟩:=gd j hj;have:=pairwise_iff_getElem.mp (hd h6) i j (by omega) hj hij;have g:∀k (hk:k<zs.length),zs.getD k (0,b0)=zs[k]:=λk hk=>by simp[hk]
  rw[←g i (by omega),←g j hj]at this;rw[ei,ej];refine⟨λe=>this.2 (nW ?_ ?_),λe=>this.1 (Value.ref.inj e)⟩
  ·rw[←nG (rows:=zs.map λz=>key z.2) (mem_map.mpr ⟨_,mi,rfl⟩) (mem_map.mpr ⟨_,mj,rfl⟩),decide_eq_false_iff_not];omega
  ·rw[←nG (rows:=zs.map λz=>key z.2) (mem_map.mpr ⟨_,mj,rfl⟩) (mem_map.mpr ⟨_,mi,rfl⟩),decide_eq_false_iff_not];omega
 ·refine collect_list pl.isList ?_ (by rw[length_map,sizeLine_eq];omega);refine k _ s.toks (λb o e=> ?_) (by rw[size_update,size_push'];exact le_succ _);rw[Heap.get?_update_ne _ _ _ _ (ne_of_lt (zjT e))];exact zjX _ e
 ·rw[length_map]at h2;obtain⟨hk,hlt⟩:=hr h1 tk k1 h2;refine⟨hk,λi j C hi hj hC=> ?_⟩;rw[length_map]at hi hj;obtain⟨ei,mi⟩:=gd i hi;obtain⟨ej,mj⟩:=gd j hj;show wpAny _ _ (keyLt' κ ((zs.map λz=>Value.ref z.1).getD i Value.none) ((zs.map λz=>Value.ref z.1).getD j Value.none)) C (λ_ _=>False) _;rw[ei,ej];rw[nG (mem_map.mpr ⟨_,mi,rfl⟩) (mem_map.mpr ⟨_,mj,rfl⟩)]at hC;exact hlt _ mi _ mj C hC
 ·rw[length_map]at hp hu;have so:=A56 (0,b0) (λz:Addr×β=>key z.2) hp hu;have eo:(pp.toList.map λi=>(zs.map λz=>Value.ref z.1).getD i Value.none)=(pp.toList.map λi=>zs.getD i (0,b0)).map λz=>Value.ref z.1:=by
   rw[map_map];refine map_congr_left λi hi=> ?_;have:i<zs.length:=by
    have:=(Array.perm_iff_toList_perm.mp hp).mem_iff.mp hi;simpa using this
   exact(gd i this).1
  rw[eo]at o';have hlen:=so.1.length_eq;have vf:∀zs:List (Addr×β),Vals (zs.map λz=>V.ref z.1) (zs.map λz=>Value.ref z.1):=λzs=>by
   induction zs with
   |nil=>exact .nil
   |cons z zs ih=>exact .cons rfl ih
  exact⟨.ref D,_,I.laid (t':=tk) (o:=.lst ((pp.toList.map λi=>zs.getD i (0,b0)).map λz=>V.ref z.1)) k' hD ⟨by rw[length_map,hlen,sizeLine_eq];omega,_,c,vf _,o'⟩,rfl,q _ _ (I.hok.fresh hD) so⟩
theorem sY {s:Shared}{pins:List (Addr×Obj)}{σ:St}{H:Hp}(I:Inv X pins σ H s){h':Heap}(k:∀b o,s.heap.get? b=some o->h'.get? b=some o){z:Addr}{ns:List Int}(hz:H z=some (.tup (ns.map V.int))):∃it:List Value,Vals (ns.map V.int) it/\∃o n,h'.get? z=some o/\o.cls= .type "tuple"/\o.data= .seq it.toArray n:=by obtain⟨_,it,rt,o,ho,hc,n,hd⟩:=(show ObjOk X.prog X.w H s.heap z (.tup _)from I.hok _ _ hz);exact⟨it,rt,o,n,k _ _ ho,hc,hd⟩
theorem wD:∀{a b:List Int},a.map V.int=b.map V.int->a=b
 | [],[],_=>rfl
 | [],_::_,h=>by cases h
 |_::_,[],h=>by cases h
 |x::a,y::b,h=>by
  injection h with h1 h2;injection h1 with h1;rw[h1,wD h2]
theorem wH:eD X (.builtin "sorted") (λxs H Q=> ∃(p:Addr)(zs:List (Addr×List Int)),xs=[.ref p]/\SqL X.K H p (zs.map λz=>V.ref z.1)/\(∀z∈zs,H z.1=some (.tup (z.2.map V.int))/\z.2≠[])/\zs.length<=1000000/\(64<=zs.length->(zs.map (·.2)).Pairwise (· ≠ ·))/\
  ∀l zs',H l=none->sR zs zs'->Q (.ref l) (upd H l (.lst (zs'.map λz=>V.ref z.1)))):=by
 intro pins s σ H xs us Q I r h;obtain⟨p,zs,rfl,hq,hz,h64,h6,q⟩:=h;obtain⟨u,rfl,rx⟩:=eZ r;cases rx;refine A81 [] id (κ:=tuples' true) I hq h64 (λh=>(List.Pairwise.and_mem.mp (pairwise_map.mp (h6 h))).imp fun{x y} q=> ⟨λe=>q.2.2 (wD (HO.tup.inj (Option.some.inj ((hz x q.1).1.symm.trans (e▸(hz y q.2.1).1))))),q.2.2⟩) (λh1 tk k1 h2=> ⟨λQ2 q2=> ?_,λz hm z' hm' C hC=> ?_⟩) q
 ·have key:∀ys:List (Addr×List Int),(∀z∈ys,z∈zs)->∃fs:List Value,W.KatTups h1 (ys.map λz=>Value.ref z.1) fs/\fs.length=ys.length/\∀v∈fs,∃n t,v= .int n t:=λys=>by
   induction ys with
   |nil=>intro _;exact⟨[],trivial,rfl,λv hv=>by cases hv⟩
   |cons z ys ih=>
    intro hm;obtain⟨fs,g1,g2,g3⟩:=ih λy hy=>hm y (zjS _ hy);obtain⟨it,rt,o,n,ho,hc,hd⟩:=sY I k1 (hz z (hm z zjR)).1;obtain⟨x,xs',ex⟩:=List.exists_cons_of_ne_nil (hz z (hm z zjR)).2;rw[ex]at rt;cases rt with
    |cons r0 t0=>
     obtain⟨t,rfl⟩:=r0;exact⟨.int x t::fs,W.KatTups.cons ho hc hd (by simp) g1,by simp[g2],λv hv=>by
      rcases mem_cons.mp hv with e|e
      ·exact⟨x,t,e⟩
      ·exact g3 v e⟩
  obtain⟨fs,g1,g2,g3⟩:=key zs λz hz=>hz;refine W.kat_kind (T:=.type "int") (s:={s with heap:=h1,toks:=tk}) g1 (by omega) (λv hv=> ?_) rfl q2;obtain⟨n,t,rfl⟩:=g3 v hv;exact W.Looks.of_pure rfl
 ·obtain⟨it,rt,o,n,ho,hc,hd⟩:=sY I k1 (hz z hm).1;obtain⟨it2,rt2,o2,n2,ho2,hc2,hd2⟩:=sY I k1 (hz z' hm').1;refine W.kat_lt (s:={s with heap:=h1,toks:=tk}) ho hd ho2 hd2 ?_;have l1:=rt.length;have l2:=rt2.length;rw[length_map]at l1 l2;rw[size_toArray,size_toArray,←l1,←l2];exact yO 0 rt rt2 hC
theorem wE:eD X (.builtin "sorted") (λxs H Q=> ∃(p:Addr)(zs:List (Addr×List Int)),xs=[.ref p]/\SqL X.K H p (zs.map λz=>V.ref z.1)/\(∀z∈zs,H z.1=some (.tup (z.2.map V.int))/\z.2≠[])/\zs.length<64/\
  ∀l zs',H l=none->sR zs zs'->Q (.ref l) (upd H l (.lst (zs'.map λz=>V.ref z.1)))):=λ_ _ _ _ _ _ _ I r h=>let ⟨p,zs,a,b,c,d,q⟩:=h;wH _ _ _ _ _ _ _ I r ⟨p,zs,a,b,c,by omega,λh=>absurd d (by omega),q⟩
end
end L2
namespace Wlk
noncomputable abbrev Pl:=Int×Int
noncomputable abbrev fU:=Pl×Pl
noncomputable def cout (nw ne sw se:Bool):Fin 4->Bool
 |0=>se&& !ne
 |1=>sw&& !se
 |2=>nw&& !sw
 |3=>ne&& !nw
noncomputable def nx (nw ne sw se:Bool)(d:Fin 4):Fin 4:=if cout nw ne sw se (d+1)=true then d+1 else if cout nw ne sw se d=true then d else d+3
section
variable (land:List Pl)(b:Pl)
end
noncomputable def rtS (s:fU):Pl:=(s.2.1+s.2.2 - s.1.2,s.2.2+s.1.1 - s.2.1)
noncomputable def A7a (ss:List fU)(b:Pl):List fU:=ss.filter λo=>decide (o.1=b)
noncomputable def nxt (ss:List fU)(s:fU):fU:=if (s.2,rtS s)∈ss then(s.2,rtS s)else(A7a ss s.2).headD s
section
end
end Wlk
namespace Cyc
section
variable {α:Type} [DecidableEq α]
noncomputable def it (f:α->α):Nat->α->α
 |0,s=>s
 |n+1,s=>f (it f n s)
theorem jE:∀{xs ys:List α},xs.Nodup->(∀x∈xs,x∈ys)->xs.length<=ys.length
 | [],_,_,_=>zero_le _
 |x::xs,ys,hn,h=>by
  have hx:=h x zjR;have hn':=nodup_cons.mp hn;have ih:=jE (ys:=ys.erase x) hn'.2 λy hy=>by
   refine(List.mem_erase_of_ne λz=> ?_).mpr (h y (zjS _ hy));subst z;exact hn'.1 hy
  rw[List.length_erase_of_mem hx]at ih;have:=List.length_pos_of_mem hx;rw[length_cons];omega
variable {l:List α}{f:α->α}
noncomputable def Per (f:α->α)(s:α)(m:Nat):Prop:=1<=m/\it f m s=s/\∀k,1<=k->k<m->it f k s≠s
open Classical in
noncomputable def per (f:α->α)(s:α):Nat:=if h:∃m,Per f s m then h.choose else 0
noncomputable def orb (f:α->α)(s:α):List α:=(List.range (per f s)).map λi=>it f i s
noncomputable def stF (o:α->List α)(wd:List (List α)×List α)(s:α):List (List α)×List α:=if s∈wd.2 then wd else(wd.1++[o s],wd.2++o s)
end
end Cyc
namespace Srt
open PySem PySem.W PyProof.Rows L2
noncomputable def fl:List (Int×Int)->List Int
 | []=> []
 |c::cs=>c.1::c.2::fl cs
end Srt
namespace L2
open PySem PySem.Spec PyProof.Rows Srt
noncomputable def SqA (H:Hp)(a:Addr)(cs:List (Int×Int)):Prop:=∃ps:List Addr,H a=some (.tup (ps.map V.ref))/\PlAt H ps cs
theorem SqA.same (h:SqA H a cs)(s:Same H H'):SqA H' a cs:=let ⟨ps,h1,h2⟩:=h;⟨ps,s _ _ h1,h2.same s⟩
theorem yN:∀{ps qs:List Addr},ps.map V.ref=qs.map V.ref->ps=qs
 | [],[],_=>rfl
 | [],_::_,h=>by cases h
 |_::_,[],h=>by cases h
 |p::ps,q::qs,h=>by
  injection h with h1 h2;injection h1 with h1;rw[h1,yN h2]
theorem PlAt.val:∀{ps:List Addr}{cs ds:List (Int×Int)},PlAt H ps cs->PlAt H ps ds->cs=ds
 | [],[],[],.nil,.nil=>rfl
 |p::ps,(_,_)::cs,(_,_)::ds,.cons r1 t1,.cons r2 t2=>by
  have e:some (HO.tup _)=some (HO.tup _):=(show H p=_ from r1).symm.trans r2;cases e;rw[PlAt.val t1 t2]
theorem SqA.val (h:SqA H a cs)(h':SqA H a ds):cs=ds:=by
 obtain⟨ps,h1,h2⟩:=h;obtain⟨qs,h3,h4⟩:=h';have e:=h1.symm.trans h3;injection e with e
 injection e with e;rw[←yN e]at h4;exact h2.val h4
section
end
end L2
namespace PySem
section
end
end PySem
namespace L2
open PySem PySem.Spec PyProof.Rows
section
end
noncomputable def ObK (K:W.Frag)(D:Addr):Prop:=∃d kd sl,K.lookup D=some ⟨.type "type",d,.cls kd,sl⟩
theorem A9p {K:W.Frag}{D:Addr}{bm:List Value}{n:String}(h:W.excIn K D bm n=true):ObK K D:=by
 unfold W.excIn at h
 split at h
 ·rename_i e;exact⟨_,_,_,e⟩
 ·cases h
structure jQ (K:W.Frag)(D:Addr):Prop where
 ob:ObK K D
 cl:W.findIn K (.ref D) "__class__" =some (some (.builtin "object.__class__"))
 ga:W.findIn K (.ref D) "__getattribute__" =some (some (.builtin "BaseException.__getattribute__"))
 gt:W.findIn K (.ref D) "__getattr__" =some none
 mo:W.mroIn K D (.type "object")=some true
 mb:W.mroIn K D (.type "BaseException")=some true
 gg:W.specialIn K (.builtin "object.__class__") "__get__" =some (some (.builtin "getset_descriptor.__get__"))
 tk:W.takesIn K (.builtin "object.__class__")=some true
end L2
namespace L2
open PySem PySem.W PySem.Calls PyProof.Rows Builtin Builtin.ObjectAttr Builtin.Getset_descriptor
section
variable {prog:Program}{w:World}{A:Around}{E:Value->Shared->Prop}{K:W.Frag}{x D:Addr}
theorem A9z {M:Model}{h:Heap}(X:K.In h)(c:jQ K D):W.Looks M h (find (.ref x) (.ref D) "__class__") (.bind (.builtin "getset_descriptor.__get__") (.builtin "object.__class__")):=by refine(W.looks_findIn X c.cl).andThen ?_;refine W.Looks.andThen (a:=some (Value.builtin "getset_descriptor.__get__")) (W.looks_specialIn X c.gg) ?_;refine W.Looks.andThen (a:=some (Value.builtin "getset_descriptor.__get__",Value.builtin "object.__class__")) ?_ (W.Looks.tag .now);exact(W.looks_takesIn X c.tk).andThen .now
theorem A49 {R:Result->Shared->Prop}{s:Shared}{tp:Value}(X:K.In s.heap)(L0:W.Looks (model prog w) s.heap (typeOf (.ref x)) (.ref D))(c:jQ K D)(h:R (.ok (.ret (.ref D))) s):
  codeAny (model prog w) A (.call (.builtin "getset_descriptor.__get__") ⟨[.builtin "object.__class__",.ref x,tp],[]⟩) R s:=by
 obtain⟨hh,g,dr,t,os⟩:=s;have LM:=W.looks_mroIn (M:=model prog w) X c.mo;refine codeAny_call_builtin KF.slot_gs.plain KF.entry_gs (KF.slot_gs.check _ _ _ _ _ _ _ _ KF.type_class (KF.args_gs _ _ _) ?_);unfold Builtin.«getset_descriptor.__get__» descrGet;rw[dga_obj];refine zjZ (zjY ?_);unfold descrGetter descrCheckInstance descrNameAndClass isInstance;simp only[KF.owner_class];repeat lk
 refine⟨Code.quiet_builtin _ (by decide +kernel),codeAny_builtin KF.entry_class ?_⟩;unfold Builtin.«object.__class__» shownTypeOf;repeat lk
 exact h
theorem A7v {s:Shared}{Q:Option Value->Shared->Prop}(X:K.In s.heap){o:Obj}(hx:s.heap.get? x=some o)(hc:o.cls= .ref D)(c:jQ K D)(h:Q (some (.ref D)) {s with toks:=s.toks+1}):
  wpAny (model prog w) A (getAttr? (.ref x) "__class__") Q E s:=by
 obtain⟨hh,g,d,t,os⟩:=s;have hx:hh.get? x=some o:=hx;have L0:Looks (model prog w) hh (typeOf (.ref x)) (.ref D):=hc▸(Looks.ld hx).andThen .now;have L1:=looks_findIn (M:=model prog w) X c.ga;have L2':=looks_findIn (M:=model prog w) X c.gt;have LB:=looks_mroIn (M:=model prog w) X c.mb;have LF:=A9z (x:=x) (M:=model prog w) X c;unfold getAttr? getAttrBy? getAttrBy;refine zjZ (wpAny_mkText (zjZ (wpAny_attempt (wpAny_holding (zjZ (L0.at (zjZ (L1.at ?_))))))));have hne:(onTheHeap (Value.ref D)&&Value.builtin "BaseException.__getattribute__" ==Value.builtin "object.__getattribute__")=false:=by
  rw[show(Value.builtin "BaseException.__getattribute__" ==Value.builtin "object.__getattribute__")=false by decide +kernel];rfl
 dsimp only
 rw[if_neg (by rw[hne];decide)];unfold getAttrByItsOwn hookBefore;rw[if_pos (show onTheHeap (Value.ref D)=true from rfl)];refine zjZ (L2'.at (zjZ (wpAny_attempt (wpAny_holding ?_))));unfold callGetattribute boundAndCalled;rw[if_neg (by decide)];refine zjZ (wpAny_of_eq (PySem.F.attr_ValueError.ga.bind (.ref x)) ?_);refine wpAny_call (codeAny_call_builtin PySem.F.attr_ValueError.ga.plain PySem.F.entry_bexc_ga ?_);have hk:builtinKind "BaseException.__getattribute__" =some .slot:=by decide +kernel
 have hsp:splitId "BaseException.__getattribute__" =some ("BaseException","__getattribute__"):=by decide +kernel
 have ha:=PySem.F.args_bexc_ga (.ref x) (.str "__class__" t);simp only[checkBuiltinCall,hk,hsp];have LI:Looks (model prog w) hh (isInstance (.ref x) (.type "BaseException")) true:=L0.andThen LB;refine zjZ (LI.at ?_)
 repeat (first|assumption|wp_step)
 rw[hc];have LC:=looks_findIn (M:=model prog w) X c.cl;have LG:Looks (model prog w) hh (getOf (some (Value.builtin "object.__class__"))) (some (Value.builtin "getset_descriptor.__get__")):=looks_specialIn X c.gg;have LD:Looks (model prog w) hh (dataDescriptor? (some (Value.builtin "object.__class__")) (some (Value.builtin "getset_descriptor.__get__"))) (some (Value.builtin "getset_descriptor.__get__",Value.builtin "object.__class__")):=(looks_takesIn X c.tk).andThen .now;refine LC.at (zjZ (LG.at (zjZ (LD.at (zjZ (wpAny_rule (zjY ?_)))))));dsimp only
 unfold bindTo;dsimp only
 refine zjZ (wpAny_holding (wpAny_call (A49 (s:=⟨hh,g,d,t+1,os⟩) X L0 c (zjY ?_))));exact handed_on rfl (zjY h)
end
theorem zU {K:W.Frag}{x D:Addr}(c:jQ K D):W.KitX K (.ref x) (.ref D) (λh=> ∃o,h.get? x=some o/\o.cls= .ref D)where
 ty:=λM h _ z=>let ⟨o,h1,h2⟩:=z;h2▸(W.Looks.ld h1).andThen .now
 it:=λM h X _=>by
  obtain⟨oD,kD,lD,look⟩:=c.ob;have hC:=X _ _ look;intro A' Q' E' s' k z;unfold isType loadHead;exact zjZ (wpAny_loadPart (k _ _ hC) (zjY z))
 ne:=λh tp dd its n sl X htp=>Bool.eq_false_iff.mpr λq=>by
  obtain⟨oD,kD,lD,look⟩:=c.ob;have hC:=X _ _ look;have e:D=tp:=Value.ref.inj (beq_iff_eq.mp q);subst e;have z:Value.type "type" =Value.type "tuple":=congrArg Obj.cls (Option.some.inj (hC.symm.trans htp));injection z with z
  exact absurd z (by decide)
 ca:=λX z k=>let ⟨o,h1,h2⟩:=z;A7v X h1 h2 c k
end L2
namespace L2
open PySem PySem.Spec PyProof.Rows
theorem oR {X:Cx}{e D:Addr}{oe:Obj}(c:jQ X.K D):eD (X.within e oe) (.builtin "isinstance") (λxs H Q=>oe.cls= .ref D/\((∃C b,xs=[.ref e,.ref C]/\W.kitOne X.K (.ref D) (.ref C)=some b/\Q (.bl b) H)\/ ∃T b,xs=[.ref e,.ty T]/\W.kitOne X.K (.ref D) (.type T)=some b/\Q (.bl b) H)):=by
 intro pins s σ H xs us Q I r h;obtain⟨hc,h⟩:=h;have hp:s.heap.get? e=some oe:=(I.pin (e,oe) (mem_append_left _ zjR)).1;rcases h with⟨C,b,rfl,k,q⟩| ⟨T,b,rfl,k,q⟩
 ·obtain⟨u,w',rfl,rx,ry⟩:=kE r;cases rx;cases ry;exact W.kia_one (zU c) I.kIn ⟨oe,hp,hc⟩ k (λz=>nomatch z) λtk=> ⟨.bl b,H,I.tok _,rfl,q⟩
 ·obtain⟨u,w',rfl,rx,ry⟩:=kE r;cases rx;cases (show w'=Value.type T from ry);exact W.kia_one (zU c) I.kIn ⟨oe,hp,hc⟩ k (λz=>nomatch z) λtk=> ⟨.bl b,H,I.tok _,rfl,q⟩
theorem xG:eD X (.builtin "isinstance") (λxs H Q=> ∃x t ty b,∃Ts:List String,xs=[x,.ref t]/\H t=some (.tup (Ts.map V.ty))/\TyOf X.K H x ty/\(∃T,ty= .type T)/\W.kitAny X.K ty (Ts.map Value.type)=some b/\Q (.bl b) H):=by
 intro pins s σ H xs us Q I r h;obtain⟨x,t,ty,b,Ts,rfl,ht,hty,⟨T,rfl⟩,k,q⟩:=h;obtain⟨u,w',rfl,rx,ry⟩:=kE r;cases ry;obtain⟨its,rv,⟨⟨c1,d1,t1,l1⟩,ho,hc,n,hd⟩,_⟩:=I.tuple (SqT.of ht);simp only at hc hd;subst hc hd;have e:its=Ts.map Value.type:=by
  have go:∀(Ts:List String)(us:List Value),Vals (Ts.map V.ty) us->us=Ts.map Value.type:=by
   intro Ts
   induction Ts with
   |nil=>intro us h;cases h;rfl
   |cons T Ts ih=>intro us h;cases h with|cons a b=>rw[show _=Value.type T from a,ih _ b];rfl
  exact go Ts its rv
 subst e;have fin:∀tk,EP X pins σ Q (.bool b) {s with toks:=tk}:=λtk=> ⟨.bl b,H,I.tok _,rfl,q⟩;cases hty with
 |non=>cases (show u=Value.none from rx);exact W.kia_tup W.kitx_none I.kIn True.intro ho k (λz=>nomatch z) fin
 |bl y=>cases (show u=Value.bool y from rx);exact W.kia_tup W.kitx_bool I.kIn True.intro ho k (λz=>nomatch z) fin
 |int i=>obtain⟨t,z⟩:=(show∃t,u=Value.int i t from rx);cases z;exact W.kia_tup W.kitx_int I.kIn True.intro ho k (λz=>nomatch z) fin
 |str y=>obtain⟨t,z⟩:=(show∃t,u=Value.str y t from rx);cases z;exact W.kia_tup W.kitx_str I.kIn True.intro ho k (λz=>nomatch z) fin
 |flt y=>obtain⟨t,z⟩:=(show∃t,u=Value.float y t from rx);cases z;exact W.kia_tup W.kitx_float I.kIn True.intro ho k (λz=>nomatch z) fin
 | @lst a xs ea=>
  cases (show u=Value.ref a from rx);obtain⟨_,_,n,_,h1⟩:=(show ObjOk X.prog X.w H s.heap a (.lst xs)from I.hok a _ ea);exact W.kia_tup W.kitx_list I.kIn ⟨_,h1,rfl⟩ ho k (λz=>nomatch z) fin
 | @frz a ob xs ea=>
  cases (show u=Value.ref a from rx);obtain⟨_,_,_,n,_,h1⟩:=(show ObjOk X.prog X.w H s.heap a (.frz ob (.lst xs))from I.hok a _ ea);exact W.kia_tup W.kitx_list I.kIn ⟨_,h1,rfl⟩ ho k (λz=>nomatch z) fin
 | @tup a xs ea=>
  cases (show u=Value.ref a from rx);obtain⟨_,_,_,p⟩:=(show ObjOk X.prog X.w H s.heap a (.tup xs)from I.hok a _ ea);obtain⟨o,h1,h2,_⟩:=p;exact W.kia_tup W.kitx_tuple I.kIn ⟨o,h1,h2⟩ ho k (λz=>nomatch z) fin
 | @dK a kvs ea=>
  cases (show u=Value.ref a from rx);obtain⟨_,_,vs,_,p⟩:=(show ObjOk X.prog X.w H s.heap a (.dK kvs)from I.hok a _ ea);obtain⟨o,es,ep,h1,h2,_⟩:=p;exact W.kia_tup W.kitx_dict I.kIn ⟨o,h1,h2.1⟩ ho k (λz=>nomatch z) fin
 | @dT a kvs ea=>
  cases (show u=Value.ref a from rx);obtain⟨_,_,xs,_,o,es,ep,h1,h2,_⟩:=(show ObjOk X.prog X.w H s.heap a (.dT kvs)from I.hok a _ ea);exact W.kia_tup W.kitx_dict I.kIn ⟨o,h1,h2.1⟩ ho k (λz=>nomatch z) fin
theorem PI.or (h1:PI X tg iter w1)(h2:PI X tg iter w2):PI X tg iter (λσ H R=>w1 σ H R\/w2 σ H R):=by
 intro pins s σ H R I h;rcases h with h|h
 ·exact h1 pins s σ H R I h
 ·exact h2 pins s σ H R I h
noncomputable abbrev C3:=Int×Int×Int
noncomputable def ClP (H:Hp)(bs:List Addr)(cl:List C3):Prop:=Paired (λb (c:C3)=>H b=some (.tup [.int c.1,.int c.2.1,.int c.2.2])) bs cl
theorem ClP.ext (h:ClP H bs cl)(e:Ext H H'):ClP H' bs cl:=Paired.mapP h λ_ _ z=>e.tup _ _ z
theorem ClP.get:∀{bs:List Addr}{cl:List C3}{i:Nat}{b:Addr},ClP H bs cl->bs[i]?=some b->∃c,cl[i]?=some c/\H b=some (.tup [.int c.1,.int c.2.1,.int c.2.2])
 |_,_,0,_,.cons r _,h=>by cases h;exact⟨_,rfl,r⟩
 |_,_,i+1,_,.cons _ t,h=>ClP.get (i:=i) t (by simpa using h)
noncomputable def ClT (H:Hp)(a:Addr)(cl:List C3):Prop:=∃bs,H a=some (.tup (bs.map V.ref))/\ClP H bs cl
theorem ClT.ext (h:ClT H a cl)(e:Ext H H'):ClT H' a cl:=let ⟨bs,h1,h2⟩:=h;⟨bs,e.tup _ _ h1,h2.ext e⟩
structure gF (cs:List Int):Prop where
 l1:1<=cs.length
 l6:cs.length<=6
 num:∀x∈cs,1<=x/\x<=100
noncomputable def lt2 (a b:Int×Int):Bool:=HT.lexLt [a.1,a.2] [b.1,b.2]
noncomputable def nS (c:C3):Int×Int:=(c.1,c.2.1)
structure gJ (cl:List C3):Prop where
 l1:1<=cl.length
 l12:cl.length<=12
 num:∀c∈cl,(0<=c.1/\c.1<=3)/\(0<=c.2.1/\c.2.1<=5)/\1<=c.2.2/\c.2.2<=20
 up:(cl.map nS).Pairwise λa b=>lt2 a b=true
noncomputable def iY (cs:List Int)(cl:List C3):Prop:=∀c∈cl,c.2.1<cs.length
noncomputable def gY (H:Hp)(a:Addr)(cs:List Int):Prop:=H a=some (.tup (cs.map V.int))
noncomputable def Wk (J:It)(xs:List V)(S:Hp->Prop):Prop:=∀{g:TG}{tb:TS}{D:dR}{σ:St}{H:Hp}(Pv:Nat->St->Hp->Prop),Pv 0 σ H->(∀i σ H,i<=xs.length->Pv i σ H->S H)->
 (∀i x σ H,xs[i]?=some x->Pv i σ H->g x σ H λσ2 H2=>tb {D with nx:=Pv (i+1),ct:=Pv (i+1),bk:=D.nx} σ2 H2)->(∀σ H,Pv xs.length σ H->D.nx σ H)->eA J g tb D σ H
theorem gP {K:W.Frag}{a:Addr}{xs:List V}:Wk (Itt K a) xs λH=>SqT K H a xs:=λPv h0 hl hs hd=>gG Pv h0 hl hs hd
theorem lC {K:W.Frag}{a:Addr}{xs:List V}:Wk (Itl K a) xs λH=>SqL K H a xs:=λPv h0 hl hs hd=>dI Pv h0 hl hs hd
theorem kN {K:PySem.W.Frag}{J:It}{S:Hp->Prop}{l:Addr}{bs:List Addr}{cl:List C3}{te:TE}{H0:Hp}{rest:St}{Q:St->Hp->Prop}(W:Wk J (bs.map V.ref) S)(hS:∀H',Same H0 H'->S H')(hC:ClP H0 bs cl)(hl:H0 l=none)(hz:bs.length<=1000)(f:C3->V)
  (turn:∀c H' Q',c∈cl->Same H0 H'->(∀H2,Same H' H2->Q' (f c) H2)->te (some (.int c.1)::some (.int c.2.1)::some (.int c.2.2)::rest) H' Q')(hQ:∀σ H',Same H0 H'->H' l=some (.lst (cl.map f))->Q σ H'):
  eA J (gN K 3 (eF (cT 0) (eF (cT 1) (eF (cT 2) gQ)))) (cZ gB (eJ l te)) (eC Q) (none::none::none::rest) (upd H0 l (.lst [])):=by
 have hlen:bs.length=cl.length:=Paired.length hC;refine W (λi σ H'=>(∃x y z,σ=x::y::z::rest)/\Same H0 H'/\H' l=some (.lst ((cl.take i).map f))) ⟨⟨_,_,_,rfl⟩,aQ hl,by rw[aJ];rfl⟩ (λi σ H' _ h=>hS _ h.2.1) ?_ ?_
 ·rintro i x σ H' hx ⟨⟨x0,y0,z0,rfl⟩,hs,hl'⟩;rw[getElem?_map]at hx;cases hb:bs[i]? with
  |none=>rw[hb]at hx;cases hx
  |some b=>
   rw[hb]at hx;cases hx;obtain⟨c,hc,he⟩:=hC.get hb;refine⟨b,_,rfl,SqT.of (hs _ _ he),rfl,_,_,rfl,_,_,rfl,_,_,rfl,rfl,?_⟩;refine gO ?_;refine turn c H' _ (mem_of_getElem? hc) hs λH2 h2=> ?_;refine⟨_,h2 _ _ hl',bW (by rw[length_map,length_take];omega),⟨_,_,_,rfl⟩,λb u e=> ?_,?_⟩
   ·rw[aY (bH e hl)];exact h2 _ _ (hs _ _ e)
   ·rw[aJ,take_succ,hc,map_append];rfl
 ·rintro σ H' ⟨_,hs,hl'⟩;rw[length_map,hlen,take_of_length_le (zjQ _)]at hl';exact hQ σ H' hs hl'
theorem A9l {K:PySem.W.Frag}{J:It}{S:Hp->Prop}{l:Addr}{bs:List Addr}{cl:List C3}{H0:Hp}{Q:St->Hp->Prop}(W:Wk J (bs.map V.ref) S)(hS:∀H',Same H0 H'->S H')(hC:ClP H0 bs cl)(hl:H0 l=none)(hz:bs.length<=1000)
  (hQ:∀σ H' ps,Same H0 H'->H' l=some (.lst (ps.map V.ref))->PlAt H' ps (cl.map nS)->Q σ H'):
  eA J (gN K 3 (eF (cT 0) (eF (cT 1) (eF (cT 2) gQ)))) (cZ gB (eJ l (nM (dM (dN 0) (dM (dN 1) iN))))) (eC Q) [none,none,none] (upd H0 l (.lst [])):=by
 have hlen:bs.length=cl.length:=Paired.length hC;refine W (λi σ H'=>σ.length=3/\Same H0 H'/\∃ps:List Addr,H' l=some (.lst (ps.map V.ref))/\PlAt H' ps ((cl.take i).map nS)) ⟨rfl,aQ hl,[],by rw[aJ];rfl,.nil⟩ (λi σ H' _ h=>hS _ h.2.1) ?_ ?_
 ·rintro i x σ H' hx ⟨hσ,hs,ps,hl',hP⟩
  match σ,hσ with
  | [x0,y0,z0],_=>
  rw[getElem?_map]at hx;cases hb:bs[i]? with
  |none=>rw[hb]at hx;cases hx
  |some b=>
   rw[hb]at hx;cases hx;obtain⟨c,hc,he⟩:=hC.get hb;have hpl:ps.length<=i:=by have:=Paired.length hP;rw[length_map,length_take]at this;omega
   have hil:i<bs.length:=(zjW.mp hb).1;refine⟨b,_,rfl,SqT.of (hs _ _ he),rfl,_,_,rfl,_,_,rfl,_,_,rfl,rfl,?_⟩;refine gO ?_;refine⟨_,rfl,_,rfl,by show 2<=sizeLine;decide,λq hq=> ?_⟩;have s2:=aQ (o:=.tup [.int c.1,.int c.2.1]) hq;have hlq:q≠l:=λz=>by rw[z,hl']at hq;cases hq
   refine⟨_,s2 _ _ hl',bW (by rw[length_map];omega),rfl,λb u e=> ?_,ps++[q],?_,?_⟩
   ·rw[aY (bH e hl)];exact s2 _ _ (hs _ _ e)
   ·rw[aJ,map_append];rfl
   ·rw[take_succ,hc,map_append];refine PlAt.snoc (Paired.mapP hP λp c' e=> ?_) (by rw[aY hlq,aJ];rfl);have e':=s2 _ _ e;rw[aY (λz=>by rw[z,s2 _ _ hl']at e';cases e')];exact e'
 ·rintro σ H' ⟨_,hs,ps,hl',hP⟩;rw[length_map,hlen,take_of_length_le (zjQ _)]at hP;exact hQ σ H' ps hs hl' hP
noncomputable def E3 (R:V->V->Bool->Prop):List V->List V->List Bool->Prop
 | [],[],[]=>True
 |x::xs,y::ys,k::ks=>R x y k/\E3 R xs ys ks
 |_,_,_=>False
noncomputable def EqF (a b:V)(k:Bool):Prop:=(∃i j,a= .int i/\b= .int j/\k=decide (i=j))\/ ∃x y,a= .str x/\b= .str y/\k=decide (x=y)
noncomputable def EqD (H:Hp):Nat->V->V->Bool->Prop
 |0,a,b,k=>EqF a b k
 |n+1,a,b,k=>EqF a b k\/ ∃p q xs ys ks,a= .ref p/\b= .ref q/\((H p=some (.tup xs)/\H q=some (.tup ys))\/(H p=some (.lst xs)/\H q=some (.lst ys)))/\E3 (EqD H n) xs ys ks/\k=ks.all id
theorem E3.len:∀{xs ys:List V}{ks:List Bool},E3 R xs ys ks->xs.length=ys.length/\xs.length=ks.length
 | [],[],[],_=> ⟨rfl,rfl⟩
 |x::xs,y::ys,k::ks,h=>by
  have:=E3.len h.2;simp only[length_cons];omega
 | [],[],_::_,h=>h.elim
 | [],_::_,_,h=>h.elim
 |_::_,[],_,h=>h.elim
 |_::_,_::_,[],h=>h.elim
theorem E3.get:∀{xs ys:List V}{ks:List Bool}{i:Nat}{x y:V},E3 R xs ys ks->xs[i]?=some x->ys[i]?=some y->∃k,ks[i]?=some k/\R x y k
 |x::xs,y::ys,k::ks,0,_,_,h,h1,h2=>by cases h1;cases h2;exact⟨k,rfl,h.1⟩
 |x::xs,y::ys,k::ks,i+1,_,_,h,h1,h2=>E3.get (i:=i) h.2 (by simpa using h1) (by simpa using h2)
 | [],_,_,_,_,_,_,h1,_=>by simp at h1
 |_::_,[],_,_,_,_,h,_,_=>h.elim
 |_::_,_::_,[],_,_,_,h,_,_=>h.elim
theorem EqF.refl_true (h:EqF a a k):k=true:=by
 rcases h with⟨i,j,h1,h2,h3⟩| ⟨x,y,h1,h2,h3⟩
 ·rw[h1]at h2;rw[h3,V.int.inj h2];simp
 ·rw[h1]at h2;rw[h3,V.str.inj h2];simp
theorem EqD.refl_true:∀{n:Nat}{a:V}{k:Bool},EqD H n a a k->k=true
 |0,a,k,h=>EqF.refl_true h
 |n+1,a,k,h=>by
  rcases h with h| ⟨p,q,xs,ys,ks,h1,h2,h3,h4,h5⟩
  ·exact EqF.refl_true h
  ·rw[h1]at h2;cases h2;have e:xs=ys:=by
    rcases h3 with⟨u,v⟩| ⟨u,v⟩
    ·rw[u]at v;cases v;rfl
    ·rw[u]at v;cases v;rfl
   subst e;rw[h5,all_eq_true];have go:∀{xs:List V}{ks:List Bool},E3 (EqD H n) xs xs ks->∀k∈ks,id k=true:=fun{xs ks}=>by
    induction xs generalizing ks with
    |nil=>intro h k hk;cases ks with|nil=>cases hk|cons _ _=>exact h.elim
    |cons x xs ih=>
     intro h k hk;cases ks with
     |nil=>cases hk
     |cons k0 ks=>
      rcases mem_cons.mp hk with z|z
      ·rw[z];exact EqD.refl_true h.1
      ·exact ih h.2 k z
   exact go h4
theorem EqD.int (n:Nat)(i j:Int):EqD H n (.int i) (.int j) (decide (i=j)):=by
 cases n with
 |zero=>exact .inl ⟨i,j,rfl,rfl,rfl⟩
 |succ n=>exact .inl (.inl ⟨i,j,rfl,rfl,rfl⟩)
section
theorem A1n (ks:List Bool):(List.range ks.length).all (λj=>ks.getD j true)=ks.all id:=by
 rw[Bool.eq_iff_iff,all_eq_true,all_eq_true];constructor
 ·intro h k hk;obtain⟨j,hj,e⟩:=getElem_of_mem hk;have:=h j (by simpa using hj);rw[show ks.getD j true=ks[j] by simp[hj],e]at this;exact this
 ·intro h j hj;have hj':j<ks.length:=by simpa using hj
  rw[show ks.getD j true=ks[j] by simp[hj']];exact h _ (getElem_mem _)
theorem oH (ih:∀{a b:V}{k:Bool}{u v:Value},EqD H n a b k->RelV a u->RelV b v->SeqAt.EqAt A s u v k)(h4:E3 (EqD H n) xs ys ks)(r1:Vals xs us)(r2:Vals ys ws):
  ∀j (h1:j<us.toArray.size)(h2:j<ws.toArray.size),SeqAt.EqAt A s us.toArray[j] ws.toArray[j] (ks.getD j true):=λj h1 h2=>by
 have hl:=h4.len;have l1:=r1.length;have l2:=r2.length;rw[size_toArray]at h1 h2;have j1:j<xs.length:=by omega
 have j2:j<ys.length:=by omega
 obtain⟨u,hu,ru⟩:=r1.get (getElem?_eq_getElem j1);obtain⟨v,hv,rv⟩:=r2.get (getElem?_eq_getElem j2);obtain⟨k,hk,e⟩:=h4.get (getElem?_eq_getElem j1) (getElem?_eq_getElem j2);have eu:us.toArray[j]=u:=by
  have:=(zjW.mp hu).2;simpa using this
 have ev:ws.toArray[j]=v:=by
  have:=(zjW.mp hv).2;simpa using this
 rw[eu,ev,show ks.getD j true=k by rw[getD_eq_getElem?_getD,hk];rfl];exact ih e ru rv
theorem oU (I:Inv X pins σ H s)(hu:A.units<cLine)(ih:∀{a b:V}{k:Bool}{u v:Value},EqD H n a b k->RelV a u->RelV b v->SeqAt.EqAt A.in1 s u v k)
  (h3:(H p=some (.tup xs)/\H q=some (.tup ys))\/(H p=some (.lst xs)/\H q=some (.lst ys)))(h4:E3 (EqD H n) xs ys ks):SeqAt.RcAt A s (.ref p) (.ref q) (ks.all id)/\SeqAt.RcNeAt A s (.ref p) (.ref q) (!ks.all id):=by
 have hl:=h4.len;rcases h3 with⟨hp,hq⟩| ⟨hp,hq⟩
 ·obtain⟨us,r1,p1,_⟩:=I.tuple (SqT.of hp);obtain⟨ws,r2,p2,_⟩:=I.tuple (SqT.of hq);have l1:=r1.length;have l2:=r2.length;have e:((List.range (min us.toArray.size ws.toArray.size)).all (λj=>ks.getD j true)&&us.toArray.size==ws.toArray.size)=ks.all id:=by
   rw[size_toArray,size_toArray,show min us.length ws.length=ks.length by omega,A1n,show us.length=ws.length by omega];simp
  have k1:=SeqAt.RcAt.tuples p1 p2 hu (oH ih h4 r1 r2);have k2:=SeqAt.RcNeAt.tuples p1 p2 hu (oH ih h4 r1 r2);rw[e]at k1 k2;exact⟨k1,k2⟩
 ·obtain⟨us,r1,p1,_⟩:=I.list (SqL.of hp);obtain⟨ws,r2,p2,_⟩:=I.list (SqL.of hq);have l1:=r1.length;have l2:=r2.length;have e:(List.range us.toArray.size).all (λj=>ks.getD j true)=ks.all id:=by rw[size_toArray,show us.length=ks.length by omega,A1n]
  have hz:us.toArray.size=ws.toArray.size:=by rw[size_toArray,size_toArray];omega
  have k1:=SeqAt.RcAt.lists p1.isList p2.isList hz hu (oH ih h4 r1 r2);have k2:=SeqAt.RcNeAt.lists p1.isList p2.isList hz hu (oH ih h4 r1 r2);rw[e]at k1 k2;exact⟨k1,k2⟩
theorem qI (I:Inv X pins σ H s):∀{n:Nat}{A:Around}{a b:V}{k:Bool}{u v:Value},A.units+n<cLine->EqD H n a b k->RelV a u->RelV b v->SeqAt.EqAt A s u v k:=by
 have flat:∀{A:Around}{a b:V}{k:Bool}{u v:Value},EqF a b k->RelV a u->RelV b v->SeqAt.EqAt A s u v k:=fun{A a b k u v} h ra rb=>by
  rcases h with⟨i,j,rfl,rfl,rfl⟩| ⟨x,y,rfl,rfl,rfl⟩
  ·obtain⟨t,rfl⟩:=ra;obtain⟨t',rfl⟩:=rb;have:=SeqAt.EqAt.int_int (A:=A) (s:=s) i t j t'
   rwa [show(i==j)=decide (i=j) by rw[Bool.eq_iff_iff];simp]at this
  ·obtain⟨t,rfl⟩:=ra;obtain⟨t',rfl⟩:=rb;have:=SeqAt.EqAt.str_str (A:=A) (s:=s) x t y t'
   rwa [show(x==y)=decide (x=y) by rw[Bool.eq_iff_iff];simp]at this
 intro n
 induction n with
 |zero=>intro A a b k u v _ h ra rb;exact flat h ra rb
 |succ n ih=>
  intro A a b k u v hu h ra rb;rcases h with h| ⟨p,q,xs,ys,ks,rfl,rfl,h3,h4,rfl⟩
  ·exact flat h ra rb
  ·cases ra;cases rb;by_cases hpq:p=q
   ·subst hpq;have:(ks.all id)=true:=EqD.refl_true (n:=n+1) (H:=H) (a:=.ref p) (.inr ⟨p,p,xs,ys,ks,rfl,rfl,h3,h4,rfl⟩);rw[this];exact SeqAt.EqAt.same _
   ·exact SeqAt.EqAt.of_refs hpq (oU I (by omega) (λe r1 r2=>ih (show A.in1.units+n<cLine by show A.units+1+n<cLine;omega) e r1 r2) h3 h4).1
end
section
noncomputable def xP (n:Nat)(g:Bool->Bool):R2:=λx y H Q=> ∃p q xs ys ks,x= .ref p/\y= .ref q/\((H p=some (.tup xs)/\H q=some (.tup ys))\/(H p=some (.lst xs)/\H q=some (.lst ys)))/\E3 (EqD H n) xs ys ks/\Q (.bl (g (ks.all id))) H
theorem A3q (n:Nat)(hu:X.A.units+n+1<cLine):OpR X (compareOp .Eq) (xP n id):=by intro pins s σ H x y v u Q I rx ry h;obtain⟨p,q,xs,ys,ks,rfl,rfl,h3,h4,hq⟩:=h;cases rx;cases ry;exact(oU I (by omega) (λe r1 r2=>qI I (show X.A.in1.units+n<cLine by show X.A.units+1+n<cLine;omega) e r1 r2) h3 h4).1 X.prog X.w X.xe _ ⟨.bl _,H,I,rfl,hq⟩
theorem A4s (n:Nat)(hu:X.A.units+n+1<cLine):OpR X (compareOp .NotEq) (xP n not):=by intro pins s σ H x y v u Q I rx ry h;obtain⟨p,q,xs,ys,ks,rfl,rfl,h3,h4,hq⟩:=h;cases rx;cases ry;exact(oU I (by omega) (λe r1 r2=>qI I (show X.A.in1.units+n<cLine by show X.A.units+1+n<cLine;omega) e r1 r2) h3 h4).2 X.prog X.w X.xe _ ⟨.bl _,H,I,rfl,hq⟩
noncomputable def zW (n:Nat)(g:Bool->Bool):R2:=λx y H Q=> ∃q xs ks,y= .ref q/\(H q=some (.tup xs)\/H q=some (.lst xs))/\E3 (EqD H n) xs (xs.map λ_=>x) ks/\Q (.bl (g (ks.any id))) H
theorem A1t:∀{a b:V}{u:Value},RelV a u->RelV b u->a=b:=fun{a b u} ha hb=>by
 cases a<;>cases b<;>simp only[RelV]at ha hb<;>first
  |rfl
  | (subst ha;cases hb;rfl)
  | (subst ha;cases hb;done)
  | (obtain⟨t,rfl⟩:=ha;obtain⟨t',e⟩:=hb;cases e;rfl)
  | (obtain⟨t,rfl⟩:=ha;obtain⟨t',e⟩:=hb;cases e;done)
  | (obtain⟨t,rfl⟩:=ha;cases hb;done)
  | (obtain⟨t,rfl⟩:=hb;cases ha;done)
theorem EqF.func (h:EqF a b k)(h':EqF a b k'):k=k':=by
 rcases h with⟨i,j,rfl,rfl,rfl⟩| ⟨x,y,rfl,rfl,rfl⟩
 ·rcases h' with⟨i',j',h1,h2,rfl⟩| ⟨x,y,h1,h2,rfl⟩
  ·cases h1;cases h2;rfl
  ·cases h1
 ·rcases h' with⟨i',j',h1,h2,rfl⟩| ⟨x',y',h1,h2,rfl⟩
  ·cases h1
  ·cases h1;cases h2;rfl
theorem EqF.noref (h:EqF (.ref p) b k):False:=by rcases h with⟨i,j,h1,_⟩| ⟨x,y,h1,_⟩<;>cases h1
theorem EqD.func:∀{n:Nat}{a b:V}{k k':Bool},EqD H n a b k->EqD H n a b k'->k=k'
 |0,a,b,k,k',h,h'=>EqF.func h h'
 |n+1,a,b,k,k',h,h'=>by
  rcases h with h| ⟨p,q,xs,ys,ks,rfl,rfl,h3,h4,rfl⟩
  ·rcases h' with h'| ⟨p,q,xs,ys,ks,rfl,rfl,h3,h4,rfl⟩
   ·exact EqF.func h h'
   ·exact h.noref.elim
  ·rcases h' with h'| ⟨p',q',xs',ys',ks',e1,e2,h3',h4',rfl⟩
   ·exact h'.noref.elim
   ·cases e1;cases e2;have ex:xs=xs'/\ys=ys':=by
     rcases h3 with⟨u,v⟩| ⟨u,v⟩<;>rcases h3' with⟨u',v'⟩| ⟨u',v'⟩<;>rw[u]at u'<;>rw[v]at v'<;>cases u'<;>cases v'<;>exact⟨rfl,rfl⟩
    obtain⟨rfl,rfl⟩:=ex;have go:∀{xs ys:List V}{ks ks':List Bool},E3 (EqD H n) xs ys ks->E3 (EqD H n) xs ys ks'->ks=ks':=fun{xs}=>by
     induction xs with
     |nil=>
      intro ys ks ks' g g';cases ys with
      |nil=>
       cases ks with
       |nil=>cases ks' with|nil=>rfl|cons _ _=>exact g'.elim
       |cons _ _=>exact g.elim
      |cons _ _=>exact g.elim
     |cons x xs ih=>
      intro ys ks ks' g g';cases ys with
      |nil=>exact g.elim
      |cons y ys=>
       cases ks with
       |nil=>exact g.elim
       |cons k ks=>
        cases ks' with
        |nil=>exact g'.elim
        |cons k' ks'=>rw[EqD.func g.1 g'.1,ih g.2 g'.2]
    rw[go h4 h4']
open Classical in
theorem uA (he:∀a u k,RelV a u->EqD H n a x k->e u=k):∀{xs:List V}{us:List Value}{ks:List Bool},Vals xs us->E3 (EqD H n) xs (xs.map λ_=>x) ks->us.any e=ks.any id
 | [],_,[],.nil,_=>rfl
 | [],_,_::_,.nil,h=>h.elim
 |y::xs,_,k::ks,.cons r t,h=>by
  rw[any_cons,any_cons,he _ _ _ r h.1,uA he t h.2];rfl
 |_::_,_,[],.cons _ _,h=>h.elim
open Classical in
theorem nF (I:Inv X pins σ H s)(hu:A.units+n<cLine)(rx:RelV x v)(r:Vals xs us)(h:E3 (EqD H n) xs (xs.map λ_=>x) ks):
  ∃e:Value->Bool,(∀y∈us,SeqAt.EqAt A s y v (e y))/\us.any e=ks.any id:=by
 refine⟨λy=>decide (∃a,RelV a y/\EqD H n a x true),λy hy=> ?_,uA (λa u k ra hk=> ?_) r h⟩
 ·obtain⟨j,hj,e⟩:=getElem_of_mem hy;have hl:=r.length;have hjx:j<xs.length:=by omega
  obtain⟨u,hu',ru⟩:=r.get (getElem?_eq_getElem hjx);have eu:u=y:=by
   rw[getElem?_eq_getElem hj,e]at hu';exact(Option.some.inj hu').symm
  subst eu;obtain⟨k,hk,ek⟩:=h.get (getElem?_eq_getElem hjx) (y:=x) (by rw[getElem?_map,getElem?_eq_getElem hjx];rfl);have:decide (∃a,RelV a u/\EqD H n a x true)=k:=by
   cases k with
   |true=>exact zjV ⟨_,ru,ek⟩
   |false=>
    refine zjU ?_;rintro⟨a,ra,ea⟩;have:=A1t ra ru;subst this;cases EqD.func ek ea
  show SeqAt.EqAt A s u v (decide (∃a,RelV a u/\EqD H n a x true));rw[this];exact qI I hu ek ru rx
 ·cases k with
  |true=>exact zjV ⟨a,ra,hk⟩
  |false=>
   refine zjU ?_;rintro⟨b,rb,eb⟩;have:=A1t rb ra;subst this;cases EqD.func hk eb
theorem tL (n:Nat)(hu:X.A.units+n+1<cLine):OpR X (compareOp .In) (zW n id):=by
 intro pins s σ H x y v u Q I rx ry h;obtain⟨q,xs,ks,rfl,hq,h4,hQ⟩:=h;cases ry;have hu':X.A.in1.units+n<cLine:=by show X.A.units+1+n<cLine;omega
 rcases hq with hq|hq
 ·obtain⟨us,r,p,_⟩:=I.tuple (SqT.of hq);obtain⟨e,e1,e2⟩:=nF I hu' rx r h4;refine SeqAt.in_tupleAt e p (λy hy=>e1 y (by simpa using hy)) ⟨.bl _,H,I,rfl,?_⟩;rw[show us.toArray.any e=us.any e by simp,e2];exact hQ
 ·obtain⟨us,r,p,_⟩:=I.list (SqL.of hq);obtain⟨e,e1,e2⟩:=nF I hu' rx r h4;refine SeqAt.in_listAt e p.isList (λy hy=>e1 y (by simpa using hy)) ⟨.bl _,H,I,rfl,?_⟩;rw[show us.toArray.any e=us.any e by simp,e2];exact hQ
theorem wY (n:Nat)(hu:X.A.units+n+1<cLine):OpR X (compareOp .NotIn) (zW n not):=by
 intro pins s σ H x y v u Q I rx ry h;obtain⟨q,xs,ks,rfl,hq,h4,hQ⟩:=h;cases ry;have hu':X.A.in1.units+n<cLine:=by show X.A.units+1+n<cLine;omega
 rcases hq with hq|hq
 ·obtain⟨us,r,p,_⟩:=I.tuple (SqT.of hq);obtain⟨e,e1,e2⟩:=nF I hu' rx r h4;refine SeqAt.notIn_tupleAt e p (λy hy=>e1 y (by simpa using hy)) ⟨.bl _,H,I,rfl,?_⟩;rw[show us.toArray.any e=us.any e by simp,e2];exact hQ
 ·obtain⟨us,r,p,_⟩:=I.list (SqL.of hq);obtain⟨e,e1,e2⟩:=nF I hu' rx r h4;refine SeqAt.notIn_listAt e p.isList (λy hy=>e1 y (by simpa using hy)) ⟨.bl _,H,I,rfl,?_⟩;rw[show us.toArray.any e=us.any e by simp,e2];exact hQ
end
end L2
namespace PySem.SeqAt
open AutoSeq1 (wpAny_loadPart')
open MeetsSeq MeetsSeq2 MeetsSeq3 SeqRoads2
end PySem.SeqAt
namespace L2
open PySem PySem.Spec PyProof.Rows
section
end
end L2
namespace Grd
open PySem PyProof.Rows
noncomputable def ltP (c d:Int×Int):Prop:=HT.lexLt [c.1,c.2] [d.1,d.2]=true
theorem A5d (h:j<k):ltP (r,j) (r,k):=by unfold ltP;rw[HT.lexLt_cons,if_pos rfl,HT.lexLt_cons,if_neg (by show¬j=k;omega)];exact zjV h
theorem A5c (h:r<s):ltP (r,j) (s,k):=by unfold ltP;rw[HT.lexLt_cons,if_neg (by show¬r=s;omega)];exact zjV h
theorem A0f (xs:List α):xs.zipIdx.Pairwise λa b=>a.2<b.2:=by rw[pairwise_iff_getElem];intro i j hi hj hij;simp only[List.getElem_zipIdx];omega
theorem A21 (f:Int->Bool)(r:Int)(xs:List Int):(fA f r xs).Pairwise ltP:=by
 unfold fA;rw[List.pairwise_filterMap];refine(A0f xs).imp fun{a b} h c hc d hd=> ?_;cases ha:f a.1 with
 |false=>simp[ha]at hc
 |true=>
  cases hb:f b.1 with
  |false=>simp[hb]at hd
  |true=>
   simp only[ha,if_true,Option.some.injEq]at hc;simp only[hb,if_true,Option.some.injEq]at hd;subst hc hd;exact A5d (by omega)
theorem nN (f:Int->Bool)(g:bI):(aN f g).Pairwise ltP:=by
 unfold aN;rw[List.pairwise_flatten];refine⟨λl hl=> ?_,?_⟩
 ·obtain⟨p,_,rfl⟩:=mem_map.mp hl;exact A21 _ _ _
 ·rw[pairwise_map];refine(A0f g).imp fun{a b} h c hc d hd=> ?_;obtain⟨e1,_⟩:=mem_rowF.mp hc;obtain⟨e2,_⟩:=mem_rowF.mp hd;obtain⟨c1,c2⟩:=c;obtain⟨d1,d2⟩:=d;dsimp only at e1 e2;subst e1 e2;exact A5c (by omega)
noncomputable def LandOf (g:bI)(cs:List (Int×Int)):Prop:=cs.Sublist (aN pos g)
end Grd
namespace L2
open PySem Grd
theorem PlAt.at:∀{ps:List Addr}{cs:List (Int×Int)}{i:Nat}{p:Addr},PlAt H ps cs->ps[i]?=some p->∃c,cs[i]?=some c/\H p=some (.tup [.int c.1,.int c.2])
 |_,_,0,_,.cons r _,h=>by cases h;exact⟨_,rfl,r⟩
 |_,_,i+1,_,.cons _ t,h=>PlAt.at (i:=i) t (by simpa using h)
theorem eI {ps:List Addr}{i:Nat}{x:V}(h:(ps.map V.ref)[i]?=some x):∃p,ps[i]?=some p/\x= .ref p:=by
 rw[getElem?_map]at h;cases e:ps[i]? with
 |none=>rw[e]at h;cases h
 |some p=>rw[e]at h;exact⟨p,rfl,(Option.some.inj h).symm⟩
end L2
namespace L2
open PySem PySem.Spec PyProof.Rows Grd Wlk
section
theorem lY {x pos}(he:PE X (.Name x pos) te)(hr:PAq X es t):PAq X (.Name x pos::es) (dM te t):=by unfold PAq at*;exact aG he hr
end
noncomputable abbrev PlA (H:Hp)(p:Addr)(c:Int×Int):Prop:=H p=some (.tup [.int c.1,.int c.2])
theorem PlA.put (hl:H l=some (.lst xs))(h:PlA H p c):PlA (upd H l (.lst ys)) p c:=by have h':H p=some (.tup [.int c.1,.int c.2]):=h;show upd H l (.lst ys) p=_;rw[aY (λz=>by rw[z,hl]at h';cases h')];exact h
theorem A6s (h:t σ H λxs H1=>xs.length<=sizeLine/\∀p,H1 p=none->D.rt (.ref p) (upd H1 p (.lst xs))):oV (pA t) D σ H:=h
theorem eL (hr:Room k A):A.units+1+1<cLine:=lt_of_le_of_lt (Nat.add_le_add_left (by decide:2<=64) _) hr.units
theorem B1k (h1:PlA H p c)(h2:PlA H q d)(n:Nat):EqD H (n+1) (.ref p) (.ref q) (decide (c=d)):=by refine .inr ⟨p,q,_,_,[decide (c.1=d.1),decide (c.2=d.2)],rfl,rfl,.inl ⟨h1,h2⟩,⟨EqD.int _ _ _,EqD.int _ _ _,trivial⟩,?_⟩;rw[Bool.eq_iff_iff];simp[Prod.ext_iff]
theorem jZ (h:PlA H q d):∀{ps:List Addr}{cs:List (Int×Int)},PlAt H ps cs->E3 (EqD H 1) (ps.map V.ref) ((ps.map V.ref).map λ_=>V.ref q) (cs.map λc=>decide (c=d))
 | [],[],.nil=>trivial
 |_::_,_::_,.cons r t=> ⟨B1k r h 0,jZ h t⟩
theorem qX [DecidableEq α](l:List α)(x:α):(l.map λc=>decide (c=x)).any id=decide (x∈l):=by rw[Bool.eq_iff_iff,any_map];simp
end L2
namespace Wlk
open PySem PyProof.Rows Srt
noncomputable abbrev f2 (s:fU):List Int:=fl [s.1,s.2]
end Wlk
namespace Wlk
open PySem PyProof.Rows Srt Cyc Grd
noncomputable def rc (s:fU):Pl:=if s.2.2=s.1.2+1 then s.1 else if s.2.1=s.1.1+1 then(s.1.1,s.1.2 - 1)else if s.2.2=s.1.2 - 1 then(s.1.1 - 1,s.1.2 - 1)else(s.1.1 - 1,s.1.2)
section
noncomputable def gone (ss:List fU):List (List fU)×List fU:=ss.foldl (stF (orb (nxt ss))) ([],[])
end
section
end
noncomputable def eC (land:List Pl)(x y:Int)(c:Pl):Nat:=(if c.1=x/\c.2+1<=y/\(c.1,c.2+1)∉land then 1 else 0)+(if c.1=x/\c.2<=y/\(c.1,c.2 - 1)∉land then 1 else 0)
noncomputable def turn (s:fU):Int:=s.1.1*s.2.2 - s.2.1*s.1.2
noncomputable def beside (c:Pl):List Pl:=[(c.1 - 1,c.2),(c.1,c.2 - 1),(c.1,c.2+1),(c.1+1,c.2)]
theorem kP (h:d∈beside c):c∈beside d:=by
 obtain⟨a,b⟩:=c;unfold beside at h⊢;simp only[mem_cons,not_mem_nil,or_false]at h⊢;rcases h with rfl|rfl|rfl|rfl
 ·right;right;right;simp
 ·right;right;left;simp
 ·right;left;simp
 ·left;simp
noncomputable def iU (land P:List Pl):Prop:=∀x∈P,∀y∈beside x,y∈land->y∈P
structure oG (land:List Pl)(s:Pl)(P:List Pl):Prop where
 sub:∀x∈P,x∈land
 st:s∈P
 cl:iU land P
 min:∀C,iU land C->(∃x∈P,x∈C)->s∈C
 up:P.Pairwise ltP
noncomputable def nb (land R:List Pl)(x:Pl):List Pl:=(beside x).filter λy=>decide (y∈land)&& !decide (y∈R)
structure Rch (land:List Pl)(s:Pl)(R:List Pl)(k:Nat):Prop where
 sub:∀x∈R,x∈land
 nd:R.Nodup
 st:s∈R
 done:∀i x,i<k->R[i]?=some x->∀y∈beside x,y∈land->y∈R
 min:∀C,iU land C->∀x∈R,x∈C->s∈C
 le:k<=R.length
theorem A42 (x:Pl):(beside x).Nodup:=by obtain⟨a,b⟩:=x;unfold beside;simp only[nodup_cons,mem_cons,not_mem_nil,or_false,Prod.mk.injEq,not_or,not_false_eq_true,nodup_nil,and_true];omega
theorem mem_nb {land R:List Pl}{x y:Pl}:y∈nb land R x↔y∈beside x/\y∈land/\y∉R:=by unfold nb;rw[mem_filter];simp
theorem Rch.start (h:s∈land):Rch land s [s] 0:=
 ⟨λx hx=>by rw[mem_singleton.mp hx];exact h,by simp,zjR,λi _ hi=>absurd hi (Nat.not_lt_zero i),λC _ x hx hC=>by rw[mem_singleton.mp hx]at hC;exact hC,zero_le _⟩
theorem Rch.step {land R:List Pl}{s x:Pl}{k:Nat}(h:Rch land s R k)(hx:R[k]?=some x):Rch land s (R++nb land R x) (k+1):=by
 have hk:k<R.length:=(zjW.mp hx).1;refine⟨λy hy=> ?_,?_,mem_append_left _ h.st,λi y hi hy z hz hzl=> ?_,λC hC y hy hyC=> ?_,by rw[length_append];omega⟩
 ·rcases mem_append.mp hy with e|e
  ·exact h.sub y e
  ·exact(mem_nb.mp e).2.1
 ·rw[nodup_append];refine⟨h.nd,(A42 x).sublist filter_sublist,λa ha b hb e=> ?_⟩;subst e;exact(mem_nb.mp hb).2.2 ha
 ·rw[getElem?_append_left (by omega)]at hy;by_cases e:z∈R
  ·exact mem_append_left _ e
  ·rcases lt_or_ge i k with u|u
   ·exact absurd (h.done i y u hy z hz hzl) e
   ·have:i=k:=by omega
    rw[this,hx]at hy;cases hy;exact mem_append_right _ (mem_nb.mpr ⟨hz,hzl,e⟩)
 ·rcases mem_append.mp hy with e|e
  ·exact h.min C hC y e hyC
  ·have hxR:=mem_of_getElem? hx;exact h.min C hC x hxR (hC y hyC x (kP (mem_nb.mp e).1) (h.sub x hxR))
theorem Rch.len {land R:List Pl}{s:Pl}{k:Nat}(h:Rch land s R k):R.length<=land.length:=jE h.nd h.sub
theorem Rch.fin {land R P:List Pl}{s:Pl}{k:Nat}(h:Rch land s R k)(hk:R.length<=k)(hp:P.Perm R)(hs:P.Pairwise λa b=>HT.lexLt [b.1,b.2] [a.1,a.2]=false):oG land s P:=by
 refine⟨λx hx=>h.sub x (hp.mem_iff.mp hx),hp.mem_iff.mpr h.st,λx hx y hy hl=> ?_,λC hC ⟨x,hx,hxC⟩=>h.min C hC x (hp.mem_iff.mp hx) hxC,?_⟩
 ·obtain⟨i,hi,e⟩:=mem_iff_getElem.mp (hp.mem_iff.mp hx);exact hp.mem_iff.mpr (h.done i x (by omega) (zjW.mpr ⟨hi,e⟩) y hy hl)
 ·have hnd:P.Nodup:=hp.nodup_iff.mpr h.nd;refine(hs.and (nodup_iff_pairwise_ne.mp hnd)).imp fun{a b} z=> ?_;unfold ltP;cases e:HT.lexLt [a.1,a.2] [b.1,b.2]with
  |true=>rfl
  |false=>
   have:=nW e z.1;refine absurd ?_ z.2;obtain⟨a1,a2⟩:=a;obtain⟨b1,b2⟩:=b;simp only[List.cons.injEq,and_true]at this;rw[this.1,this.2]
end Wlk
namespace M51
open PySem L2 PyProof.Rows Grd Wlk Cyc Srt
noncomputable def qL:Sp:=λvs H Q _=> ∃p c,vs=[.ref p]/\PlA H p c/\∀l qs H',H l=none->Same H H'->H' l=some (.lst ((qs:List Addr).map V.ref))->PlAt H' qs (beside c)->Q (.ref l) H'
section
variable {P:Program}{w:World}{K:W.Frag}{mg:Str->Option Value}{base:Heap}
noncomputable abbrev nBs:List Str:=["place","row","column"]
theorem A53 (F:D1 K mg "places_beside" vZ ["place"]):A1 P w K mg base 1 "places_beside" qL:=by
 refine F.k nBs ?_;ac_nf
 ·obtain⟨p,c,rfl,hp,q⟩:=h;refine⟨_,A2h (eO (pv 0) (bP rfl (bA (nm1 1 nd) (bA (nm1 2 nd) bR))))<|
   A9m (lstq (mU (tupq (oN (bG fK (pv 1) aV) (lY (pv 2) kM))) (mU (tupq (lY (pv 1) (oN (bG fK (pv 2) aV) kM))) (mU (tupq (lY (pv 1) (oN (bG eT (pv 2) aV) kM))) (mU (tupq (oN (bG eT (pv 1) aV) (lY (pv 2) kM))) kM))))),?_⟩
  refine⟨_,rfl,p,_,rfl,SqT.of hp,rfl,_,_,rfl,_,_,rfl,rfl,?_⟩;dsimp only
  refine A6s ?_;refine⟨_,rfl,_,_,rfl,rfl,_,rfl,by show 2<=sizeLine;decide,λp1 h1=> ?_⟩;have s1:=aQ (o:=.tup [.int (c.1 - 1),.int c.2]) h1;refine⟨_,rfl,_,rfl,_,_,rfl,rfl,by show 2<=sizeLine;decide,λp2 h2=> ?_⟩;have s2:=aQ (o:=.tup [.int c.1,.int (c.2 - 1)]) h2;refine⟨_,rfl,_,rfl,_,_,rfl,rfl,by show 2<=sizeLine;decide,λp3 h3=> ?_⟩;have s3:=aQ (o:=.tup [.int c.1,.int (c.2+1)]) h3;refine⟨_,rfl,_,_,rfl,rfl,_,rfl,by show 2<=sizeLine;decide,λp4 h4=> ?_⟩;have s4:=aQ (o:=.tup [.int (c.1+1),.int c.2]) h4;refine⟨by show 4<=sizeLine;decide,λl hl=> ?_⟩;have s5:=aQ (o:=.lst [.ref p1,.ref p2,.ref p3,.ref p4]) hl;have s14:=((s1.trans s2).trans s3).trans s4;exact q l [p1,p2,p3,p4] _ (s14.free hl) (s14.trans s5) aJ (.cons (s5 _ _ (s4 _ _ (s3 _ _ (s2 _ _ aJ)))) (.cons (s5 _ _ (s4 _ _ (s3 _ _ aJ))) (.cons (s5 _ _ (s4 _ _ aJ)) (.cons (s5 _ _ aJ) .nil))))
end
theorem A1q (h:PlAt H ps cs)(h':PlAt H qs ds):PlAt H (ps++qs) (cs++ds):=by
 induction h with
 |nil=>exact h'
 |cons r t ih=>exact .cons r ih
theorem LandOf.len (G:cU g w)(h:LandOf g cs):cs.length<=10:=by have:=List.Sublist.length_le h;rw[eU]at this;have:=G.c10;omega
noncomputable def unP (l:List Int):Pl:=(l.getD 0 0,l.getD 1 0)
theorem A1z {X:Cx}{H:Hp}{l:Addr}{qs:List Addr}{R:List Pl}{Q:VK}(hl:H l=some (.lst (qs.map V.ref)))(hP:PlAt H qs R)(h40:R.length<=40)(q:∀l9 qs' R' H',H l9=none->Same H H'->H' l9=some (.lst ((qs':List Addr).map V.ref))->PlAt H' qs' R'->R'.Perm R->R'.Pairwise (λa b=>HT.lexLt [b.1,b.2] [a.1,a.2]=false)->Q (.ref l9) H'):
  ∃(p:Addr)(zs:List (Addr×List Int)),[V.ref l]=[.ref p]/\SqL X.K H p (zs.map λz=>V.ref z.1)/\(∀z∈zs,H z.1=some (.tup (z.2.map V.int))/\z.2≠[])/\zs.length<64/\∀l zs',H l=none->sR zs zs'->Q (.ref l) (upd H l (.lst (zs'.map λz=>V.ref z.1))):=by
 have hzz:∀{qs:List Addr}{R:List Pl},PlAt H qs R->∃zs:List (Addr×List Int),(zs.map λz=>z.1)=qs/\(zs.map λz=>z.2)=R.map (λs=> [s.1,s.2])/\∀z∈zs,H z.1=some (.tup (z.2.map V.int))/\z.2≠[]:=fun{qs R} h=>by
  induction h with
  |nil=>exact⟨[],rfl,rfl,λz hz=>by cases hz⟩
  |cons r t ih=>
   rename_i q s _ _;obtain⟨zs,i1,i2,i3⟩:=ih;refine⟨(q,[s.1,s.2])::zs,by rw[map_cons,i1],by rw[map_cons,i2];rfl,λz hz=> ?_⟩;rcases mem_cons.mp hz with e|e
   ·rw[e];exact⟨r,by simp⟩
   ·exact i3 z e
 obtain⟨zs,i1,i2,i3⟩:=hzz hP;have un:∀z∈zs,∃s:Pl,z.2=[s.1,s.2]/\unP z.2=s:=λz hz=>by
  have e2:z.2∈zs.map λz=>z.2:=mem_map.mpr ⟨z,hz,rfl⟩;rw[i2]at e2;obtain⟨s,_,es⟩:=mem_map.mp e2;exact⟨s,es.symm,by rw[←es];rfl⟩
 have hzl:zs.length<=40:=by
  have h1:=congrArg List.length i2;rw[length_map,length_map]at h1;omega
 refine⟨l,zs,rfl,SqL.of (by rw[hl,←i1,map_map];rfl),i3,by omega,λl9 zs' hl9 so=> ?_⟩;have s9:=aQ (o:=.lst (zs'.map λz=>V.ref z.1)) hl9;refine q l9 (zs'.map λz=>z.1) (zs'.map λz=>unP z.2) _ hl9 s9 (by rw[aJ,map_map];rfl) ?_ ?_ ?_
 ·have key:∀ys:List (Addr×List Int),(∀z∈ys,z∈zs)->PlAt (upd H l9 (.lst (zs'.map λz=>V.ref z.1))) (ys.map λz=>z.1) (ys.map λz=>unP z.2):=λys=>by
   induction ys with
   |nil=>intro _;exact .nil
   |cons z ys ih=>
    intro hm;refine .cons ?_ (ih λy hy=>hm y (zjS _ hy));have hz:=hm z zjR;obtain⟨s,e1,e2⟩:=un z hz;show PlA _ z.1 (unP z.2);rw[e2];have:=(i3 z hz).1;rw[e1]at this;exact s9 _ _ this
  exact key zs' λz hz=>so.1.mem_iff.mp hz
 ·have h1:=(so.1.map λz=>z.2).map unP;rw[i2,map_map,map_map]at h1;refine h1.trans (List.Perm.of_eq ?_);have:(unP∘λs:Pl=> [s.1,s.2])=id:=rfl;rw[this,map_id]
 ·rw[pairwise_map];refine so.2.imp_of_mem fun{a b} ha hb hab=> ?_;obtain⟨s,e1,e2⟩:=un a (so.1.mem_iff.mp ha);obtain⟨s',e1',e2'⟩:=un b (so.1.mem_iff.mp hb);rw[e1,e1']at hab;rw[e2,e2'];exact hab
noncomputable def vJ:Sp:=λvs H Q _=> ∃t p cs c,vs=[.ref t,.ref p]/\SqA H t cs/\cs.length<=10/\PlA H p c/\c∈cs/\∀t' P H',Same H H'->SqA H' t' P->oG cs c P->Q (.ref t') H'
section
variable {P:Program}{w:World}{K:W.Frag}{mg:Str->Option Value}{base:Heap}
noncomputable abbrev nPr:List Str:=["land","start","reached","at","beside"]
theorem A8d:(["place","land","reached"]:List Str).Nodup:=by decide +kernel
theorem B03 (F:D1 K mg "piece_round" mI ["land","start"])(T:Txt mg)(T2:eE mg)(a1:A1 P w K mg base 1 "places_beside" qL):A1 P w K mg base 2 "piece_round" vJ:=by
  refine F.k nPr ?_;ac_nf
  · obtain⟨t,pa,cs,c,rfl,hT,h10,hp,hc,q⟩:=h
    refine⟨_,aU (bX (i:=2) nd rfl (Or.inr rfl) (cX (aG (pv 1) aB)))<|
      aU (bX (i:=3) nd rfl (Or.inl rfl) aV)<|
      aU (tU PassesOwn.never (bV iQ (pv 3) (bE fF rfl T.len PySem.boot_len (aG (pv 2) aB)) (nomark _))
        (aU (bX (i:=4) nd rfl (Or.inl rfl) (a1.c hr (eX (bJ eR (pv 2) (pv 3) (λ_ _=>rfl)) aB)))<|
         aU (cK (gI PySem.F.plainAttrs_list PySem.F.slot_list_extend PySem.F.type_list_extend qK (pv 2) (cO (bN (bB mI).names nPr ["place"] [("land",0),("reached",2)] rfl (cV (pv 4)) rfl rfl rfl (by decide +kernel)
            (λZ=>nm1 0 A8d) (λZ=>eP (PW.pt (kU (bV (tL 1 (eL hr)) (pv 0) (pv 1) rfl) (lL (bV (wY 1 (eL hr)) (pv 0) (pv 2) rfl))))) (λZ=>pv 0)) aB)))<|
         aM (A60 (i:=3) nd rfl (Or.inl rfl) aV B12)))<|
      aM (bC (fC gD rfl T.tuple boot_tuple (cG (bE wE rfl T2.sorted boot_sorted (aG (pv 2) aB)) aB))),?_⟩
    obtain⟨ts,ht,hP⟩:=hT;refine⟨_,rfl,by show 1<=sizeLine;decide,λlr hlr=> ?_⟩;have s0:=aQ (o:=.lst [.ref pa]) hlr;refine⟨λm σ H'=> ∃k o qs R,m+k=10/\σ=[some (.ref t),some (.ref pa),some (.ref lr),some (.int (k:Nat)),o]/\Same H H'/\H' lr=some (.lst ((qs:List Addr).map V.ref))/\PlAt H' qs R/\Rch cs c R k,
      ⟨10,0,_,[pa],[c],rfl,rfl,s0,aJ,.cons (s0 _ _ hp) .nil,Rch.start hc⟩,?_⟩
    rintro m σ H' ⟨k,o,qs,R,hm,rfl,hs,hlr',hR,rc⟩;have hqR:qs.length=R.length:=Paired.length hR;have hRl:=rc.len;refine⟨_,rfl,_,rfl,lr,_,rfl,.inl (SqL.of hlr'),_,_,rfl,rfl,_,rfl,dW (λz=> ?_) λz=> ?_⟩
    · rw[length_map,hqR]at z
      have hk:k<R.length:=by omega
      have hkq:k<qs.length:=by omega
      have hqk:qs[k]?=some (qs[k]):=getElem?_eq_getElem hkq;obtain⟨x,hx,he⟩:=hR.at hqk;refine⟨λσ' H2=> ∃o qs',σ'=[some (.ref t),some (.ref pa),some (.ref lr),some (.int ((k+1:Nat):Int)),o]/\Same H H2/\H2 lr=some (.lst ((qs':List Addr).map V.ref))/\PlAt H2 qs' (R++nb cs R x),
        λσ' H2 ⟨o,qs',h1,h2,h3,h4⟩=> ⟨m - 1,by omega,k+1,o,qs',_,by omega,h1,h2,h3,h4,rc.step hx⟩,?_⟩
      refine⟨_,rfl,_,rfl,lr,_,_,_,rfl,rfl,SqL.of hlr',cB (v:=V.ref qs[k]) (by rw[getElem?_map,hqk];rfl),?_⟩;refine⟨qs[k],x,rfl,he,λlb bs H2 hlb s2 hlb2 hB=> ?_⟩;have hR2:=hR.same s2;have hlr2:=s2 _ _ hlr';have hP2:=(hP.same hs).same s2;have ht2:=s2 _ _ (hs _ _ ht);have hb4:bs.length=4:=Paired.length hB;refine⟨_,rfl,.inl ⟨rfl,_,SqL.of hlr2⟩,?_⟩;refine⟨_,rfl,lb,rfl,⟨_,SqL.of hlb2⟩,λZ ln hln=> ?_⟩;refine dI (K:=K) (a:=lb) (xs:=bs.map V.ref) (λj σ H3=>(∃o,σ=[o,some (.ref t),some (.ref lr)])/\Same H2 H3/\∃ns,H3 ln=some (.lst ((ns:List Addr).map V.ref))/\PlAt H3 ns (((beside x).take j).filter λy=>decide (y∈cs)&& !decide (y∈R)))
        ⟨⟨_,rfl⟩,aQ hln,[],by rw[aJ];rfl,.nil⟩ (λj σ H3 _ h=>SqL.of (h.2.1 _ _ hlb2)) ?_ ?_
      · rintro j y σ H3 hy ⟨⟨o',rfl⟩,hs3,ns,hn,hN⟩
        obtain⟨b,hbj,rfl⟩:=eI hy;obtain⟨d,hd,hbd⟩:=hB.at hbj;have hj:j<4:=(zjW.mp hd).1;have hbd3:=hs3 _ _ hbd;have hnl:ns.length<=4:=by
          have h1:ns.length=_:=Paired.length hN;have h2:=length_filter_le (λy=>decide (y∈cs)&& !decide (y∈R)) ((beside x).take j);rw[length_take]at h2;omega
        have et:((beside x).take (j+1)).filter (λy=>decide (y∈cs)&& !decide (y∈R))=((beside x).take j).filter (λy=>decide (y∈cs)&& !decide (y∈R))++(if (decide (d∈cs)&& !decide (d∈R))=true then [d]else []):=by
          rw[take_succ,hd,filter_append]
          congr 1
          cases e:(decide (d∈cs)&& !decide (d∈R))
          · simp[e]
          · simp[e]
        rw[et];show cZ _ _ _ [some (.ref b),some (.ref t),some (.ref lr)] H3;refine⟨_,rfl,_,rfl,t,_,_,rfl,.inl (hs3 _ _ ht2),jZ hbd3 (hP2.same hs3),_,rfl,?_⟩;rw[qX];refine cY (λz1'=> ?_) λz1'=> ?_
        · have z1:d∈cs:=by simpa using z1'
          refine⟨_,rfl,_,rfl,lr,_,_,rfl,.inr (hs3 _ _ hlr2),jZ hbd3 (hR2.same hs3),_,rfl,?_⟩;rw[qX];refine cY (λz2'=> ?_) λz2'=> ?_
          · have z2:d∉R:=by simpa using z2'
            rw[if_pos (by rw[zjV z1,zjU z2];rfl)];refine⟨_,rfl,_,hn,bW (by rw[length_map];omega),⟨_,rfl⟩,λb' u e'=> ?_,ns++[b],?_,?_⟩
            · rw[aY (bH e' hln)];exact hs3 _ _ e'
            · rw[aJ,map_append];rfl
            · exact PlAt.snoc (Paired.mapP hN λ_ _ z=>PlA.put hn z) (PlA.put hn hbd3)
          · have z2:d∈R:=by simpa using z2'
            rw[if_neg (by rw[zjV z2];simp),append_nil];exact⟨⟨_,rfl⟩,hs3,ns,hn,hN⟩
        · have z1:d∉cs:=by simpa using z1'
          rw[if_neg (by rw[zjU z1];simp),append_nil];exact⟨⟨_,rfl⟩,hs3,ns,hn,hN⟩
      · rintro σ H3 ⟨⟨o',rfl⟩,hs3,ns,hn,hN⟩
        rw[length_map,hb4]at hN;have hN':PlAt H3 ns (nb cs R x):=hN;have hnl:ns.length<=4:=by
          have h1:ns.length=(nb cs R x).length:=Paired.length hN';have h2:(nb cs R x).length<=(beside x).length:=length_filter_le _ _;have h3:(beside x).length=4:=rfl;omega
        have hlr3:=hs3 _ _ hlr2;refine⟨lr,ln,_,_,rfl,rfl,hlr3,hn,by rw[length_map,length_map,sizeLine_eq];omega,?_⟩;refine⟨_,rfl,_,_,rfl,rfl,⟨_,qs++ns,rfl,λb' u e'=> ?_,by rw[aJ,map_append],?_⟩⟩
        · rw[aY (bH e' hlr)];exact hs3 _ _ (s2 _ _ (hs _ _ e'))
        · exact A1q (Paired.mapP (hR2.same hs3) λ_ _ z=>PlA.put hlr3 z) (Paired.mapP hN' λ_ _ z=>PlA.put hlr3 z)
    · rw[length_map,hqR]at z
      refine⟨_,rfl,?_⟩;refine A1z (X:=(dJ CX0 P w K mg base nPr (Str.ofString "piece_round") (bB mI) f cdv A outer s H E).nox) (Q:=λv H1=> ∃p ys,[v]=[V.ref p]/\((SqL K H1 p ys/\∀l,H1 l=none->Q (.ref l) (upd H1 l (.tup ys)))\/(SqT K H1 p ys/\Q (.ref p) H1))) hlr' hR (by omega) λl9 qs' R' H9 h9 s9 hl9 hR9 pm up=> ?_;refine⟨l9,_,rfl,.inl ⟨SqL.of hl9,λt' ht'=> ?_⟩⟩;have s10:=aQ (o:=.tup (qs'.map V.ref)) ht';exact q t' R' _ ((hs.trans s9).trans s10) ⟨qs',aJ,hR9.same s10⟩ (rc.fin (by omega) pm up)
end
end M51
namespace M51
open PySem L2 PyProof.Rows Grd Wlk Srt
section
variable {P:Program}{w:World}{K:W.Frag}{mg:Str->Option Value}{base:Heap}
theorem zK:(["one","other"]:List Str).Nodup:=by decide +kernel
end
end M51
namespace Wlk
open PySem PyProof.Rows Srt Cyc Grd L2
theorem pZ (a:Pl):¬ltP a a:=λz=>by unfold ltP at z;rw[iL]at z;cases z
theorem A8j (h1:ltP a b)(h2:ltP b c):ltP a c:=nZ h1 h2
theorem B04 {ks rs:List Pl}(hk:ks.Pairwise ltP)(hr:rs.Pairwise ltP)(hm:∀k,k∈ks↔k∈rs):ks=rs:=by
 induction ks generalizing rs with
 |nil=>
  cases rs with
  |nil=>rfl
  |cons r rs=>exact absurd ((hm r).mpr zjR) (by simp)
 |cons k ks ih=>
  cases rs with
  |nil=>exact absurd ((hm k).mp zjR) (by simp)
  |cons r rs=>
   rw[pairwise_cons]at hk hr;have e:k=r:=by
    rcases mem_cons.mp ((hm k).mp zjR)with e|h1
    ·exact e
    ·rcases mem_cons.mp ((hm r).mpr zjR)with e|h2
     ·exact e.symm
     ·exact absurd (A8j (hr.1 k h1) (hk.1 r h2)) (pZ r)
   subst e;rw[ih hk.2 hr.2 λx=> ?_];have nk:∀x,x∈ks->x≠k:=λx hx z=>by subst z;exact pZ x (hk.1 x hx)
   have nr:∀x,x∈rs->x≠k:=λx hx z=>by subst z;exact pZ x (hr.1 x hx)
   constructor
   ·intro hx;rcases mem_cons.mp ((hm x).mp (zjS _ hx))with z|z
    ·exact absurd z (nk x hx)
    ·exact z
   ·intro hx;rcases mem_cons.mp ((hm x).mpr (zjS _ hx))with z|z
    ·exact absurd z (nr x hx)
    ·exact z
noncomputable def xO (cs:List Pl)(b:Bool):Prop:=(cs=[]/\b=false)\/ ∃c0 tl P0,cs=c0::tl/\oG cs c0 P0/\b=decide (P0=cs)
noncomputable def fH (a b:Pl):Bool:=decide ((Int.natAbs (a.1 - b.1):Int)+Int.natAbs (a.2 - b.2)=1)
theorem next_iff:fH a b=true↔a∈beside b:=by obtain⟨a1,a2⟩:=a;obtain⟨b1,b2⟩:=b;unfold fH beside;simp only[decide_eq_true_eq,mem_cons,not_mem_nil,or_false,Prod.mk.injEq];omega
noncomputable def nb2 (land R:List Pl)(x:Pl):List Pl:=land.filter λy=> !decide (y∈R)&&fH y x
theorem A5b {land R:List Pl}{x y:Pl}:y∈nb2 land R x↔y∈beside x/\y∈land/\y∉R:=by
 unfold nb2;rw[mem_filter,Bool.and_eq_true,next_iff];simp;constructor
 ·rintro⟨a,b,c⟩;exact⟨c,a,b⟩
 ·rintro⟨a,b,c⟩;exact⟨b,c,a⟩
end Wlk
namespace L2
open PySem PySem.Spec PyProof.Rows
noncomputable def zA (n:Nat)(g:Bool->Bool):R2:=λx y H Q=> ∃p q xs ys,x= .ref p/\y= .ref q/\H p=some (.lst xs)/\H q=some (.lst ys)/\((xs.length≠ys.length/\Q (.bl (g false)) H)\/ ∃ks,E3 (EqD H n) xs ys ks/\Q (.bl (g (ks.all id))) H)
section
theorem A01 (n:Nat)(hu:X.A.units+n+1<cLine):OpR X (compareOp .Eq) (zA n id):=by
 intro pins s σ H x y v u Q I rx ry h;obtain⟨p,q,xs,ys,rfl,rfl,h1,h2,h4⟩:=h;rcases h4 with⟨hne,hq⟩| ⟨ks,h4,hq⟩
 ·cases rx;cases ry
  ·obtain⟨us,r1,p1,_⟩:=I.list (SqL.of (K:=X.K) h1);obtain⟨ws,r2,p2,_⟩:=I.list (SqL.of (K:=X.K) h2);have l1:=r1.length;have l2:=r2.length;exact SeqAt.RcAt.lists_lengths (A:=X.A) (s:=s) p1.isList p2.isList (by simp;omega) (by omega) X.prog X.w X.xe _ ⟨.bl _,H,I,rfl,hq⟩
 ·exact A3q n hu pins s σ H _ _ v u Q I rx ry ⟨p,q,xs,ys,ks,rfl,rfl,.inr ⟨h1,h2⟩,h4,hq⟩
theorem A59 (n:Nat)(hu:X.A.units+n+1<cLine):OpR X (compareOp .NotEq) (zA n not):=by
 intro pins s σ H x y v u Q I rx ry h;obtain⟨p,q,xs,ys,rfl,rfl,h1,h2,h4⟩:=h;rcases h4 with⟨hne,hq⟩| ⟨ks,h4,hq⟩
 ·cases rx;cases ry
  ·obtain⟨us,r1,p1,_⟩:=I.list (SqL.of (K:=X.K) h1);obtain⟨ws,r2,p2,_⟩:=I.list (SqL.of (K:=X.K) h2);have l1:=r1.length;have l2:=r2.length;exact SeqAt.RcNeAt.lists_lengths (A:=X.A) (s:=s) p1.isList p2.isList (by simp;omega) (by omega) X.prog X.w X.xe _ ⟨.bl _,H,I,rfl,hq⟩
 ·exact A4s n hu pins s σ H _ _ v u Q I rx ry ⟨p,q,xs,ys,ks,rfl,rfl,.inr ⟨h1,h2⟩,h4,hq⟩
end
end L2
namespace L2
open PySem PySem.Spec PyProof.Rows Srt
theorem uT [DecidableEq α](d:α)(cs ds:List α):((List.range (min cs.length ds.length)).all (λj=>decide (cs.getD j d=ds.getD j d))&&cs.length==ds.length)=decide (cs=ds):=by
 rw[Bool.eq_iff_iff,Bool.and_eq_true,all_eq_true,decide_eq_true_eq,beq_iff_eq];constructor
 ·rintro⟨h1,h2⟩;refine ext_getElem h2 λj a b=> ?_;have:=of_decide_eq_true (h1 j (mem_range.mpr (by omega)));simpa [a,b]using this
 ·rintro rfl;exact⟨λj _=>zjV rfl,rfl⟩
theorem gE:∀{l:List α}{m:List β}{i:Nat}{a:α},Paired F l m->l[i]?=some a->∃b,m[i]?=some b/\F a b
 |_,_,0,_,.cons r _,h=>by cases h;exact⟨_,rfl,r⟩
 |_,_,i+1,_,.cons _ t,h=>gE (i:=i) t (by simpa using h)
section
theorem vX (I:Inv X pins σ H s)(hu:A.units+2<cLine)(hp:SqA H p cs)(hq:SqA H q ds):SeqAt.RcAt A s (.ref p) (.ref q) (decide (cs=ds)):=by
 obtain⟨ps,h1,hP⟩:=hp;obtain⟨qs,h2,hQ⟩:=hq;obtain⟨us,r1,p1,_⟩:=I.tuple (SqT.of (K:=X.K) h1);obtain⟨ws,r2,p2,_⟩:=I.tuple (SqT.of (K:=X.K) h2);have e1:=jH r1;have e2:=jH r2;subst e1 e2;have l1:ps.length=cs.length:=Paired.length hP;have l2:qs.length=ds.length:=Paired.length hQ;have k:=SeqAt.RcAt.tuples (A:=A) (s:=s) (e:=λj=>decide (cs.getD j (0,0)=ds.getD j (0,0))) p1 p2 (by omega) (λj g1 g2=>by
  rw[size_toArray,length_map]at g1 g2;obtain⟨c,hc,he⟩:=hP.at (getElem?_eq_getElem g1);obtain⟨d,hd,he2⟩:=hQ.at (getElem?_eq_getElem g2);have ec:cs.getD j (0,0)=c:=by rw[getD_eq_getElem?_getD,hc];rfl
  have ed:ds.getD j (0,0)=d:=by rw[getD_eq_getElem?_getD,hd];rfl
  rw[ec,ed];have a1:(ps.map Value.ref).toArray[j]'(by rw[size_toArray,length_map];exact g1)=Value.ref ps[j]:=by simp
  have a2:(qs.map Value.ref).toArray[j]'(by rw[size_toArray,length_map];exact g2)=Value.ref qs[j]:=by simp
  rw[a1,a2];exact A2p I (show A.units+1<cLine by omega) he he2)
 have e:((List.range (min (ps.map Value.ref).toArray.size (qs.map Value.ref).toArray.size)).all (λj=>decide (cs.getD j (0,0)=ds.getD j (0,0)))&&(ps.map Value.ref).toArray.size==(qs.map Value.ref).toArray.size)=decide (cs=ds):=by
  rw[size_toArray,size_toArray,length_map,length_map,l1,l2];exact uT (0,0) cs ds
 rw[e]at k;exact k
theorem B0w (I:Inv X pins σ H s)(hu:A.units+2<cLine)(hp:SqA H p cs)(hq:SqA H q ds):SeqAt.EqAt A s (.ref p) (.ref q) (decide (cs=ds)):=by
 by_cases e:p=q
 ·subst e;rw[zjV (hp.val hq)];exact SeqAt.EqAt.same _
 ·exact SeqAt.EqAt.of_refs e (vX I hu hp hq)
theorem sP (hu:X.A.units+2<cLine):OpR X (compareOp .Eq) (λx y H Q=> ∃p q cs ds,x= .ref p/\y= .ref q/\SqA H p cs/\SqA H q ds/\Q (.bl (decide (cs=ds))) H):=by intro pins s σ H x y v u Q I rx ry h;obtain⟨p,q,cs,ds,rfl,rfl,h1,h2,hq⟩:=h;cases rx;cases ry;exact vX I hu h1 h2 X.prog X.w X.xe _ ⟨.bl _,H,I,rfl,hq⟩
theorem B2o (hu:X.A.units+3<cLine):OpR X (compareOp .Eq) (λx y H Q=> ∃p q ps qs Ls Ms,x= .ref p/\y= .ref q/\H p=some (.lst ((ps:List Addr).map V.ref))/\H q=some (.lst ((qs:List Addr).map V.ref))/\Paired (SqA H) ps Ls/\Paired (SqA H) qs Ms/\Q (.bl (decide (Ls=Ms))) H):=by
 intro pins s σ H x y v u Q I rx ry h;obtain⟨p,q,ps,qs,Ls,Ms,rfl,rfl,h1,h2,hP,hQ,hq⟩:=h;cases rx;cases ry;obtain⟨us,r1,p1,_⟩:=I.list (SqL.of (K:=X.K) h1);obtain⟨ws,r2,p2,_⟩:=I.list (SqL.of (K:=X.K) h2);have e1:=jH r1;have e2:=jH r2;subst e1 e2;have l1:ps.length=Ls.length:=Paired.length hP;have l2:qs.length=Ms.length:=Paired.length hQ;by_cases el:Ls.length=Ms.length
 ·have k:=SeqAt.RcAt.lists (A:=X.A) (s:=s) (e:=λj=>decide (Ls.getD j []=Ms.getD j [])) p1.isList p2.isList (by simp[l1,l2,el]) (by omega) (λj g1 g2=>by
   rw[size_toArray,length_map]at g1 g2;obtain⟨c,hc,he⟩:=gE hP (getElem?_eq_getElem g1);obtain⟨d,hd,he2⟩:=gE hQ (getElem?_eq_getElem g2);have ec:Ls.getD j []=c:=by rw[getD_eq_getElem?_getD,hc];rfl
   have ed:Ms.getD j []=d:=by rw[getD_eq_getElem?_getD,hd];rfl
   rw[ec,ed];have a1:(ps.map Value.ref).toArray[j]'(by rw[size_toArray,length_map];exact g1)=Value.ref ps[j]:=by simp
   have a2:(qs.map Value.ref).toArray[j]'(by rw[size_toArray,length_map];exact g2)=Value.ref qs[j]:=by simp
   rw[a1,a2];exact B0w I (show X.A.units+1+2<cLine by omega) he he2)
  have e:=uT [] Ls Ms;rw[el,Nat.min_self,beq_self_eq_true,Bool.and_true]at e;rw[show(ps.map Value.ref).toArray.size=Ms.length by simp[l1,el],e]at k;exact k X.prog X.w X.xe _ ⟨.bl _,H,I,rfl,hq⟩
 ·rw[zjU (λz=>el (congrArg List.length z))]at hq;exact SeqAt.RcAt.lists_lengths p1.isList p2.isList (by simp[l1,l2,el]) (by omega) X.prog X.w X.xe _ ⟨.bl _,H,I,rfl,hq⟩
theorem A8m (hu:X.A.units+1<cLine):OpR X (compareOp .NotEq) (λx y H Q=> ∃p q xs,x= .ref p/\y= .ref q/\H p=some (.tup xs)/\H q=some (.tup [])/\Q (.bl (!xs.isEmpty)) H):=by
 intro pins s σ H x y v u Q I rx ry h;obtain⟨p,q,xs,rfl,rfl,h1,h2,hq⟩:=h;cases rx;cases ry;obtain⟨us,r1,p1,_⟩:=I.tuple (SqT.of (K:=X.K) h1);obtain⟨ws,r2,p2,_⟩:=I.tuple (SqT.of (K:=X.K) h2);have e2:ws=[]:=by cases r2;rfl
 subst e2;have l1:=r1.length;have k:=SeqAt.RcNeAt.tuples (A:=X.A) (s:=s) (e:=λ_=>true) p1 p2 (by omega) (λj _ h2=>absurd h2 (by simp));have e:(!((List.range (min us.toArray.size ([]:List Value).toArray.size)).all (λ_=>true)&&us.toArray.size==([]:List Value).toArray.size))= !xs.isEmpty:=by
  cases xs with
  |nil=>cases us with|nil=>rfl|cons _ _=>simp at l1
  |cons _ _=>cases us with|nil=>simp at l1|cons _ _=>simp
 rw[e]at k;exact k X.prog X.w X.xe _ ⟨.bl _,H,I,rfl,hq⟩
end
end L2
namespace M51
open PySem L2 PyProof.Rows Grd Wlk Cyc Srt
theorem qN:bootBuiltins "any" =some (.builtin "any"):=by decide +kernel
theorem vO (l:List (Int×Int))(x:Int×Int):(l.map λc=>decide (c=x)).any id=decide (x∈l):=by rw[Bool.eq_iff_iff,any_map];simp
noncomputable def A0l:Sp:=λvs H Q _=> ∃t cs,vs=[.ref t]/\SqA H t cs/\cs.length<=10/\∀b H',Same H H'->xO cs b->Q (.bl b) H'
section
variable {P:Program}{w:World}{K:W.Frag}{mg:Str->Option Value}{base:Heap}
theorem A70 (F:D1 K mg "is_one_piece" zP ["land"])(a1:A1 P w K mg base 2 "piece_round" vJ):A1 P w K mg base 3 "is_one_piece" A0l:=by
 refine F.k ["land"] ?_;ac_nf
 ·obtain⟨t,cs,rfl,hT,h10,q⟩:=h;obtain⟨ps,ht,hP⟩:=id hT;have hlen:ps.length=cs.length:=Paired.length hP;refine⟨_,aM (bC (fS (eW (A8m (lt_of_succ_lt (eL hr))) (pv 0) (dC aB) (nomark _)) (fX (eW (sP (eL hr)) (a1.c hr (aG (pv 0) (eX (bJ cA (pv 0) aV (λ_ _=>rfl)) aB))) (pv 0) (nomark _))))),?_⟩;refine⟨_,rfl,by show 0<=sizeLine;decide,λz hz=> ?_⟩;have s1:=aQ (o:=.tup []) hz;refine⟨t,z,_,rfl,rfl,s1 _ _ ht,aJ,_,rfl,?_⟩;cases hc:cs with
  |nil=>
   have e:ps=[]:=eq_nil_of_length_eq_zero (by rw[hlen,hc];rfl);subst e;exact q false _ s1 (.inl ⟨hc,rfl⟩)
  |cons c0 tl=>
   rw[hc]at hP;cases hP with
   |cons r0 t0=>
    rename_i p0 ps0;refine fM ?_;refine⟨_,rfl,_,rfl,t,_,0,.ref p0,rfl,rfl,SqT.of (s1 _ _ ht),cB (j:=0) rfl,?_⟩;refine⟨t,p0,cs,c0,rfl,hT.same s1,h10,s1 _ _ r0,by rw[hc];exact zjR,λt' P0 H2 s2 hP0 p0=> ?_⟩;refine⟨_,rfl,t',t,P0,cs,rfl,rfl,hP0,hT.same (s1.trans s2),?_⟩;exact q _ H2 (s1.trans s2) (.inr ⟨c0,tl,P0,hc,p0,rfl⟩)
end
noncomputable def fE (g:bI)(cs:List Pl):Int:=(cs.map (atG g)).sum
noncomputable def fR (g:bI)(c:Pl):Bool:=(beside c).any λd=>decide (d∈aN road g)
noncomputable def wA:Sp:=λvs H Q _=> ∃a g w,vs=[.ref a]/\GridAt H a g/\cU g w/\∀H' l ps,H l=none->Same H H'->H' l=some (.lst ((ps:List Addr).map V.ref))->PlAt H' ps ((aN pos g).filter (fR g))->Q (.ref l) H'
noncomputable def A1b:Sp:=λvs H Q _=> ∃t l cs ps ds,vs=[.ref t,.ref l]/\SqA H t cs/\cs.length<=1000/\H l=some (.lst ((ps:List Addr).map V.ref))/\PlAt H ps ds/\∀H',Same H H'->Q (.bl (cs.any λc=>decide (c∈ds))) H'
noncomputable def uY:Sp:=λvs H Q _=> ∃a t g w cs,vs=[.ref a,.ref t]/\GridAt H a g/\cU g w/\SqA H t cs/\LandOf g cs/\∀H',Same H H'->Q (.int (fE g cs)) H'
section
variable {P:Program}{w:World}{K:W.Frag}{mg:Str->Option Value}{base:Heap}
theorem A98:(["cell","cells"]:List Str).Nodup:=by decide +kernel
theorem A41 (F:D1 K mg "has_some_of" rO ["land","cells"])(T2:eE mg):A1 P w K mg base 1 "has_some_of" A1b:=by
 refine F.k ["land","cells"] ?_;ac_nf
 ·obtain⟨t,lc,cs,qs,ds,rfl,⟨ps,ht,hP⟩,hz,hlc,hD,q⟩:=h;have hlen:ps.length=cs.length:=Paired.length hP;refine⟨_,aM (bC (bE (rN rfl) rfl T2.any qN (cO (bN (bB rO).names ["land","cells"] ["cell"] [("cells",1)] rfl (cR (pv 0)) rfl rfl rfl (by decide +kernel)
   (λZ=>nm1 0 A98) (λZ=>cF) (λZ=>eW (tL 1 (eL hr)) (pv 0) (pv 1) rfl)) aB))),?_⟩
  refine⟨_,rfl,t,rfl,⟨_,SqT.of ht⟩,λZ l hl=> ?_⟩;refine gG (K:=K) (a:=t) (xs:=ps.map V.ref) (λi σ H'=>(∃o,σ=[o,some (.ref lc)])/\Same H H'/\H' l=some (.lst ((cs.take i).map λc=>V.bl (decide (c∈ds))))) ⟨⟨_,rfl⟩,aQ hl,by rw[aJ];rfl⟩ (λi σ H' _ h=>SqT.of (h.2.1 _ _ ht)) ?_ ?_
  ·rintro i x σ H' hx ⟨⟨o,rfl⟩,hs,hl'⟩;obtain⟨p,hp,rfl⟩:=eI hx;obtain⟨c,hc,he⟩:=hP.at hp;have hi:i<cs.length:=(zjW.mp hc).1;show cZ _ _ _ [some (.ref p),some (.ref lc)] H';refine⟨_,rfl,_,rfl,lc,_,_,rfl,.inr (hs _ _ hlc),jZ (hs _ _ he) (hD.same hs),?_⟩;rw[vO];refine⟨_,hl',bW (by rw[length_map,length_take];omega),⟨_,rfl⟩,λb' u e'=> ?_,?_⟩
   ·rw[aY (bH e' hl)];exact hs _ _ e'
   ·rw[aJ,take_succ,hc,map_append];rfl
  ·rintro σ H' ⟨_,hs,hl'⟩;rw[length_map,hlen,take_of_length_le (zjQ _)]at hl';refine⟨l,cs.map λc=>decide (c∈ds),rfl,SqL.of (by rw[hl',map_map];rfl),?_⟩;have e:(cs.map λc=>decide (c∈ds)).any id=cs.any λc=>decide (c∈ds):=by rw[any_map];rfl
   rw[e];exact q H' hs
theorem A2n:(["cell","roads"]:List Str).Nodup:=by decide +kernel
theorem A9k:(["place","roads"]:List Str).Nodup:=by decide +kernel
theorem A6c (F:D1 K mg "cells_at_road" rL ["mead"])(T2:eE mg)(a1:A1 P w K mg base 6 "roads_of" (eY road))(a2:A1 P w K mg base 6 "cells_of" (eY pos))(a3:A1 P w K mg base 1 "places_beside" qL):A1 P w K mg base 7 "cells_at_road" wA:=by
 refine F.k ["mead","roads"] ?_;ac_nf
 ·obtain⟨a,g,w',rfl,hA,G,q⟩:=h;refine⟨_,aU (bX (i:=1) nd rfl (Or.inr rfl) (a1.c hr (aG (pv 0) aB)))<|
   aM (bC (bN (bB rL).names ["mead","roads"] ["cell"] [("roads",1)] rfl (cV (a2.c hr (aG (pv 0) aB))) rfl rfl rfl (by decide +kernel)
    (λZ=>nm1 0 A2n) (λZ=>eP (bM (bE (rN rfl) rfl T2.any qN (cO (bN [(".0",.local),("cell",.local),("any",.globalImplicit),("places_beside",.globalImplicit),("roads",.cell)] ["cell","roads"] ["place"] [("roads",1)] rfl (cV (a3.c hr (aG (pv 0) aB))) rfl rfl rfl (by decide +kernel)
      (λZ=>nm1 0 A9k) (λZ=>cF) (λZ=>eW (tL 1 (eL hr)) (pv 0) (pv 1) rfl)) aB)))) (λZ=>pv 0))),?_⟩
  refine⟨_,rfl,a,g,w',rfl,hA,G,λH1 lr rs hlr s1 hlr' hR=> ?_⟩;refine⟨_,rfl,a,g,w',rfl,hA.same s1,G,λH2 lc cs hlc s2 hlc' hC=> ?_⟩;refine⟨lc,rfl,⟨_,SqL.of hlc'⟩,λZ l hl=> ?_⟩;have hcl:cs.length=(aN pos g).length:=Paired.length hC;have h10:(aN pos g).length<=10:=by rw[eU];exact G.c10
  have hlr2:=s2 _ _ hlr';have hR2:=hR.same s2;refine dI (K:=K) (a:=lc) (xs:=cs.map V.ref) (λi σ H'=>(∃o,σ=[o,some (.ref lr)])/\Same H2 H'/\∃ns,H' l=some (.lst ((ns:List Addr).map V.ref))/\PlAt H' ns (((aN pos g).take i).filter (fR g))) ⟨⟨_,rfl⟩,aQ hl,[],by rw[aJ];rfl,.nil⟩ (λi σ H' _ h=>SqL.of (h.2.1 _ _ hlc')) ?_ ?_
  ·rintro i x σ H' hx ⟨⟨o,rfl⟩,hs,ns,hn,hN⟩;obtain⟨p,hp,rfl⟩:=eI hx;obtain⟨c,hc,he⟩:=hC.at hp;have hi:i<(aN pos g).length:=(zjW.mp hc).1;have hnl:ns.length<=10:=by
    have h1:ns.length=_:=Paired.length hN;have h2:=length_filter_le (fR g) ((aN pos g).take i);rw[length_take]at h2;omega
   have et:((aN pos g).take (i+1)).filter (fR g)=((aN pos g).take i).filter (fR g)++(if fR g c=true then [c]else []):=by
    rw[take_succ,hc,filter_append]
    congr 1
    cases e:fR g c
    ·simp[e]
    ·simp[e]
   rw[et];show cZ _ _ _ [some (.ref p),some (.ref lr)] H';refine⟨_,rfl,p,c,rfl,hs _ _ he,λlb bs H3 hlb s3 hlb3 hB=> ?_⟩;have hb4:bs.length=(beside c).length:=Paired.length hB;refine⟨lb,rfl,⟨_,SqL.of hlb3⟩,λZ l2 hl2=> ?_⟩;refine dI (K:=K) (a:=lb) (xs:=bs.map V.ref) (λj σ H4=>(∃o,σ=[o,some (.ref lr)])/\Same H3 H4/\H4 l2=some (.lst (((beside c).take j).map λd=>V.bl (decide (d∈aN road g))))) ⟨⟨_,rfl⟩,aQ hl2,by rw[aJ];rfl⟩ (λj σ H4 _ h=>SqL.of (h.2.1 _ _ hlb3)) ?_ ?_
   ·rintro j y σ H4 hy ⟨⟨o',rfl⟩,hs4,hl24⟩;obtain⟨b,hbj,rfl⟩:=eI hy;obtain⟨d,hd,hbd⟩:=hB.at hbj;have hj:j<4:=(zjW.mp hd).1;show cZ _ _ _ [some (.ref b),some (.ref lr)] H4;refine⟨_,rfl,_,rfl,lr,_,_,rfl,.inr (hs4 _ _ (s3 _ _ (hs _ _ hlr2))),jZ (hs4 _ _ hbd) (((hR2.same hs).same s3).same hs4),?_⟩;rw[vO];refine⟨_,hl24,bW (by rw[length_map,length_take];omega),⟨_,rfl⟩,λb' u e'=> ?_,?_⟩
    ·rw[aY (bH e' hl2)];exact hs4 _ _ e'
    ·rw[aJ,take_succ,hd,map_append];rfl
   ·rintro σ H4 ⟨_,hs4,hl24⟩;rw[length_map,hb4,take_of_length_le (zjQ _)]at hl24;refine⟨l2,(beside c).map λd=>decide (d∈aN road g),rfl,SqL.of (by rw[hl24,map_map];rfl),_,rfl,?_⟩;have e:((beside c).map λd=>decide (d∈aN road g)).any id=fR g c:=by unfold fR;rw[any_map];rfl
    rw[e];have s34:=s3.trans hs4;refine cY (λz=> ?_) λz=> ?_
    ·rw[if_pos z];have hn4:=s34 _ _ hn;refine⟨_,rfl,_,hn4,bW (by rw[length_map];omega),⟨_,rfl⟩,λb' u e'=> ?_,ns++[p],?_,?_⟩
     ·rw[aY (bH e' hl)];exact s34 _ _ (hs _ _ e')
     ·rw[aJ,map_append];rfl
     ·exact PlAt.snoc (Paired.mapP (hN.same s34) λ_ _ z=>PlA.put hn4 z) (PlA.put hn4 (s34 _ _ (hs _ _ he)))
    ·rw[if_neg (by rw[z];decide),append_nil];exact⟨⟨_,rfl⟩,hs.trans s34,ns,s34 _ _ hn,hN.same s34⟩
  ·rintro σ H' ⟨_,hs,ns,hn,hN⟩;rw[length_map,hcl,take_of_length_le (zjQ _)]at hN;exact q H' l ns (s1.free (s2.free hl)) ((s1.trans s2).trans hs) hn hN
theorem B14 {K:W.Frag}{a t l:Addr}{g:bI}{w':Nat}{cs:List Pl}{ps:List Addr}{H:Hp}{Q:VK}(hA:GridAt H a g)(G:cU g w')(ht:H t=some (.tup (ps.map V.ref)))(hP:PlAt H ps cs)(hL:LandOf g cs)(hl:H l=none)(q:∀H',Same H H'->Q (.int (fE g cs)) H'):
  eA (Itt K t) (gN K 2 (eF (cT 0) (eF (cT 1) gQ))) (cZ gB (eJ l (tOp (iW K) (tOp (iW K) (dN 2) (dN 0)) (dN 1)))) (eC λ_ H'=> ∃(p:Addr)(ns:List Int),[V.ref l]=[.ref p]/\SqL K H' p (ns.map V.int)/\ns.length<=1000/\(∀n∈ns,-1000<=n/\n<=1000)/\Q (.int ns.sum) H') [none,none,some (.ref a)] (upd H l (.lst [])):=by
 have hpl:ps.length=cs.length:=Paired.length hP;have h10:=LandOf.len G hL;refine gG (K:=K) (a:=t) (xs:=ps.map V.ref) (λi σ H'=>(∃o1 o2,σ=[o1,o2,some (.ref a)])/\Same H H'/\H' l=some (.lst (((cs.take i).map (atG g)).map V.int))) ⟨⟨_,_,rfl⟩,aQ hl,by rw[aJ];rfl⟩ (λi σ H' _ h=>SqT.of (h.2.1 _ _ ht)) ?_ ?_
 ·rintro i x σ H' hi ⟨⟨o1,o2,rfl⟩,hs,hl'⟩;obtain⟨p,hpi,rfl⟩:=eI hi;obtain⟨cc,hci,hpc⟩:=hP.at hpi;have hil:i<cs.length:=(zjW.mp hci).1;obtain⟨i',j',xs,n,rfl,hg,hx,hf⟩:=mem_gridF.mp (hL.subset (mem_of_getElem? hci));obtain⟨bs,b,h1,h2,h3,h4⟩:=(hA.same hs).ix hg hx;refine⟨p,_,rfl,SqT.of (hs _ _ hpc),rfl,_,_,rfl,_,_,rfl,rfl,?_⟩;refine gO ?_;refine⟨_,rfl,_,rfl,a,_,_,_,rfl,rfl,SqT.of h1,h2,_,rfl,b,_,_,_,rfl,rfl,SqT.of h3,h4,?_⟩;refine⟨_,hl',bW (by rw[length_map,length_map,length_take];omega),⟨_,_,rfl⟩,λb' u e'=> ?_,?_⟩
  ·rw[aY (bH e' hl)];exact hs _ _ e'
  ·rw[aJ,take_succ,hci,map_append,map_append];show some (HO.lst (_++[V.int n]))=some (HO.lst (_++[V.int (atG g ((i':Int),(j':Int)))]));rw[iZ hg hx]
 ·rintro σ H' ⟨_,hs,hl'⟩;rw[length_map,hpl,take_of_length_le (zjQ _)]at hl';refine⟨l,_,rfl,SqL.of hl',by rw[length_map];omega,λn hn=> ?_,q H' hs⟩;obtain⟨c,hc,rfl⟩:=mem_map.mp hn;obtain⟨i',j',xs,n,rfl,hg,hx,hf⟩:=mem_gridF.mp (hL.subset hc);rw[iZ hg hx];have:=G.num xs (mem_of_getElem? hg) n (mem_of_getElem? hx);omega
theorem A8u (F:D1 K mg "worth_together" kO ["mead","places"])(T2:eE mg):A1 P w K mg base 1 "worth_together" uY:=by
 refine F.k ["mead","places"] ?_;ac_nf
 ·obtain⟨a,t,g,w',cs,rfl,hA,G,⟨ps,ht,hP⟩,hL,q⟩:=h;refine⟨_,aM (bC (bE (pH rfl) rfl T2.sum boot_sum (cO (bN (bB kO).names ["mead","places"] ["row","column"] [("mead",0)] rfl (cR (pv 1)) rfl rfl rfl (by decide +kernel)
    (λZ=>bP rfl (bA (nm1 0 nA) (bA (nm1 1 nA) bR))) (λZ=>cF) (λZ=>bJ cA (bJ cA (pv 2) (pv 0) (λ_ _=>rfl)) (pv 1) (λ_ _=>rfl))) aB))),?_⟩
  refine⟨_,rfl,t,rfl,⟨_,SqT.of ht⟩,λZ l hl=> ?_⟩;exact B14 hA G ht hP hL hl q
end
end M51
namespace Set4
open PySem PyProof.Rows
noncomputable def L (b0 b1 b2 b3:Bool):List Nat:=(cond b0 [0] [])++((cond b1 [1] [])++((cond b2 [2] [])++(cond b3 [3] [])))
noncomputable def aX (S:Nat->Bool):List Nat:=L (S 0) (S 1) (S 2) (S 3)
noncomputable def ents (l:List Nat)(f:Nat->Value):Array (Int×Value):=(l.map λk:Nat=>((k:Int),f k)).toArray
noncomputable def tab (l:List Nat)(led:Bool):SetTable:={mask:=7,place:=l.toArray,dummies:=#[],finger:=0,led:=led,moves:=0,plain:=true}
noncomputable def plus (S:Nat->Bool)(k:Nat):Nat->Bool:=λj=>S j||decide (j=k)
noncomputable def fP (f:Nat->Value)(k:Nat)(x:Value):Nat->Value:=λj=>if j=k then x else f j
theorem A22 (b1 b2 b3 led:Bool)(f:Nat->Value)(x:Value):layNew (tab (L false b1 b2 b3) led) (ents (L false b1 b2 b3) f) ((0:Nat):Int) x=(ents (L true b1 b2 b3) (fP f 0 x),tab (L true b1 b2 b3) led,false,false):=by cases b1<;>cases b2<;>cases b3<;>kernel_rfl
theorem A5x (b0 b2 b3 led:Bool)(f:Nat->Value)(x:Value):layNew (tab (L b0 false b2 b3) led) (ents (L b0 false b2 b3) f) ((1:Nat):Int) x=(ents (L b0 true b2 b3) (fP f 1 x),tab (L b0 true b2 b3) led,false,false):=by cases b0<;>cases b2<;>cases b3<;>kernel_rfl
theorem B2k (b0 b1 b3 led:Bool)(f:Nat->Value)(x:Value):layNew (tab (L b0 b1 false b3) led) (ents (L b0 b1 false b3) f) ((2:Nat):Int) x=(ents (L b0 b1 true b3) (fP f 2 x),tab (L b0 b1 true b3) led,false,false):=by cases b0<;>cases b1<;>cases b3<;>kernel_rfl
theorem A51 (b0 b1 b2 led:Bool)(f:Nat->Value)(x:Value):layNew (tab (L b0 b1 b2 false) led) (ents (L b0 b1 b2 false) f) ((3:Nat):Int) x=(ents (L b0 b1 b2 true) (fP f 3 x),tab (L b0 b1 b2 true) led,false,false):=by cases b0<;>cases b1<;>cases b2<;>kernel_rfl
theorem A4n (S:Nat->Bool)(led:Bool)(f:Nat->Value)(x:Value)(k:Nat)(hk:k<4)(hs:S k=false):layNew (tab (aX S) led) (ents (aX S) f) (k:Int) x=(ents (aX (plus S k)) (fP f k x),tab (aX (plus S k)) led,false,false):=by
 unfold aX plus
 match k,hk with
 |0,_=>rw[hs];simpa using A22 (S 1) (S 2) (S 3) led f x
 |1,_=>rw[hs];simpa using A5x (S 0) (S 2) (S 3) led f x
 |2,_=>rw[hs];simpa using B2k (S 0) (S 1) (S 3) led f x
 |3,_=>rw[hs];simpa using A51 (S 0) (S 1) (S 2) led f x
theorem lR (b0 b1 b2 b3:Bool):(L b0 b1 b2 b3).length<=4:=by cases b0<;>cases b1<;>cases b2<;>cases b3<;>decide
theorem kI (l:List Nat)(f:Nat->Value):(ents l f).size=l.length:=by simp[ents]
theorem lK (S:Nat->Bool)(led:Bool)(f:Nat->Value):(tab (aX S) led).fits (ents (aX S) f).size=true:=by rw[kI];unfold aX;cases S 0<;>cases S 1<;>cases S 2<;>cases S 3<;>kernel_rfl
theorem A54 (S:Nat->Bool)(led:Bool):(tab (aX S) led).tooFull=false:=by unfold aX;cases S 0<;>cases S 1<;>cases S 2<;>cases S 3<;>kernel_rfl
theorem mM:k∈cond b [i] []↔b=true/\k=i:=by cases b<;>simp
theorem mem_mem4:k∈aX S↔k<4/\S k=true:=by
 unfold aX L;rw[mem_append,mem_append,mem_append,mM,mM,mM,mM];constructor
 ·rintro(⟨h,rfl⟩| ⟨h,rfl⟩| ⟨h,rfl⟩| ⟨h,rfl⟩)<;>exact⟨by decide,h⟩
 ·rintro⟨hk,hs⟩
  match k,hk with
  |0,_=>exact .inl ⟨hs,rfl⟩
  |1,_=>exact .inr (.inl ⟨hs,rfl⟩)
  |2,_=>exact .inr (.inr (.inl ⟨hs,rfl⟩))
  |3,_=>exact .inr (.inr (.inr ⟨hs,rfl⟩))
noncomputable def dY (S:Nat->Bool)(f:Nat->Value)(led:Bool)(ep:Nat):Obj:={cls:=.type "set",dict:=none,data:=.set (ents (aX S) f) ep (tab (aX S) led)}
noncomputable def IsS4 (h:Heap)(a:Addr)(S:Nat->Bool)(led:Bool):Prop:=∃f ep,(∀k,k<4->S k=true->∃t,f k=Value.int k t)/\h.get? a=some (dY S f led ep)
theorem A1f (k:Nat)(hk:k<4):hashInt (k:Int)=(k:Int):=by
 match k,hk with
 |0,_=>rfl
 |1,_=>rfl
 |2,_=>rfl
 |3,_=>rfl
section
theorem A4q {S:Nat->Bool}{f:Nat->Value}(hf:∀k,k<4->S k=true->∃t,f k=Value.int k t):ElemsOf (intKind prog w) (ents (aX S) f).toList:=by
 intro e he;have he':e∈(aX S).map λk:Nat=>((k:Int),f k):=by simpa [ents]using he
 obtain⟨k,hk,rfl⟩:=mem_map.mp he';obtain⟨h1,h2⟩:=mem_mem4.mp hk;obtain⟨t,ht⟩:=hf k h1 h2;refine⟨⟨(k:Int),?_,?_⟩,?_⟩
 ·show(intKind prog w).is (k:Int) (f k)=true;rw[ht];exact intKind_is _ _ _ _
 ·exact(A1f k h1).symm
 ·show(f k).scannable=true;rw[ht];rfl
theorem B17 (hS:IsS4 s.heap a S led)(hk:k<4)(h:∀b h',Heap.SameBut a s.heap h'->IsS4 h' a (plus S k) led->Q b {s with heap:=h'}):
  wpAny (model prog w) A (setAddHashed a (.int (k:Int) t) (hashInt (k:Int))) Q E s:=by
 obtain⟨f,ep,hf,ho⟩:=hS;have hel:ElemsOf (intKind prog w) (ents (aX S) f).toList:=A4q hf;have hfit:=lK S led f;have hz:(ents (aX S) f).size<scanBound:=by
  rw[kI];have:=lR (S 0) (S 1) (S 2) (S 3);show(L (S 0) (S 1) (S 2) (S 3)).length<4096;omega
 have hd:(dY S f led ep).data= .set (ents (aX S) f) ep (tab (aX S) led):=rfl;have hkey:(intKind prog w).is (k:Int) (Value.int (k:Int) t)=true:=intKind_is _ _ _ _;unfold setAddHashed setAddHashedIn;refine wpAny_holding (zjZ (wpAny_setState_of ho hd hfit ?_));dsimp only
 rw[byScan_of (knd:=intKind prog w) rfl hz hel];simp only[↓reduceIte];unfold setAddByScan;refine zjZ (zjZ (wpAny_rule (zjZ (wpAny_setScan_of (knd:=intKind prog w) hkey ho hd hfit hel ?_))));cases hSk:S k with
 |true=>
  have:∃j,findIdx? (λe=>(intKind prog w).is (k:Int) e.2) (ents (aX S) f).toList=some j:=by
   cases hr:findIdx? (λe=>(intKind prog w).is (k:Int) e.2) (ents (aX S) f).toList with
   |some j=>exact⟨j,rfl⟩
   |none=>
    obtain⟨t',ht'⟩:=hf k hk hSk;have hm:((k:Int),f k)∈(ents (aX S) f).toList:=by
     have:((k:Int),f k)∈(aX S).map λk:Nat=>((k:Int),f k):=mem_map.mpr ⟨k,mem_mem4.mpr ⟨hk,hSk⟩,rfl⟩;simpa [ents]using this
    have:=List.findIdx?_eq_none_iff.mp hr _ hm;rw[show(intKind prog w).is (k:Int) ((k:Int),f k).2=true by show(intKind prog w).is (k:Int) (f k)=true;rw[ht'];exact intKind_is _ _ _ _]at this;cases this
  obtain⟨j,hj⟩:=this;rw[hj];dsimp only
  refine zjY (zjY ?_);have eS:plus S k=S:=funext λi=>by
   unfold plus;by_cases e:i=k
   ·subst e;simp[hSk]
   ·simp[e]
  exact h _ s.heap (Heap.SameBut.refl a s.heap) (by rw[eS];exact⟨f,ep,hf,ho⟩)
 |false=>
  have hr:findIdx? (λe=>(intKind prog w).is (k:Int) e.2) (ents (aX S) f).toList=none:=by
   rw[List.findIdx?_eq_none_iff];intro e he;have he':e∈(aX S).map λk:Nat=>((k:Int),f k):=by simpa [ents]using he
   obtain⟨i,hi,rfl⟩:=mem_map.mp he';obtain⟨h1,h2⟩:=mem_mem4.mp hi;obtain⟨t',ht'⟩:=hf i h1 h2;cases z:(intKind prog w).is (k:Int) (((i:Int),f i).2)with
   |false=>rfl
   |true=>
    have z':(intKind prog w).is (k:Int) (Value.int (i:Int) t')=true:=by rw[←ht'];exact z
    have:=(intKind prog w).inj _ _ _ z' (intKind_is _ _ _ _);have e:k=i:=by omega
    subst e;rw[hSk]at h2;cases h2
  rw[hr];dsimp only
  rw[A1f k hk,A4n S led f _ k hk hSk];dsimp only
  refine zjZ (zjY ?_);have hS2:∀ep',∀h',h'.get? a=some (dY (plus S k) (fP f k (.int (k:Int) t)) led ep')->IsS4 h' a (plus S k) led:=λep' h' g=> ⟨_,ep',λi hi hp=>by
   unfold fP;by_cases e:i=k
   ·rw[if_pos e,e];exact⟨t,rfl⟩
   ·rw[if_neg e];unfold plus at hp;exact hf i hi (by simpa [e]using hp),g⟩
  rw[show(tab (aX (plus S k)) led).plain=true from rfl];simp only[↓reduceIte];rw[hashByValue_scannable 8 (x:=Value.int (k:Int) t) rfl];refine zjZ (zjY ?_);rw[show plainKind (Value.int (k:Int) t)=true from rfl];simp only[↓reduceIte];have hz2:(ents (aX (plus S k)) (fP f k (.int (k:Int) t))).size<=sizeLine:=by
   rw[kI,sizeLine_eq];have:=lR (plus S k 0) (plus S k 1) (plus S k 2) (plus S k 3);show(L (plus S k 0) (plus S k 1) (plus S k 2) (plus S k 3)).length<=_;omega
  refine zjZ (wpAny_storeSet_of ho hd ?_ hz2);rw[A54];simp only[Bool.and_false,Bool.false_eq_true,↓reduceIte];refine zjY (zjY ?_);have hg:(s.heap.update a (Obj.putSet (ents (aX (plus S k)) (fP f k (.int (k:Int) t))) (tab (aX (plus S k)) led))).get? a=some (dY (plus S k) (fP f k (.int (k:Int) t)) led (ep+1)):=by
   have:=get?_update_self (Obj.putSet (ents (aX (plus S k)) (fP f k (.int (k:Int) t))) (tab (aX (plus S k)) led)) ho (by rw[putSet_of _ _ hd];rfl);rw[putSet_of _ _ hd]at this;exact this
  exact h _ _ (Heap.SameBut.update s.heap a _) (hS2 _ _ hg)
end
noncomputable def acc (val:Nat->Nat):Nat->Nat->Bool
 |0=>λ_=>false
 |i+1=>plus (acc val i) (val i)
theorem A0g (val:Nat->Nat)(k:Nat):∀i,acc val i k=true↔ ∃j,j<i/\val j=k
 |0=>by simp[acc]
 |i+1=>by
  show plus (acc val i) (val i) k=true↔_;unfold plus;rw[Bool.or_eq_true,A0g val k i,decide_eq_true_eq];constructor
  ·rintro(⟨j,h1,h2⟩|h)
   ·exact⟨j,by omega,h2⟩
   ·exact⟨i,by omega,h.symm⟩
  ·rintro⟨j,h1,h2⟩;by_cases e:j=i
   ·right;rw[←h2,e]
   ·exact .inl ⟨j,by omega,h2⟩
theorem IsS4.at (x:IsS4 h a S led)(e:∀o,h.get? a=some o->h'.get? a=some o):IsS4 h' a S led:=let ⟨f,ep,hf,ho⟩:=x;⟨f,ep,hf,e _ ho⟩
section
variable {St:Nat->Shared->Prop}
theorem A8p (W:WalksS prog w A.in1 I fp wr G n P St)(D:Addr)(hD:D∉fp)(val:Nat->Nat)(hv:∀i v,P i v->∃t,v= .int (val i:Int) t)(h4:∀i,i<n->val i<4):∀(k i:Nat)(s:Shared),n - i=k->i<=n->St i s->IsS4 s.heap D (acc val i) led->
  (∀s',Moved (D::wr) G s s'->IsS4 s'.heap D (acc val n) led->R (.ok (.ret .none)) s')->codeAny (model prog w) A (.builtin "set.update.loop" ⟨[.ref D,.ref I],[]⟩) R s:=by
 have nw:D∉wr:=λh=>hD (W.sub _ h);have sub:∀b∈wr,b∈D::wr:=λb hb=>zjS _ hb;intro k
 induction k with
 |zero=>
  intro i s hk hi st hS hR;obtain rfl:i=n:=by omega
  refine codeAny_builtin F.entry_set_update_loop ?_;rw[Around.under_plainId F.plain_set_update_loop _];show wpAny _ A.in1 (pyNext (.ref I)>>=_) _ _ s;refine zjZ (W.done s _ _ st λs' hm=> ?_);show wpAny _ A.in1 (ret Value.none) _ _ s';exact zjY (hR s' (hm.mono sub) (hS.at λo e=>hm.heap D _ nw e))
 |succ k ih=>
  intro i s hk hi st hS hR;have hlt:i<n:=by omega
  refine codeAny_builtin F.entry_set_update_loop ?_;rw[Around.under_plainId F.plain_set_update_loop _];show wpAny _ A.in1 (pyNext (.ref I)>>=_) _ _ s;refine zjZ (W.item i s _ _ hlt st λv s' hP st' hm=> ?_);obtain⟨t,rfl⟩:=hv i v hP;show wpAny _ A.in1 (holding [Value.int (val i:Int) t] (setAdd D (.int (val i:Int) t))>>=_) _ _ s';refine zjZ (wpAny_holding ?_);unfold setAdd;refine wpAny_holding ?_;refine zjZ ((intKind prog w).pyHash (k:=(val i:Int)) (intKind_is _ _ _ _) ?_);refine B17 (s:={s' with toks:=s'.toks+1}) (hS.at λo e=>hm.heap D _ nw e) (h4 i hlt) λb h' hsb hS2=> ?_;refine zjY ⟨plainId_quiet F.plain_set_update_loop _,ih (i+1) _ (by omega) hlt (W.frame _ s' _ _ st' (le_succ _) λb hb o e=> ?_) hS2 λs'' hm'' hS''=> ?_⟩
  ·rw[hsb.2 b (λh:b=D=>hD (by rw[←h];exact hb))];exact e
  ·refine hR s'' (Moved.trans W.gtrans ((hm.mono sub).then_heap (le_succ _) λb o hb e=> ?_) hm'') hS'';rw[hsb.2 b (λh:b=D=>hb (by rw[h];exact zjR))];exact e
end
section
noncomputable def byT (w:World):Bool:=w.params.followText "set-order"
theorem A39 (a:Value)(h:Q₁ (.ref s.heap.objs.size) {s with heap:=s.heap.push (dY (λ_=>false) (λ_=> .none) (!byT w) 0)}):
  codeAny (model prog w) A (.call (.builtin "set.__new__") ⟨[.type "set",a],[]⟩) (wants Q₁ E) s:=by
 refine codeAny_of_tree ?_
 show wpAny _ A.in1 (do checkBuiltinCall "set.__new__" ⟨[.type "set",a],[]⟩;again (.builtin "set.__new__" ⟨[.type "set",a],[]⟩)) _ _ s;refine zjZ (wpAny_of_eq (PySem.F.newCall_set_1 a) (zjY ⟨plainId_quiet PySem.F.plain_set_new _,codeAny_builtin PySem.F.entry_set_new ?_⟩));rw[Around.under_plainId PySem.F.plain_set_new _];unfold Builtin.«set.__new__» Builtin.Frozenset.newClass;have hsub:=PySem.sub_set_self;obtain⟨hp,g,d,tk,os⟩:=s;dsimp only;wp_walk;refine wpAny_askSetting (zjY ?_);dsimp only;simp only[newObj];refine zjZ (wpAny_alloc (zjY ?_));exact zjY h
theorem A3v (hh:A.handled=none)(hl:s.heap.IsList l items)(hv:∀(i:Nat)(v:Value),items[i]?=some v->∃t,v= .int (val i:Int) t)(h4:∀i,i<items.size->val i<4)
  (h:∀(h':Heap)(tk:Nat),IsS4 h' s.heap.objs.size (acc val items.size) (!byT w)->(∀b o,b<s.heap.objs.size->s.heap.get? b=some o->h'.get? b=some o)->Q (.ref s.heap.objs.size) {s with heap:=h',toks:=tk}):
  wpAny (model prog w) A (call (.type "set") [.ref l]) Q E s:=by
 obtain⟨c,tl,hmro⟩:=PySem.F.called_set.mro;have hmade:=PySem.F.called_set.made;have hsub:=PySem.F.called_set.sub;refine wpAny_call (codeAny_of_tree ?_);show wpAny _ _ (callAny (.type "set") _) _ _ _;refine zjY ⟨Code.quiet_builtin _ (by decide +kernel),codeAny_builtin PySem.F.entry_type_call ?_⟩;rw[Around.under_plain (weight_type_call_type "set" [.ref l] []) rfl];have h1:=PySem.F.called_set.notType;have h2:=PySem.F.called_set.canCreate;have hct:=PySem.F.typeCall_set_1 (.ref l)
 repeat (any_goals (first|assumption|wp_step))
 refine codeAny_mono (A39 (.ref l) (E:=E) (Q₁:=λobj s₁=>obj= .ref s.heap.objs.size/\s₁={s with heap:=s.heap.push (dY (λ_=>false) (λ_=> .none) (!byT w) 0)}) ⟨rfl,rfl⟩) λr s₁ hr=> ?_;cases r with
 |error e=>exact hr
 |ok fl=>
  cases fl with
  |ret obj=>
   obtain⟨rfl,rfl⟩:=hr;have hS:(s.heap.push (dY (λ_=>false) (λ_=> .none) (!byT w) 0)).get? s.heap.objs.size=some (dY (λ_=>false) (λ_=> .none) (!byT w) 0):=get?_push_size _ rfl;have hT:Shared.TypeIs {s with heap:=s.heap.push (dY (λ_=>false) (λ_=> .none) (!byT w) 0)} (.ref s.heap.objs.size) "set":=⟨_,hS,rfl⟩;have hli:=PySem.F.called_set.init.lookup;have hbi:=PySem.F.called_set.init.bind (.ref s.heap.objs.size)
   repeat (any_goals (first|assumption|wp_step))
   refine codeAny_mono (codeAny_call_builtin (R:=wants (λr s₂=>r= .none/\∃h' tk,s₂={s with heap:=h',toks:=tk}/\IsS4 h' s.heap.objs.size (acc val items.size) (!byT w)/\
     (∀b o,b<s.heap.objs.size->s.heap.get? b=some o->h'.get? b=some o)) E) PySem.F.called_set.init.plain PySem.F.entry_set_init (check_set_init_1 hT ?_)) λr₂ s₂ hr₂=> ?_
   ·obtain⟨ol,hol,hcl,nl,hdl⟩:=hl;obtain⟨ocls,odict,odata,oslots⟩:=ol;simp only at hcl hdl;subst hcl;subst hdl;have hol':(s.heap.push (dY (λ_=>false) (λ_=> .none) (!byT w) 0)).get? l=some {cls:=.type "list",dict:=odict,data:=.seq items nl,slots:=oslots}:=zjX _ hol;have hsls:=PySem.F.sub_list_set;have hslf:=PySem.F.sub_list_frozenset;have hne:(Value.type "list" ==Value.type "dict")=false:=by decide
    have hl1:(s.heap.push (dY (λ_=>false) (λ_=> .none) (!byT w) 0)).IsList l items:=⟨_,hol',rfl,nl,rfl⟩;unfold Builtin.«set.__init__» noKeywords Builtin.Frozenset.updateFrom;generalize hPI:pyIter=PI
    wp_walk
    subst hPI;refine wpAny_pyIter_list hl1 ?_;refine zjZ (wpAny_runValue ?_);have hlS:l<s.heap.objs.size:=zjT hol;have hh3:A.in1.in1.in1.handled=none:=by simp[hh]
    have hneI:l≠(s.heap.push (dY (λ_=>false) (λ_=> .none) (!byT w) 0)).objs.size:=by rw[size_push];exact ne_of_lt (lt_succ_of_lt hlS)
    have hSf:s.heap.objs.size∉[(s.heap.push (dY (λ_=>false) (λ_=> .none) (!byT w) 0)).objs.size,l]:=by
     rw[size_push];intro hm;rcases mem_cons.mp hm with e|e
     ·exact absurd e (ne_of_lt (lt_succ_self _))
     ·exact absurd (mem_singleton.mp e) (ne_of_gt hlS)
    refine A8p ((Walks.list hh3 _ l hneI items).toS) s.heap.objs.size hSf val hv h4 (items.size - 0) 0 _ (by omega) (zero_le _) ⟨⟨_,get?_push_size _ rfl,rfl,rfl⟩,(hl1.push _)⟩ (show IsS4 _ _ (λ_=>false) (!byT w)from⟨λ_=> .none,0,(λk _ z=>absurd z (by simp)),zjX _ hS⟩) ?_;intro s' hm hS';obtain⟨h',g',d',tk',os'⟩:=s';have eg:g'=s.gens:=hm.gens;have ed:d'=s.drawn:=hm.drawn;have eo:os'=s.os:=hm.os;subst eg;subst ed;subst eo;show wpAny _ _ _ _ _ _;refine zjY ?_;show wpAny _ _ (ret Value.none) _ _ _;refine zjY ⟨rfl,h',tk',rfl,hS',λb o hb e=> ?_⟩;refine hm.heap b o (λhmm=> ?_) (zjX _ (zjX _ e));rcases mem_cons.mp hmm with z|z
    ·exact ne_of_lt hb z
    ·rw[size_push]at z;exact ne_of_lt (lt_succ_of_lt hb) (mem_singleton.mp z)
   ·cases r₂ with
    |error e=>exact hr₂
    |ok fl₂=>
     cases fl₂ with
     |ret r=>
      obtain⟨rfl,h',tk,rfl,hS',hk'⟩:=hr₂
      repeat (any_goals (first|assumption|wp_step))
      exact h _ _ hS' hk'
     |_=>exact hr₂.elim
  |_=>exact hr.elim
end
theorem vD:∀(l:List α)(i:Nat)(h:i<l.length),(l[i]::l.eraseIdx i).Perm l
 | [],i,h=>by simp at h
 |x::l,0,h=>List.Perm.refl _
 |x::l,i+1,h=>by
  have ih:=vD l i (by simpa using h);show(l[i]'(by simpa using h)::x::l.eraseIdx i).Perm (x::l);exact(List.Perm.swap _ _ _).trans (ih.cons x)
theorem A1w (next:Nat->Nat):∀(fuel k:Nat)(left:List α)(out:Array α),left.length=fuel->(pickOrder.go next fuel k left out).toList.Perm (out.toList++left)
 |0,k,left,out,h=>by
  cases left with
  |nil=>unfold pickOrder.go;simp
  |cons _ _=>simp at h
 |fuel+1,k,left,out,h=>by
  have hl:next k%left.length<left.length:=mod_lt _ (by omega);unfold pickOrder.go;rw[getElem?_eq_getElem hl];have ih:=A1w next fuel (k+1) (left.eraseIdx (next k%left.length)) (out.push left[next k%left.length]) (by rw[List.length_eraseIdx_of_lt hl];omega);refine ih.trans ?_;rw[Array.toList_push,append_assoc];exact List.Perm.append_left _ (vD _ _ hl)
theorem A5s (next:Nat->Nat)(xs:Array α):(pickOrder next xs).toList.Perm xs.toList:=by have:=A1w next xs.size 0 xs.toList #[] (by simp);unfold pickOrder;simpa using this
noncomputable def slot (S:Nat->Bool)(i:Nat):Nat:=if i=0 then 0 else(aX S).getD (i - 1) 0+1
theorem A8h (S:Nat->Bool)(i:Nat)(hi:i<=(aX S).length):SetTable.below (aX S).toArray (slot S i)=i:=by
 have key:∀b0 b1 b2 b3:Bool,∀i,i<5->i<=(L b0 b1 b2 b3).length->SetTable.below (L b0 b1 b2 b3).toArray (if i=0 then 0 else(L b0 b1 b2 b3).getD (i - 1) 0+1)=i:=by decide +kernel
 have:=lR (S 0) (S 1) (S 2) (S 3);exact key (S 0) (S 1) (S 2) (S 3) i (by unfold aX at hi;omega) hi
noncomputable def ord (w:World)(a:Addr)(S:Nat->Bool)(f:Nat->Value)(ep:Nat):List Value:=((if byT w=true then pickOrder (w.params.setOrder a ep) (ents (aX S) f)else ents (aX S) f).toList).map (·.2)
theorem xR (w:World)(a:Addr)(S:Nat->Bool)(f:Nat->Value)(ep:Nat):(ord w a S f ep).Perm ((aX S).map f):=by
 have e:(ents (aX S) f).toList.map (·.2)=(aX S).map f:=by simp[ents,Function.comp_def]
 unfold ord;by_cases h:byT w=true
 ·rw[if_pos h,←e];exact(A5s _ _).map _
 ·rw[if_neg h,e]
noncomputable def nslot (w:World)(S:Nat->Bool)(i:Nat):Nat:=if byT w=true then 0 else slot S i
section
theorem A1o (ho:s.heap.get? a=some (dY S f (!byT w) ep))(hi:i<=(aX S).length)(h:Q (((ord w a S f ep)[i]?).map λv=>(v,nslot w S (i+1))) s):
  wpAny (model prog w) A (setNext a (nslot w S i) i ep) Q E s:=by
 have hd:(dY S f (!byT w) ep).data= .set (ents (aX S) f) ep (tab (aX S) (!byT w)):=rfl;have hf:=lK S (!byT w) f;unfold setNext setsByText;refine zjZ (wpAny_setState_of ho hd hf ?_);dsimp only
 refine zjZ (zjZ (wpAny_askSetting (zjY ?_)));show wpAny _ _ (if byT w=true then _ else _) _ _ _;unfold ord nslot at h;unfold nslot;by_cases hb:byT w=true
 ·rw[if_pos hb]at h⊢;rw[if_pos hb]at h;rw[if_pos hb];rw[if_neg (by simp)];refine zjZ ?_;unfold setWalk setsByText;refine zjZ ((wpAny_setState_of ho hd hf ?_));dsimp only
  refine zjZ (zjZ (wpAny_askSetting (zjY ?_)));show wpAny _ _ (if byT w=true then _ else _) _ _ _;rw[if_pos hb];refine zjZ (wpAny_askSetting (zjY ?_));refine zjY ?_;rw[getElem?_map,Array.getElem?_toList,Option.map_map]at h;exact h
 ·rw[if_neg hb]at h⊢;rw[if_neg hb]at h;rw[if_neg hb];have hb':byT w=false:=by simpa using hb
  show wpAny _ _ (if (!true&&decide ((ents (aX S) f).size>1))=true then _ else _) _ _ _;rw[if_neg (by simp)];show wpAny _ _ ((if (!(!byT w)&& !(ents (aX S) f).isEmpty)=true then unsupported "set:maker-not-led" else pure ())>>=_) _ _ _;rw[hb',if_neg (by simp)];refine zjZ (zjY (zjY ?_));show Q (match (ents (aX S) f)[SetTable.below (aX S).toArray (slot S i)]?,(aX S).toArray[SetTable.below (aX S).toArray (slot S i)]? with|some (_,x),some j=>some (x,j+1)|_,_=>none) s;rw[A8h S i hi];rw[getElem?_map,Array.getElem?_toList]at h;by_cases hl:i<(aX S).length
  ·have e1:(ents (aX S) f)[i]?=some (((aX S)[i]:Int),f (aX S)[i]):=by simp[ents,hl]
   have e2:(aX S).toArray[i]?=some (aX S)[i]:=by simp[hl]
   rw[e1]at h⊢;rw[e2];have e3:slot S (i+1)=(aX S)[i]+1:=by unfold slot;rw[if_neg (by omega)];simp[hl]
   rw[e3]at h;exact h
  ·have e1:(ents (aX S) f)[i]?=none:=by simp[ents];omega
   rw[e1]at h⊢;exact h
end
noncomputable abbrev nR (h:Heap)(I a:Addr)(sl i n ep:Nat):Prop:=h.get? I=some {cls:=.type "set_iterator",dict:=none,data:=.fields #[.int sl 0,.int i 0,.ref a,.int n 0,.int ep 0],slots:=#[]}
theorem slot_next:Slot "set_iterator" "__next__" "set_iterator.__next__":=.of (owner:="set_iterator") (n:="__next__") (by rw[typeLookup_type,builtinLookup_eq_fast];kernel_rfl) (by decide +kernel) (by decide +kernel) (by decide +kernel) (by first|exact .inl (by decide +kernel)|exact .inr (by decide +kernel)) (by rw[isSubtype_type];kernel_rfl)
theorem xD:Slot "set_iterator" "__iter__" "set_iterator.__iter__":=.of (owner:="set_iterator") (n:="__iter__") (by rw[typeLookup_type,builtinLookup_eq_fast];kernel_rfl) (by decide +kernel) (by decide +kernel) (by decide +kernel) (by first|exact .inl (by decide +kernel)|exact .inr (by decide +kernel)) (by rw[isSubtype_type];kernel_rfl)
theorem wQ:entryFor table "set_iterator.__next__" =some Builtin.«set_iterator.__next__»:=entryFor_of_tree (by kernel_rfl)
theorem B2n:entryFor table "set_iterator.__iter__" =some Builtin.«dict_keyiterator.__iter__»:=entryFor_alias (id':="dict_keyiterator.__iter__") (by kernel_rfl) rfl (by decide +kernel) (by kernel_rfl)
theorem A5v:entryFor table "set.__iter__" =some Builtin.«frozenset.__iter__»:=entryFor_alias (id':="frozenset.__iter__") (by kernel_rfl) rfl (by decide +kernel) (by kernel_rfl)
theorem uS (a:Value):argsOk "set_iterator.__next__" ⟨[a],[]⟩:=by unfold argsOk;kernel_rfl
theorem B0v (a:Value):argsOk "set_iterator.__iter__" ⟨[a],[]⟩:=by unfold argsOk;kernel_rfl
theorem lX (w:World)(a:Addr)(S:Nat->Bool)(f:Nat->Value)(ep:Nat):(ord w a S f ep).length=(aX S).length:=by rw[(xR w a S f ep).length_eq,length_map]
section
theorem A6o (ho:s.heap.get? a=some (dY S f (!byT w) ep))
  (h:Q (.ref s.heap.objs.size) {s with heap:=s.heap.push {cls:=.type "set_iterator",data:=.fields #[.int 0 0,.int 0 0,.ref a,.int (aX S).length 0,.int ep 0]}}):wpAny (model prog w) A (pyIter (.ref a)) Q E s:=by
 have hd:(dY S f (!byT w) ep).data= .set (ents (aX S) f) ep (tab (aX S) (!byT w)):=rfl;have hf:=lK S (!byT w) f;have hT:s.TypeIs (.ref a) "set":=⟨_,ho,rfl⟩;refine wpAny_pyIter_slot hT PySem.F.slot_set_iter (wpAny_call_entry PySem.F.slot_set_iter hT A5v ?_ (PySem.F.args_set_iter_1 _));unfold Builtin.«frozenset.__iter__»;refine zjZ (zjY ?_);unfold Builtin.Frozenset.sizeOf;refine zjZ (zjZ (wpAny_setEntries_of ho hd hf (zjY ?_)));refine zjZ ?_;unfold setDrawn setsByText;refine zjZ (wpAny_setState_of ho hd hf ?_);dsimp only
 refine zjZ (zjZ (wpAny_askSetting (zjY ?_)));refine zjY ?_;show wpAny _ _ (if (!byT w&&(!true&&decide ((ents (aX S) f).size>1)))=true then _ else _) _ _ _;rw[if_neg (by simp)];refine zjZ (zjY ?_);unfold setEpoch;refine zjZ (zjZ (wpAny_setState_of ho hd hf (zjY ?_)));unfold newFields;refine zjZ (wpAny_newObj_type (zjY ⟨_,rfl,"set_iterator",_,⟨_,get?_push_size _ rfl,rfl⟩,slot_next.lookup,?_⟩) (by simp[sizeOk,sizeLine_eq]));rw[kI];exact h
theorem A4x (hh:A.handled=none)(I a:Addr)(hne:a≠I)(S:Nat->Bool)(f:Nat->Value)(ep:Nat):
  Walks prog w A I [I,a] [I] (aX S).length (λi v=>(ord w a S f ep)[i]?=some v) (λi h=>nR h I a (nslot w S i) i (aX S).length ep/\h.get? a=some (dY S f (!byT w) ep))where
 sub:=λb hb=>by simp at hb;simp[hb]
 frame:=λ_ _ _ st hk=> ⟨hk I (by simp) _ st.1,hk a (by simp) _ st.2⟩
 item:=λi s Q E hi st hQ=>by
  obtain⟨hit,ho⟩:=st;have hd:(dY S f (!byT w) ep).data= .set (ents (aX S) f) ep (tab (aX S) (!byT w)):=rfl;have hf:=lK S (!byT w) f;have hT:s.TypeIs (.ref I) "set_iterator":=⟨_,hit,rfl⟩;have hlt:i<(ord w a S f ep).length:=by rw[lX];exact hi
  unfold pyNext;refine zjZ (wpAny_attempt (wpAny_callSpecial?_slot (name:=Str.ofString "__next__") hT slot_next (wpAny_call_entry slot_next hT wQ ?_ (uS _))));unfold Builtin.«set_iterator.__next__»;refine zjZ (zjY ?_);refine zjZ (wpAny_fieldsOf hit rfl ?_);refine zjZ (wpAny_setEntries_of ho hd hf ?_);rw[if_neg (by rw[kI];simp)];refine zjZ (A1o (i:=i) (ep:=ep) ho (le_of_lt hi) ?_);rw[getElem?_eq_getElem hlt];refine zjZ (wpAny_setField_rec hit (by simp) λh1 g1 s1=> ?_);refine zjZ (wpAny_setField_rec g1 (by simp) λh2 g2 s2=> ?_);refine zjY ⟨_,rfl,zjY ?_⟩;refine hQ _ h2 s.toks (getElem?_eq_getElem hlt) ⟨?_,?_⟩ λb o hb e=> ?_
  ·have e:((i+1:Nat):Int)=(i:Int)+1:=by omega
   unfold nR;rw[e];simpa [rawInt]using g2
  ·exact(s2.2 a hne).trans ((s1.2 a hne).trans ho)
  ·have:b≠I:=λz=>hb (by simp[z]);exact(s2.2 b this).trans ((s1.2 b this).trans e)
 done:=λs Q E st hQ=>by
  obtain⟨hit,ho⟩:=st;have hd:(dY S f (!byT w) ep).data= .set (ents (aX S) f) ep (tab (aX S) (!byT w)):=rfl;have hf:=lK S (!byT w) f;have hT:s.TypeIs (.ref I) "set_iterator":=⟨_,hit,rfl⟩;unfold pyNext;refine zjZ (wpAny_attempt (wpAny_callSpecial?_slot (name:=Str.ofString "__next__") hT slot_next (wpAny_call_entry slot_next hT wQ ?_ (uS _))));unfold Builtin.«set_iterator.__next__»;refine zjZ (zjY ?_);refine zjZ (wpAny_fieldsOf hit rfl ?_);refine zjZ (wpAny_setEntries_of ho hd hf ?_);rw[if_neg (by rw[kI];simp)];refine zjZ (A1o (i:=(aX S).length) (ep:=ep) ho (zjQ _) ?_);rw[List.getElem?_eq_none (by rw[lX];exact zjQ _)];refine zjZ (wpAny_setField hit rfl (by simp) ?_);show wpAny _ _ (newExc (.type "StopIteration") []>>=_) _ _ _;refine zjZ ?_;simp only[newExc,newTuple];refine zjZ (wpAny_newObj_type ?_ (by size_fits));refine zjZ (m:=firstArgMember _ _) (wpAny_of_eq (a:=Value.none) (by first|rfl| (simp only[firstArgMember];rfl)) ?_);refine wpAny_newObj_type ?_ (by size_fits);simp only[raiseNew];refine zjZ (wpAny_handled ?_);rw[show A.in1.handled=none from hh];refine zjZ (zjY (wpAny_throw ?_));refine zjZ (wpAny_isInstance (T:="StopIteration") (b:=true) ⟨_,get?_push_size _ rfl,rfl⟩ isSubtype_stop ?_);have go:∀h':Heap,Heap.ExtBut I s.heap h'->Q none {s with heap:=h',toks:=s.toks}:=λh' hx=>hQ h' s.toks λb o hb e=>hx b o (λz=>hb (by simp[z])) e;exact zjY (go _ (((Heap.SameBut.update ..).extBut.push _).push _))
 self:=λi s Q E st hQ=>by
  have hT:s.TypeIs (.ref I) "set_iterator":=⟨_,st.1,rfl⟩;refine wpAny_pyIter_slot hT xD (wpAny_call_entry xD hT B2n ?_ (B0v _));show wpAny _ _ (ret (.ref I)) _ _ s;exact zjY ⟨_,rfl,"set_iterator",_,hT,slot_next.lookup,hQ⟩
end
section
theorem A95 (hT:s.TypeIs (.ref a) "set")(h:Q false s):wpAny (model prog w) A (Builtin.List.listLengthHint (.ref a)) Q E s:=by
 unfold Builtin.List.listLengthHint;refine zjZ (wpAny_specialOf hT PySem.F.slot_set_len.lookup ?_)
 show wpAny _ _ (do if !(←isInstance (.ref a) (.type "set"))then unsupported _ else pure ()
                    let .ref _←typeOf (.ref a)|return false
                    _) _ _ _
 refine zjZ (wpAny_isInstance hT sub_set_self ?_);simp only[Bool.not_true,Bool.false_eq_true,if_false];refine zjZ (wpAny_typeOf hT ?_);exact zjY h
theorem A2s (hh:A.handled=none)(ho:s.heap.get? a=some (dY S f (!byT w) ep))
  (h:∀h1 tk,(∀b o,s.heap.get? b=some o->h1.get? b=some o)->s.heap.objs.size<=h1.objs.size->Q (ord w a S f ep) {s with heap:=h1,toks:=tk}):wpAny (model prog w) A (collect (.ref a)) Q E s:=by
 have la:a<s.heap.objs.size:=zjT ho;unfold collect;refine zjZ (wpAny_runValue (codeAny_builtin PySem.F.entry_proto_collect ?_));rw[Around.under_plainId PySem.F.plain_proto_collect _];show wpAny _ A.in1 (newList []>>=λl=>again (.builtin "list.__iadd__" ⟨[l,.ref a],[]⟩)) _ _ s;refine zjZ (wpAny_newObj_type (zjY ⟨plainId_quiet PySem.F.plain_list_iadd _,codeAny_builtin PySem.F.entry_list_iadd ?_⟩));rw[Around.under_plainId PySem.F.plain_list_iadd _];generalize hg1:s.heap.push {cls:=.type "list",data:=.seq ([]:List Value).toArray}=g1;have k1:∀b o,s.heap.get? b=some o->g1.get? b=some o:=λb o e=>by rw[←hg1];exact zjX _ e
 have l1:g1.get? s.heap.objs.size=some {cls:=.type "list",data:=.seq #[]}:=by rw[←hg1];exact get?_push_size _ rfl
 have z1:g1.objs.size=s.heap.objs.size+1:=by rw[←hg1,size_push]
 have o1:=k1 _ _ ho;have hT1:Shared.TypeIs {s with heap:=g1} (.ref a) "set":=⟨_,o1,rfl⟩;have neA:s.heap.objs.size≠a:=ne_of_gt la;show wpAny _ A.in1 (Builtin.List.listExtendWith (.ref s.heap.objs.size) (.ref a) (.ref s.heap.objs.size)) _ _ {s with heap:=g1};unfold Builtin.List.listExtendWith;refine zjZ (wpAny_typeOf hT1 ?_);have e1:Builtin.List.listSameRef (.ref s.heap.objs.size) (.ref a)=false:=by simp[Builtin.List.listSameRef,neA]
 have e2:(Value.type "set" ==Value.type "list")=false:=by decide
 have e3:(Value.type "set" ==Value.type "tuple")=false:=by decide
 simp only[e1,e2,e3,Bool.or_false,Bool.false_eq_true,if_false];refine zjZ (A6o (s:={s with heap:=g1}) o1 ?_);generalize hg2:g1.push {cls:=.type "set_iterator",data:=.fields #[.int 0 0,.int 0 0,.ref a,.int (aX S).length 0,.int ep 0]}=g2;have k2:∀b o,g1.get? b=some o->g2.get? b=some o:=λb o e=>by rw[←hg2];exact zjX _ e
 have i2:nR g2 g1.objs.size a 0 0 (aX S).length ep:=by rw[←hg2];exact get?_push_size _ rfl
 have z2:g2.objs.size=g1.objs.size+1:=by rw[←hg2,size_push]
 have o2:=k2 _ _ o1;refine zjZ (wpAny_holding (A95 (s:={s with heap:=g2}) ⟨_,o2,rfl⟩ ?_));show wpAny _ A.in1 (rule "list.extend.makes-room" >>=λ_=>Builtin.List.listTouch (.ref s.heap.objs.size)>>=λ_=>again (.builtin "list.extend.loop" ⟨[.ref s.heap.objs.size,.ref g1.objs.size,.ref s.heap.objs.size],[]⟩)) _ _ {s with heap:=g2};refine zjZ (wpAny_rule ?_);have l2:=k2 _ _ l1;refine zjZ ?_;show wpAny _ A.in1 (updateSeq s.heap.objs.size (·.push .none)>>=λ_=>updateSeq s.heap.objs.size (·.pop)) _ _ {s with heap:=g2};refine zjZ (wpAny_updateSeq l2 rfl ?_);have l3:=get?_update_self (Obj.mapSeq (·.push Value.none)) l2 rfl;refine wpAny_updateSeq l3 rfl ?_;have l4:=get?_update_self (Obj.mapSeq (·.pop)) l3 rfl;have k4:∀b o,b≠s.heap.objs.size->g2.get? b=some o->((g2.update s.heap.objs.size (Obj.mapSeq (·.push Value.none))).update s.heap.objs.size (Obj.mapSeq (·.pop))).get? b=some o:=
  λb o hb e=>(get?_update_other _ _ (Ne.symm hb)).trans ((get?_update_other _ _ (Ne.symm hb)).trans e)
 have z4:((g2.update s.heap.objs.size (Obj.mapSeq (·.push Value.none))).update s.heap.objs.size (Obj.mapSeq (·.pop))).objs.size=s.heap.objs.size+2:=by rw[size_update,size_update,z2,z1]
 generalize (g2.update s.heap.objs.size (Obj.mapSeq (·.push Value.none))).update s.heap.objs.size (Obj.mapSeq (·.pop))=g4 at l4 k4 z4;have neI:a≠g1.objs.size:=by rw[z1];exact ne_of_lt (lt_succ_of_lt la)
 have neS:s.heap.objs.size∉[g1.objs.size,a]:=by
  rw[z1];intro hm;rcases mem_cons.mp hm with e|e
  ·exact absurd e (ne_of_lt (lt_succ_self _))
  ·exact neA (mem_singleton.mp e)
 have hh2:A.in1.handled=none:=by simp[hh]
 have i4:nR g4 g1.objs.size a (nslot w S 0) 0 (aX S).length ep:=by
  have:=k4 _ _ (by rw[z1];exact ne_of_gt (lt_succ_self _)) i2;have e:nslot w S 0=0:=by unfold nslot slot;split<;>rfl
  rw[e];exact this
 refine zjY ⟨plainId_quiet PySem.F.plain_extend_loop _,codeAny_extend_loopS ((A4x (prog:=prog) (w:=w) hh2 g1.objs.size a neI S f ep).toS) (by have:=lR (S 0) (S 1) (S 2) (S 3);show(L (S 0) (S 1) (S 2) (S 3)).length<=_;rw[sizeLine_eq];omega) s.heap.objs.size neS _ (aX S).length 0 {s with heap:=g4} _ _ rfl (zero_le _)
  ⟨i4,k4 _ _ neA.symm o2⟩ l4 (ItemsOf.nil _) λs' acc' c' hm hS' hacc=> ?_⟩
 show wpAny _ A (load s.heap.objs.size>>=_) _ _ s';refine zjZ (wpAny_load hS' ?_);have eacc:acc'.toList=ord w a S f ep:=by
  refine List.ext_getElem? λj=> ?_;rw[Array.getElem?_toList];by_cases hj:j<acc'.size
  ·rw[Array.getElem?_eq_getElem hj];exact(hacc.2 j acc'[j] (Array.getElem?_eq_getElem hj)).symm
  ·rw[Array.getElem?_eq_none (by omega),List.getElem?_eq_none (by rw[lX,←hacc.1];omega)]
 obtain⟨h',g',d',tk',os'⟩:=s';have eg:g'=s.gens:=hm.gens;have ed:d'=s.drawn:=hm.drawn;have eo:os'=s.os:=hm.os;subst eg;subst ed;subst eo;refine zjY ?_;show Q acc'.toList _;rw[eacc];have kk:∀b o,s.heap.get? b=some o->h'.get? b=some o:=λb o e=>by
  have hb:=zjT e;refine hm.heap b o (λhmm=> ?_) (k4 b o (ne_of_lt hb) (k2 _ _ (k1 _ _ e)));rcases mem_cons.mp hmm with z|z
  ·exact ne_of_lt hb z
  ·rw[z1]at z;exact ne_of_lt (lt_succ_of_lt hb) (mem_singleton.mp z)
 exact h h' tk' kk (le_of_lt (zjT hS'))
theorem A5y (S:Nat->Bool):((aX S).map λk:Nat=>(k:Int)).Pairwise (· <= ·):=by unfold aX;cases S 0<;>cases S 1<;>cases S 2<;>cases S 3<;>decide
end
end Set4
namespace L2
open PySem PySem.Spec PyProof.Rows Srt Set4
noncomputable def lN (w:World)(a:Addr)(S:Nat->Bool):HO:=.ext λh=>IsS4 h a S (!byT w)
section
theorem A62 (hc:X.calm=true):eD X (.type "set") (λxs H Q=> ∃(p:Addr)(ns:List Nat),xs=[.ref p]/\SqL X.K H p (ns.map λn:Nat=>V.int (n:Int))/\(∀n∈ns,n<4)/\∀l,H l=none->Q (.ref l) (upd H l (lN X.w l λk=>decide (k∈ns)))):=by
 intro pins s σ H xs us Q I r h;obtain⟨p,ns,rfl,hq,h4,q⟩:=h;obtain⟨u,rfl,rx⟩:=eZ r;cases rx;obtain⟨its,rv,pl,hz⟩:=I.list hq;have hl:=rv.length;rw[length_map]at hl;have hval:∀(i:Nat)(v:Value),its.toArray[i]?=some v->∃t,v= .int ((ns.getD i 0:Nat):Int) t:=λi v e=>by
  have e':its[i]?=some v:=by simpa using e
  have hi:i<ns.length:=by rw[hl];exact(zjW.mp e').1
  obtain⟨u,hu,ru⟩:=rv.get (i:=i) (x:=V.int ((ns[i]:Nat):Int)) (by rw[getElem?_map,getElem?_eq_getElem hi];rfl);rw[e']at hu;cases hu;rw[show ns.getD i 0=ns[i] by simp[hi]];exact ru
 refine A3v (I.ok.hd hc) pl.isList (val:=λi=>ns.getD i 0) hval (λi hi=> ?_) λh' tk hS hk=> ?_
 ·have hi':i<ns.length:=by rw[hl];simpa using hi
  show ns.getD i 0<4;rw[show ns.getD i 0=ns[i] by simp[hi']];exact h4 _ (getElem_mem _)
 ·have eS:acc (λi=>ns.getD i 0) its.toArray.size=λk=>decide (k∈ns):=funext λk=>by
   rw[Bool.eq_iff_iff,A0g,decide_eq_true_eq,size_toArray,←hl];constructor
   ·rintro⟨j,hj,e⟩;have e':ns.getD j 0=k:=e;rw[show ns.getD j 0=ns[j] by simp[hj]]at e';rw[←e'];exact getElem_mem _
   ·intro hm;obtain⟨j,hj,e⟩:=getElem_of_mem hm;exact⟨j,hj,by show ns.getD j 0=k;rw[show ns.getD j 0=ns[j] by simp[hj]];exact e⟩
  rw[eS]at hS;obtain⟨f,ep,hf,ho⟩:=id hS;exact⟨.ref s.heap.objs.size,_,I.laid (t':=tk) (λb o q=>hk b o (zjT q) q) (zjQ _) (o:=lN X.w _ _) ⟨hS,⟨_,ho⟩,λh1 h2 x e=>x.at e⟩,rfl,q _ (I.hok.fresh (zjQ _))⟩
theorem yV:∀{ns:List Int}{us:List Value},us.map numOf=ns->(∀u∈us,∃n t,u= .int n t)->Vals (ns.map V.int) us
 |_,[],rfl,_=> .nil
 |_,u::us,rfl,h=>by
  obtain⟨n,t,rfl⟩:=h u zjR;exact .cons ⟨t,rfl⟩ (yV rfl λv hv=>h v (zjS _ hv))
theorem A23 (hc:X.calm=true):eD X (.builtin "sorted") (λxs H Q=> ∃(p:Addr)(S:Nat->Bool),xs=[.ref p]/\H p=some (lN X.w p S)/\∀l,H l=none->Q (.ref l) (upd H l (.lst ((aX S).map λk:Nat=>V.int (k:Int))))):=by
 intro pins s σ H xs us Q I r h;obtain⟨p,S,rfl,hp,q⟩:=h;obtain⟨u,rfl,rx⟩:=eZ r;cases rx;obtain⟨⟨f,ep,hf,ho⟩,_,_⟩:=(show ObjOk X.prog X.w H s.heap p (lN X.w p S)from I.hok _ _ hp);have hperm:=xR X.w p S f ep;have hlen:=lX X.w p S f ep;have h4:(aX S).length<=4:=lR (S 0) (S 1) (S 2) (S 3);have hint:∀v∈ord X.w p S f ep,∃n t,v= .int n t:=λv hv=>by
  obtain⟨k,hk,rfl⟩:=mem_map.mp (hperm.mem_iff.mp hv);obtain⟨a,b⟩:=mem_mem4.mp hk;obtain⟨t,e⟩:=hf k a b;exact⟨_,t,e⟩
 generalize hvs:ord X.w p S f ep=vs at hperm hlen hint;have hnum:(vs.map numOf).Perm ((aX S).map λk:Nat=>(k:Int)):=by
  refine(hperm.map numOf).trans (List.Perm.of_eq ?_);rw[map_map];refine map_congr_left λk hk=> ?_;obtain⟨a,b⟩:=mem_mem4.mp hk;obtain⟨t,e⟩:=hf k a b;show numOf (f k)=_;rw[e];rfl
 have hI:IntsAre vs (vs.map numOf):=intsAre_map vs hint;refine wL (κ:=oneType') (r:=λi=>numOf (vs.getD i Value.none)) (vs:=vs) (by omega) (λh=>absurd h (by omega)) (λQ' k=>A2s (by simp[I.ok.hd hc]) ho λh1 tk k1 z1=>by rw[hvs];exact k h1 tk k1 z1) (λh1 tk k1 h2=> ⟨λQ2 q2=> ?_,λi j C hi hj hC=> ?_⟩) λD h' tk c pp hD hpm hu o' k'=> ?_
 ·obtain⟨v1,v2,rest,e⟩:∃v1 v2 rest,vs=v1::v2::rest:=by
   match vs,h2 with
   |v1::v2::rest,_=>exact⟨v1,v2,rest,rfl⟩
  subst e;rw[keyKind_ints hI];exact zjY q2
 ·show wpAny _ _ (keyLt' oneType' (vs.getD i Value.none) (vs.getD j Value.none)) C (λ_ _=>False) _;obtain⟨n,t,e⟩:=hint _ (getElem_mem hi);obtain⟨n2,t2,e2⟩:=hint _ (getElem_mem hj);have ei:vs.getD i Value.none= .int n t:=by rw[←e];simp[hi]
  have ej:vs.getD j Value.none= .int n2 t2:=by rw[←e2];simp[hj]
  have hC':C (decide (n<n2)) {s with heap:=h1,toks:=tk}:=by
   have z:decide ((λi=>numOf (vs.getD i Value.none)) i<(λi=>numOf (vs.getD i Value.none)) j)=decide (n<n2):=by
    refine decide_eq_decide.mpr ?_;show numOf (vs.getD i Value.none)<numOf (vs.getD j Value.none)↔_;rw[ei,ej];exact Iff.rfl
   rw[z]at hC;exact hC
  rw[ei,ej];exact W.kat_lt_int hC'
 ·have pperm:=Array.perm_iff_toList_perm.mp hpm;have outp:(pp.toList.map λi=>vs.getD i Value.none).Perm vs:=by
   refine(pperm.map λi=>vs.getD i Value.none).trans (List.Perm.of_eq ?_);exact yW vs
  have hup:((pp.toList.map λi=>vs.getD i Value.none).map numOf).Pairwise (· <= ·):=by
   rw[map_map,pairwise_map,pairwise_iff_getElem];intro i j hi hj hij;have hsz:pp.toList.length=vs.length:=by rw[Array.length_toList,hpm.size]
   have h1:=hu i j (by omega) (by omega);have e:∀k (hk:k<pp.toList.length),at' pp k=pp.toList[k]:=λk hk=>by
    have:k<pp.size:=by simpa using hk
    unfold at';simp[Array.getD,this]
   unfold R at h1;rw[e i hi,e j hj]at h1;exact h1
  have eout:(pp.toList.map λi=>vs.getD i Value.none).map numOf=(aX S).map λk:Nat=>(k:Int):=W.ksm_same ((outp.map numOf).trans hnum) hup (A5y S);have hv:Vals (((aX S).map λk:Nat=>(k:Int)).map V.int) (pp.toList.map λi=>vs.getD i Value.none):=yV eout λu hu'=>hint u (outp.mem_iff.mp hu');rw[map_map]at hv;exact⟨.ref D,_,I.laid (t':=tk) (o:=.lst ((aX S).map λk:Nat=>V.int (k:Int))) k' hD ⟨by rw[length_map,sizeLine_eq];omega,_,c,hv,o'⟩,rfl,q _ (I.hok.fresh hD)⟩
end
end L2
namespace L2
open PySem PySem.Spec PyProof.Rows
section
theorem rE (hc:X.calm=true):eD X (.builtin "sum") (λxs H Q=> ∃(p:Addr)(ns:List Int),xs=[.ref p]/\SqL X.K H p (ns.map V.int)/\ns.length<=1000/\(∀n∈ns,-10000<=n/\n<=10000)/\Q (.int ns.sum) H):=by
 intro pins s σ H xs us Q I r h;obtain⟨p,ns,rfl,hq,hl,hn,q⟩:=h;obtain⟨u,rfl,rx⟩:=eZ r;cases rx;obtain⟨its,rv,pl,hz⟩:=I.list hq;have hlen:=rv.length;rw[length_map]at hlen;have hlt:p<s.heap.objs.size:=by obtain⟨_,e,_⟩:=pl.isList;exact zjT e
 have long:∀z:Int,-10000000<=z->z<=10000000->InLong z:=λz h1 h2=>by unfold InLong;omega
 refine call_sum_walk (wpAny_pyIter_list pl.isList ?_);refine⟨s.heap.objs.size,[s.heap.objs.size,p],[s.heap.objs.size],its.toArray.size,_,_,λi=>(ns[i]?).getD 0,rfl,Walks.list (A:=X.A.in1) (by simp[I.ok.hd hc]) _ p (ne_of_lt hlt) its.toArray,⟨⟨_,get?_push_size _ rfl,rfl,rfl⟩,pl.isList.push _⟩,λb hb=> ?_,λi v hP=> ?_,λj hj=> ?_,λh' tk t' hk=> ?_⟩
 ·show b<(s.heap.push _).objs.size;rw[size_push];rcases mem_cons.mp hb with z|z
  ·rw[z];exact lt_succ_self _
  ·rw[mem_singleton.mp z];exact lt_succ_of_lt hlt
 ·have hP':its[i]?=some v:=by simpa using hP
  have hi:i<ns.length:=by rw[hlen];exact(zjW.mp hP').1
  obtain⟨u,hu,ru⟩:=rv.get (i:=i) (x:=.int ns[i]) (by rw[getElem?_map];simp[hi]);rw[hP']at hu;cases hu;obtain⟨t,rfl⟩:=ru;exact⟨t,by simp[hi]⟩
 ·have hj':j<ns.length:=by rw[size_toArray]at hj;omega
  refine⟨?_,?_⟩
  ·have:=hn ns[j] (getElem_mem hj');have e:(ns[j]?).getD 0=ns[j]:=by simp[hj']
   show InLong ((ns[j]?).getD 0);rw[e];exact long _ (by omega) (by omega)
  ·rw[lA];have:=sV (B:=10000) (by decide) (ns:=ns.take (j+1)) λn h=>hn n (mem_of_mem_take h);have h2:(ns.take (j+1)).length<=1000:=by rw[length_take];omega
   exact long _ (by omega) (by omega)
 ·have e:preSum (λi=>(ns[i]?).getD 0) its.toArray.size=ns.sum:=by
   rw[lA,size_toArray,←hlen,take_of_length_le (zjQ _)]
  rw[e];exact⟨.int _,H,I.kept (h':=h') (t':=tk) (LSm.kept_iter hk),⟨_,rfl⟩,q⟩
end
end L2
namespace M51
open PySem L2 PyProof.Rows
structure TxC (mg:Str->Option Value):Prop where
 isinstance:mg "isinstance" =none
 int:mg "int" =none
 bool:mg "bool" =none
 tuple:mg "tuple" =none
 len:mg "len" =none
 all:mg "all" =none
 any:mg "any" =none
 zip:mg "zip" =none
 range:mg "range" =none
 sum:mg "sum" =none
 list:mg "list" =none
 set:mg "set" =none
 sorted:mg "sorted" =none
 sorts:∃t,mg "MOST_SORTS" =some (.int 6 t)
 counted:∃t,mg "MOST_COUNTED" =some (.int 100 t)
 holders:∃t,mg "MOST_HOLDERS" =some (.int 4 t)
 rights:∃t,mg "MOST_RIGHTS" =some (.int 20 t)
 claims:∃t,mg "MOST_CLAIMS" =some (.int 12 t)
noncomputable def xV:Sp:=λvs H Q _=> ∃l ps prs,vs=[.ref l]/\H l=some (.lst (ps.map V.ref))/\PlAt H ps prs/\1<=prs.length/\prs.length<=100/\(prs.Pairwise λa b=>lt2 a b=true)/\∀H',Same H H'->Q (.bl true) H'
noncomputable def tD:Sp:=λvs H Q _=> ∃a cs,vs=[.ref a]/\gY H a cs/\gF cs/\∀H',Same H H'->Q (.bl true) H'
noncomputable def A1l:Sp:=λvs H Q _=> ∃(b:Addr)(c:C3),vs=[.ref b]/\H b=some (.tup [.int c.1,.int c.2.1,.int c.2.2])/\((0<=c.1/\c.1<=3)/\(0<=c.2.1/\c.2.1<=5)/\1<=c.2.2/\c.2.2<=20)/\Q (.bl true) H
noncomputable def qT:Sp:=λvs H Q _=> ∃a cl,vs=[.ref a]/\ClT H a cl/\gJ cl/\∀H',Same H H'->Q (.bl true) H'
noncomputable def yC:Sp:=λvs H Q _=> ∃a cs,vs=[.ref a]/\gY H a cs/\gF cs/\∀H',Same H H'->Q .non H'
noncomputable def qS:Sp:=λvs H Q _=> ∃a cl,vs=[.ref a]/\ClT H a cl/\gJ cl/\∀H',Same H H'->Q .non H'
section
variable {P:Program}{w:World}{K:W.Frag}{mg:Str->Option Value}{base:Heap}
theorem A9y (ps:List Addr)(h:1<=ps.length):cutV (ps.map V.ref) (some 1) none=(ps.drop 1).map V.ref:=by have e1:HT.sIx (ps.map V.ref).length 0 (some 1)=min 1 (ps.map V.ref).length:=HT.sIx_nat _ _ 1;have e2:HT.sIx (ps.map V.ref).length (ps.map V.ref).length none=(ps.map V.ref).length:=rfl;unfold cutV;rw[e1,e2,length_map,show min 1 ps.length=1 by omega,take_of_length_le (by rw[length_drop,length_map];omega),List.map_drop]
theorem PlAt.get2:∀{ps:List Addr}{cs:List (Int×Int)}{i:Nat}{p:Addr},PlAt H ps cs->ps[i]?=some p->∃c,cs[i]?=some c/\H p=some (.tup [.int c.1,.int c.2])
 |_,_,0,_,.cons r _,h=>by cases h;exact⟨_,rfl,r⟩
 |_,_,i+1,_,.cons _ t,h=>PlAt.get2 (i:=i) t (by simpa using h)
theorem A8g (F:D1 K mg "is_rising" sO ["things"])(T:TxC mg):A1 P w K mg base 1 "is_rising" xV:=by
 refine F.k ["things"] ?_;ac_nf
 ·obtain⟨l,ps,prs,rfl,hl,hP,h1,h100,hup,q⟩:=h;have hlen:ps.length=prs.length:=Paired.length hP;refine⟨_,aM (bC (bE (fL rfl) rfl T.all boot_all (cO (bN (bB sO).names ["things"] ["one","other"] [] rfl (qZ kL_ok rfl T.zip (aG (pv 0) (eX (jV jY (pv 0) (gZ aV) nL) aB))) rfl rfl rfl (by decide +kernel)
   (λZ=>bP rfl (bA (nm1 0 zK) (bA (nm1 1 zK) bR))) (λZ=>cF) (λZ=>eW (A2u (lt_of_succ_lt (A29 hr))) (pv 0) (pv 1) (nomark _))) aB))),?_⟩
  refine⟨_,rfl,_,rfl,_,rfl,l,_,rfl,SqL.of hl,λt ht=> ?_⟩;rw[A9y ps (by omega)];have s1:=aQ (o:=.lst ((ps.drop 1).map V.ref)) ht;refine⟨l,t,ps.map V.ref,(ps.drop 1).map V.ref,rfl,SqL.of (s1 _ _ hl),SqL.of aJ,λZ r hr'=> ?_⟩;have sH:Same H (upd H t (.lst ((ps.drop 1).map V.ref))):=s1;refine lT (xs:=ps.map V.ref) (ys:=(ps.drop 1).map V.ref) (by rw[length_map,length_map,length_drop];omega) (λi σ H'=>σ.length=2/\Same (upd H t (.lst ((ps.drop 1).map V.ref))) H'/\H' r=some (.lst (((ps.drop 1).take i).map λ_=>V.bl true))) ⟨rfl,aQ hr',by rw[aJ];rfl⟩
   (λi σ H' h=> ⟨SqL.of (h.2.1 _ _ (s1 _ _ hl)),SqL.of (h.2.1 _ _ aJ)⟩) ?_ ?_
  ·rintro i x y p3 σ H' hx hy ⟨hσ,hs,hl'⟩ hp3
   match σ,hσ with
   | [x0,x1],_=>
   rw[getElem?_map]at hx hy;cases hb:ps[i]? with
   |none=>rw[hb]at hx;cases hx
   |some b=>
   cases hb2:(ps.drop 1)[i]? with
   |none=>rw[hb2]at hy;cases hy
   |some b2=>
   rw[hb]at hx;cases hx;rw[hb2]at hy;cases hy;have hb2':ps[i+1]?=some b2:=by rw[getElem?_drop]at hb2;rw[show i+1=1+i by omega];exact hb2
   obtain⟨c,hc,he⟩:=PlAt.get2 hP hb;obtain⟨c2,hc2,he2⟩:=PlAt.get2 hP hb2';have s3:=aQ (o:=.tup [.ref b,.ref b2]) hp3;refine⟨p3,_,rfl,SqT.of aJ,rfl,_,_,rfl,_,_,rfl,rfl,?_⟩;refine gO ?_;refine⟨_,rfl,_,rfl,b,b2,[c.1,c.2],[c2.1,c2.2],rfl,rfl,SqT.of (s3 _ _ (hs _ _ (s1 _ _ he))),SqT.of (s3 _ _ (hs _ _ (s1 _ _ he2))),?_⟩;have hlt:HT.lexLt [c.1,c.2] [c2.1,c2.2]=true:=by
    obtain⟨g1,e1⟩:=zjW.mp hc;obtain⟨g2,e2⟩:=zjW.mp hc2;have:=pairwise_iff_getElem.mp hup i (i+1) g1 g2 (by omega);rw[e1,e2]at this;exact this
   rw[hlt];have hi:i<(ps.drop 1).length:=(zjW.mp hb2).1;rw[length_drop]at hi;refine⟨_,s3 _ _ hl',bW (by rw[length_map,length_take];omega),rfl,λb' u e'=> ?_,?_⟩
   ·rw[aY (bH e' hr')];exact s3 _ _ (hs _ _ e')
   ·rw[aJ,take_succ,hb2,map_append];rfl
  ·rintro σ H' ⟨_,hs,hl'⟩;rw[length_map,take_of_length_le (zjQ _)]at hl';refine⟨r,(ps.drop 1).map λ_=>true,rfl,SqL.of (by rw[hl',map_map];rfl),?_⟩;rw[show((ps.drop 1).map λ_=>true).all id=true by rw[all_map];exact all_eq_true.mpr λ_ _=>rfl];exact q H' (s1.trans hs)
theorem A28 (F:D1 K mg "is_custom" qR ["thing"])(T:TxC mg)(a1:A1 P w K mg base 1 "is_tuple_within" gK)(a2:A1 P w K mg base 2 "is_number_within" jT):A1 P w K mg base 3 "is_custom" tD:=by
 obtain⟨t1,mS⟩:=T.sorts;obtain⟨t2,mC⟩:=T.counted;refine F.k ["thing"] ?_;ac_nf
 ·obtain⟨a,cs,rfl,ha,G,q⟩:=h;have ha':H a=some (.tup (cs.map V.int)):=ha;have hz:(cs.map V.int).length<=1000:=by rw[length_map];have:=G.l6;omega
  have kn:Kn H 2 (.ref a):=KnA.tup ha' hz (λx hx=>by obtain⟨i,_,rfl⟩:=mem_map.mp hx;exact KnA.int i) 2;refine⟨_,aU (bK (cC (bM (a1.c hr (bD (pv 0) (bD aV (bD (dS (v:=.int 6) rfl mS ⟨_,rfl⟩) aB)))))) fQ bL)
   (aM (bC (bE (fL rfl) rfl T.all boot_all (bD (bN (bB qR).names ["thing"] ["counted"] [] rfl (cR (pv 0)) rfl rfl rfl (by decide +kernel)
    (λZ=>aK (i:=0) (show(["counted"]:List Str).Nodup by decide +kernel) rfl (Or.inl rfl)) (λZ=>cF)
    (λZ=>a2.c hr (bD (pv 0) (bD aV (bD (dS (v:=.int 100) rfl mC ⟨_,rfl⟩) aB))))) aB)))),?_⟩
  refine⟨_,rfl,_,1,6,rfl,kn.le (by decide),_,rfl,?_⟩;have ht:dL H 1 6 (.ref a)=true:=by
   unfold dL;rw[iI ha'];have h1:=G.l1;have h6:=G.l6;simp only[length_map,Bool.and_eq_true,decide_eq_true_eq];omega
  rw[ht];refine bQ ?_;refine⟨_,rfl,a,rfl,⟨_,SqT.of ha'⟩,λZ l hl=> ?_⟩;refine fZ (λx=> .bl (dU 1 100 x)) ha' hl hz (λx H' Q' hm hs hq=> ?_) λσ H' hs hl'=> ?_
  ·obtain⟨i,_,rfl⟩:=mem_map.mp hm;exact⟨_,rfl,_,1,100,rfl,KnA.int i 1,hq _ (Same.refl _)⟩
  ·refine⟨l,(cs.map V.int).map (dU 1 100),rfl,SqL.of (by rw[hl'];simp only[map_map];rfl),?_⟩;have:((cs.map V.int).map (dU 1 100)).all id=true:=by
    rw[all_map,all_map,all_eq_true];intro i hi;have:=G.num i hi;show(decide (1<=i)&&decide (i<=100))=true;simp only[Bool.and_eq_true,decide_eq_true_eq];exact this
   rw[this];exact q H' hs
theorem qM {lo hi i:Int}(h1:lo<=i)(h2:i<=hi):dU lo hi (.int i)=true:=by simp[dU,h1,h2]
theorem B19 (F:D1 K mg "is_claim" A1i ["thing"])(T:TxC mg)(a1:A1 P w K mg base 1 "is_tuple_within" gK)(a2:A1 P w K mg base 2 "is_number_within" jT):A1 P w K mg base 3 "is_claim" A1l:=by
 obtain⟨t1,mS⟩:=T.sorts;obtain⟨t2,mH⟩:=T.holders;obtain⟨t3,mR⟩:=T.rights;refine F.k ["thing","holder","sort","many"] ?_;ac_nf
 ·obtain⟨b,c,rfl,hb,⟨n1,n2,n3⟩,q⟩:=h;have kn:Kn H 1 (.ref b):=.inr (.inr ⟨_,hb,by show 3<=1000;decide,λx _=>True.intro⟩);refine⟨_,aU (bK (cC (bM (a1.c hr (bD (pv 0) (bD aV (bD aV aB)))))) fQ bL)<|
   aU (eO (pv 0) (bP rfl (bA (nm1 1 nd) (bA (nm1 2 nd) (bA (nm1 3 nd) bR)))))<|
   aU (bK (PW.pt (jA (cC (bM (a2.c hr (bD (pv 1) (bD aV (bD (bG fK (dS (v:=.int 4) rfl mH ⟨_,rfl⟩) aV) aB))))))
    (jX (cC (bM (a2.c hr (bD (pv 2) (bD aV (bD (bG fK (dS (v:=.int 6) rfl mS ⟨_,rfl⟩) aV) aB))))))))) fQ bL)<|
   aM (bC (a2.c hr (bD (pv 3) (bD aV (bD (dS (v:=.int 20) rfl mR ⟨_,rfl⟩) aB))))),?_⟩
  refine⟨_,rfl,_,3,3,rfl,kn,_,rfl,?_⟩;have ht:dL H 3 3 (.ref b)=true:=by unfold dL;rw[iI hb];rfl
  rw[ht];refine bQ ?_;refine⟨_,rfl,b,_,rfl,SqT.of hb,rfl,_,_,rfl,_,_,rfl,_,_,rfl,rfl,?_⟩;refine⟨_,rfl,_,_,rfl,rfl,_,0,3,rfl,KnA.int _ 1,_,rfl,?_⟩;rw[qM n1.1 n1.2];refine bQ ?_;refine⟨_,rfl,_,_,rfl,rfl,_,0,5,rfl,KnA.int _ 1,_,rfl,?_⟩;rw[qM n2.1 n2.2];refine bQ ?_;refine⟨_,rfl,_,1,20,rfl,KnA.int _ 1,?_⟩;rw[qM n3.1 n3.2];exact q
end
end M51
namespace M51
open PySem L2 PyProof.Rows Set4 Grd Wlk Cyc Srt
noncomputable def cM (cl:List C3)(i:Int):Bool:=cl.any λc=>decide (c.1=i)
noncomputable def cD (cl:List C3):Nat->Bool:=λk=>cM cl (k:Int)
noncomputable def rY:Sp:=λvs H Q _=> ∃c a cs cl,vs=[.ref c,.ref a]/\gY H c cs/\ClT H a cl/\cl.length<=12/\iY cs cl/\∀H',Same H H'->Q (.bl true) H'
noncomputable def xQ:Sp:=λvs H Q _=> ∃c a cs cl,vs=[.ref c,.ref a]/\gY H c cs/\gF cs/\ClT H a cl/\gJ cl/\iY cs cl/\∀H',Same H H'->Q .non H'
noncomputable def gT (cl:List C3):V->Bool| .int i=>cM cl i|_=>false
noncomputable def mT:Sp:=λvs H Q _=> ∃a cl u,vs=[.ref a,u]/\ClT H a cl/\cl.length<=12/\Kn H 1 u/\∀H',Same H H'->Q (.bl (gT cl u)) H'
noncomputable def nQ:Sp:=λvs H Q _=> ∃a cl i,vs=[.ref a,.int i]/\ClT H a cl/\cl.length<=12/\cM cl i=true/\∀H',Same H H'->Q .non H'
noncomputable def sJ:Sp:=λvs H Q _=> ∃a cl,vs=[.ref a]/\ClT H a cl/\gJ cl/\∀l H',H l=none->Same H H'->H' l=some (.lst ((aX (cD cl)).map λk:Nat=>V.int (k:Int)))->Q (.ref l) H'
theorem ClT.kn (h:ClT H a cl)(hz:cl.length<=12)(n:Nat):Kn H n (.ref a):=by obtain⟨bs,h1,h2⟩:=h;have hl:bs.length=cl.length:=Paired.length h2;refine KnA.tup h1 (by rw[length_map];omega) (λx hx=> ?_) n;obtain⟨b,hb,rfl⟩:=mem_map.mp hx;obtain⟨i,hi⟩:=List.getElem?_of_mem hb;obtain⟨c,hc,he⟩:=h2.get hi;refine KnA.tup he (by show 3<=1000;decide) λy hy=> ?_;simp only[mem_cons,not_mem_nil,or_false]at hy;rcases hy with rfl|rfl|rfl<;>exact KnA.int _
section
variable {P:Program}{w:World}{K:W.Frag}{mg:Str->Option Value}{base:Heap}
theorem nd3:(["holder","sort","many"]:List Str).Nodup:=by decide +kernel
theorem A52 (F:D1 K mg "are_claims" oM ["thing"])(T:TxC mg)(a1:A1 P w K mg base 1 "is_tuple_within" gK)(a2:A1 P w K mg base 3 "is_claim" A1l)(a3:A1 P w K mg base 1 "is_rising" xV):A1 P w K mg base 4 "are_claims" qT:=by
 obtain⟨t1,mC⟩:=T.claims;refine F.k ["thing"] ?_;ac_nf
 ·obtain⟨a,cl,rfl,hA,G,q⟩:=h;have kn:=ClT.kn hA G.l12 1;obtain⟨bs,ha,hC⟩:=hA;have hl:bs.length=cl.length:=Paired.length hC;have hz:(bs.map V.ref).length<=1000:=by rw[length_map];have:=G.l12;omega
  refine⟨_,aU (bK (PW.pt (jA (cC (bM (a1.c hr (bD (pv 0) (bD aV (bD (dS (v:=.int 12) rfl mC ⟨_,rfl⟩) aB))))))
    (jX (cC (bM (bE (fL rfl) rfl T.all boot_all (bD (bN (bB oM).names ["thing"] ["claim"] [] rfl (cR (pv 0)) rfl rfl rfl (by decide +kernel)
     (λZ=>aK (i:=0) (show(["claim"]:List Str).Nodup by decide +kernel) rfl (Or.inl rfl)) (λZ=>cF) (λZ=>a2.c hr (bD (pv 0) aB))) aB))))))) fQ bL)<|
   aM (bC (a3.c hr (cO (bN (bB oM).names ["thing"] ["holder","sort","many"] [] rfl (cR (pv 0)) rfl rfl rfl (by decide +kernel)
     (λZ=>bP rfl (bA (nm1 0 nd3) (bA (nm1 1 nd3) (bA (nm1 2 nd3) bR)))) (λZ=>cF) (λZ=>dC (bD (pv 0) (bD (pv 1) aB)))) aB))),?_⟩
  refine⟨_,rfl,_,1,12,rfl,kn,_,rfl,?_⟩;have ht:dL H 1 12 (.ref a)=true:=by
   unfold dL;rw[iI ha];have h1:=G.l1;have h6:=G.l12;simp only[length_map,Bool.and_eq_true,decide_eq_true_eq];omega
  rw[ht];refine bQ ?_;refine⟨_,rfl,a,rfl,⟨_,SqT.of ha⟩,λZ l hl'=> ?_⟩;refine fZ (λ_=> .bl true) ha hl' hz (λx H' Q' hm hs hq=> ?_) λσ H1 hs1 hl1=> ?_
  ·obtain⟨b,hb,rfl⟩:=mem_map.mp hm;obtain⟨i,hi⟩:=List.getElem?_of_mem hb;obtain⟨c,hc,he⟩:=hC.get hi;exact⟨_,rfl,b,c,rfl,hs _ _ he,G.num c (mem_of_getElem? hc),hq _ (Same.refl _)⟩
  ·refine⟨l,(bs.map V.ref).map λ_=>true,rfl,SqL.of (by rw[hl1];simp only[map_map];rfl),_,rfl,?_⟩;rw[show((bs.map V.ref).map λ_=>true).all id=true by rw[all_map];exact all_eq_true.mpr λ_ _=>rfl];refine bQ ?_;refine⟨_,rfl,a,rfl,⟨_,SqT.of (hs1 _ _ ha)⟩,λZ2 l2 hl2=> ?_⟩;refine A9l gP (λH' hs=>SqT.of (hs _ _ (hs1 _ _ ha))) (hC.ext hs1.ext) hl2 (by have:=G.l12;omega) λσ H2 ps hs2 hl2' hP=> ?_;have hpl:=Paired.length hP;rw[length_map]at hpl;refine⟨l2,ps,_,rfl,hl2',hP,by rw[length_map];exact G.l1,by rw[length_map];have:=G.l12;omega,G.up,λH3 hs3=>q H3 ((hs1.trans hs2).trans hs3)⟩
theorem A4u (F:D1 K mg "check_custom" A0x ["custom"])(a1:A1 P w K mg base 3 "is_custom" tD):A1 P w K mg base 4 "check_custom" yC:=by
 refine F.k ["custom"] ?_;ac_nf
 ·obtain⟨a,cs,rfl,hA,G,q⟩:=h;refine⟨_,aM (bK (cC (bM (a1.c hr (aG (pv 0) aB)))) fQ bL),?_⟩;exact⟨_,rfl,a,cs,rfl,hA,G,λH' hs=> ⟨_,rfl,bQ (q H' hs)⟩⟩
theorem A79 (F:D1 K mg "check_claims" yT ["claims"])(a1:A1 P w K mg base 4 "are_claims" qT):A1 P w K mg base 5 "check_claims" qS:=by
 refine F.k ["claims"] ?_;ac_nf
 ·obtain⟨a,cl,rfl,hA,G,q⟩:=h;refine⟨_,aM (bK (cC (bM (a1.c hr (aG (pv 0) aB)))) fQ bL),?_⟩;exact⟨_,rfl,a,cl,rfl,hA,G,λH' hs=> ⟨_,rfl,bQ (q H' hs)⟩⟩
theorem jN:(["holder","sort","many","custom"]:List Str).Nodup:=by decide +kernel
theorem A4b (F:D1 K mg "stand_under" pF ["custom","claims"])(T:TxC mg):A1 P w K mg base 1 "stand_under" rY:=by
 refine F.k ["custom","claims"] ?_;ac_nf
 ·obtain⟨c,a,cs,cl,rfl,hc,⟨bs,ha,hC⟩,h12,hU,q⟩:=h;have hl:bs.length=cl.length:=Paired.length hC;refine⟨_,aM (bC (bE (fL rfl) rfl T.all boot_all (cO (bN (bB pF).names ["custom","claims"] ["holder","sort","many"] [("custom",0)] rfl (cR (pv 1)) rfl rfl rfl (by decide +kernel)
   (λZ=>bP rfl (bA (nm1 0 jN) (bA (nm1 1 jN) (bA (nm1 2 jN) bR)))) (λZ=>cF)
   (λZ=>eW iQ (pv 1) (bE fF rfl T.len PySem.boot_len (bD (pv 3) aB)) (nomark _))) aB))),?_⟩
  refine⟨_,rfl,a,rfl,⟨_,SqT.of ha⟩,λZ l hl'=> ?_⟩;refine kN (rest:=[some (.ref c)]) gP (λH' hs=>SqT.of (hs _ _ ha)) hC hl' (by omega) (λ_=> .bl true) (λx H' Q' hm hs hq=> ?_) λσ H1 hs1 hl1=> ?_
  ·refine⟨_,rfl,_,rfl,c,_,rfl,.inr (SqT.of (hs _ _ hc)),_,_,rfl,rfl,?_⟩;show Q' (.bl (decide (x.2.1<((cs.map V.int).length:Int)))) H';rw[length_map,zjV (hU x hm)];exact hq _ (Same.refl _)
  ·refine⟨l,cl.map λ_=>true,rfl,SqL.of (by rw[hl1];simp only[map_map];rfl),?_⟩;rw[show(cl.map λ_=>true).all id=true by rw[all_map];exact all_eq_true.mpr λ_ _=>rfl];exact q _ hs1
theorem A9b (F:D1 K mg "check_claims_under" xZ ["custom","claims"])(a1:A1 P w K mg base 4 "check_custom" yC)(a2:A1 P w K mg base 5 "check_claims" qS)(a3:A1 P w K mg base 1 "stand_under" rY):A1 P w K mg base 6 "check_claims_under" xQ:=by
 refine F.k ["custom","claims"] ?_;ac_nf
 ·obtain⟨c,a,cs,cl,rfl,hc,Gc,hA,G,hU,q⟩:=h;refine⟨_,aU (cK (a1.c hr (aG (pv 0) aB)))<|aU (cK (a2.c hr (aG (pv 1) aB)))<|
   aM (bK (cC (bM (a3.c hr (aG (pv 0) (aG (pv 1) aB))))) fQ bL),?_⟩
  refine⟨_,rfl,c,cs,rfl,hc,Gc,λH1 s1=> ?_⟩;refine⟨_,rfl,a,cl,rfl,hA.ext s1.ext,G,λH2 s2=> ?_⟩;exact⟨_,rfl,_,rfl,c,a,cs,cl,rfl,s2 _ _ (s1 _ _ hc),(hA.ext s1.ext).ext s2.ext,G.l12,hU,λH3 s3=> ⟨_,rfl,bQ (q H3 ((s1.trans s2).trans s3))⟩⟩
theorem sG:(["holder","sort","many","thing"]:List Str).Nodup:=by decide +kernel
theorem A2r (F:D1 K mg "is_holder" oY ["claims","thing"])(T:TxC mg)(a1:A1 P w K mg base 1 "is_number" oX):A1 P w K mg base 2 "is_holder" mT:=by
 refine F.k ["claims","thing"] ?_;ac_nf
 ·obtain⟨a,cl,u,rfl,⟨bs,ha,hC⟩,h12,ku,q⟩:=h;have hl:bs.length=cl.length:=Paired.length hC;refine⟨_,aM (bC (fS (a1.c hr (bD (pv 1) aB)) (fX (bE (rN rfl) rfl T.any qN (cO (bN (bB oY).names ["claims","thing"] ["holder","sort","many"] [("thing",1)] rfl (cR (pv 0)) rfl rfl rfl (by decide +kernel)
   (λZ=>bP rfl (bA (nm1 0 sG) (bA (nm1 1 sG) (bA (nm1 2 sG) bR)))) (λZ=>cF)
   (λZ=>eW eG (pv 0) (pv 3) (nomark _))) aB))))),?_⟩
  refine⟨_,rfl,_,rfl,ku,_,rfl,cY (λe=> ?_) λe=> ?_⟩
  ·obtain⟨i,rfl⟩:∃i,u= .int i:=by cases u<;>first|exact⟨_,rfl⟩|cases e
   refine⟨_,rfl,a,rfl,⟨_,SqT.of ha⟩,λZ l hl'=> ?_⟩;refine kN (rest:=[some (.int i)]) gP (λH' hs=>SqT.of (hs _ _ ha)) hC hl' (by omega) (λc=> .bl (decide (c.1=i))) (λx H' Q' hm hs hq=> ?_) λσ H1 hs1 hl1=> ?_
   ·refine⟨_,rfl,_,rfl,rfl,?_⟩;have:decide (V.int x.1=V.int i)=decide (x.1=i):=decide_eq_decide.mpr ⟨λz=>V.int.inj z,λz=>by rw[z]⟩;rw[this];exact hq _ (Same.refl _)
   ·refine⟨l,cl.map λc=>decide (c.1=i),rfl,SqL.of (by rw[hl1];simp only[map_map];rfl),?_⟩;have:(cl.map λc=>decide (c.1=i)).any id=gT cl (.int i):=by unfold gT cM;rw[any_map];rfl
    rw[this];exact q _ hs1
  ·have:gT cl u=false:=by cases u<;>first|rfl|cases e
   rw[←this];exact q _ (Same.refl _)
theorem A86 (F:D1 K mg "check_holder" xX ["claims","holder"])(a1:A1 P w K mg base 2 "is_holder" mT):A1 P w K mg base 3 "check_holder" nQ:=by
 refine F.k ["claims","holder"] ?_;ac_nf
 ·obtain⟨a,cl,i,rfl,hA,h12,hh,q⟩:=h;refine⟨_,aM (bK (cC (bM (a1.c hr (aG (pv 0) (aG (pv 1) aB))))) fQ bL),?_⟩;refine⟨_,rfl,_,rfl,a,cl,.int i,rfl,hA,h12,trivial,λH' hs=> ⟨_,rfl,?_⟩⟩;rw[show gT cl (.int i)=true from hh];exact bQ (q H' hs)
theorem B2a:(["holder","claims"]:List Str).Nodup:=by decide +kernel
noncomputable def hZ (S:Nat->Bool)(n:Nat):List Nat:=(List.range n).filter S
theorem A82 (S:Nat->Bool):hZ S 4=aX S:=by unfold hZ aX L;show filter S [0,1,2,3]=_;cases h0:S 0<;>cases h1:S 1<;>cases h2:S 2<;>cases h3:S 3<;>simp[filter,h0,h1,h2,h3]
theorem A3m (F:D1 K mg "holders_of" pI ["claims"])(T:TxC mg)(a1:A1 P w K mg base 5 "check_claims" qS)(a2:A1 P w K mg base 2 "is_holder" mT):A1 P w K mg base 6 "holders_of" sJ:=by
 obtain⟨t1,mH⟩:=T.holders;refine F.k ["claims"] ?_;ac_nf
 ·obtain⟨a,cl,rfl,hA,G,q⟩:=h;refine⟨_,aU (cK (a1.c hr (aG (pv 0) aB)))<|
   aM (bC (bN (bB pI).names ["claims"] ["holder"] [("claims",0)] rfl (kX rfl T.range (bD (dS (v:=.int 4) rfl mH ⟨_,rfl⟩) aB)) rfl rfl rfl (by decide +kernel)
    (λZ=>nm1 0 B2a) (λZ=>eP (bM (a2.c hr (aG (pv 1) (aG (pv 0) aB))))) (λZ=>pv 0))),?_⟩
  refine⟨_,rfl,a,cl,rfl,hA,G,λH1 s1=> ?_⟩;refine⟨4,rfl,by decide,by decide,λZ l hl=> ?_⟩;refine lQ (lo:=0) (n:=4) (λi σ H'=>(∃o,σ=[o,some (.ref a)])/\Same H1 H'/\H' l=some (.lst ((hZ (cD cl) i).map λk:Nat=>V.int (k:Int)))) ⟨⟨_,rfl⟩,aQ hl,by rw[aJ];rfl⟩ ?_ ?_
  ·rintro i σ H' hi ⟨⟨o,rfl⟩,hs,hl'⟩;show cZ _ _ _ [some (.int (0+(i:Int))),some (.ref a)] H';refine⟨_,rfl,_,rfl,a,cl,_,rfl,hA.ext (s1.trans hs).ext,G.l12,trivial,λH2 s2=> ⟨_,rfl,?_⟩⟩;have e0:(0:Int)+(i:Int)=(i:Int):=by omega
   rw[e0];have ep:hZ (cD cl) (i+1)=hZ (cD cl) i++(if cD cl i=true then [i]else []):=by
    unfold hZ;rw[List.range_succ,filter_append]
    congr 1
    by_cases hh:cD cl i=true
    ·rw[if_pos hh,filter_cons_of_pos hh];rfl
    ·rw[if_neg hh,filter_cons_of_neg hh];rfl
   have hz:((hZ (cD cl) i).map λk:Nat=>V.int (k:Int)).length<=1000:=by
    rw[length_map];have:=length_filter_le (cD cl) (List.range i);rw[length_range]at this;unfold hZ;omega
   refine cY (λhh=> ?_) λhh=> ?_
   ·refine⟨_,rfl,_,s2 _ _ hl',bW hz,⟨_,rfl⟩,λb u e=> ?_,?_⟩
    ·rw[aY (bH e hl)];exact s2 _ _ (hs _ _ e)
    ·rw[aJ,ep,if_pos (show cD cl i=true from hh),map_append];rfl
   ·refine⟨⟨_,rfl⟩,hs.trans s2,?_⟩;rw[ep,if_neg (by show¬cD cl i=true;unfold cD;rw[show cM cl (i:Int)=false from hh];decide),append_nil];exact s2 _ _ hl'
  ·rintro σ H' ⟨_,hs,hl'⟩;rw[A82]at hl';have hHl:H l=none:=by
    cases e:H l with
    |none=>rfl
    |some o=>rw[s1 _ _ e]at hl;cases hl
   exact q l H' hHl (s1.trans hs) hl'
end
noncomputable def cw (cs:List Int)(c:C3):Int:=cs.getD c.2.1.toNat 0*c.2.2
noncomputable def bO (cs:List Int)(cl:List C3):Int:=(cl.map (cw cs)).sum
noncomputable def ofH (cl:List C3)(i:Int):List C3:=cl.filter λc=>decide (c.1=i)
noncomputable def dA (cs:List Int)(cl:List C3)(i:Int):Int:=bO cs (ofH cl i)
noncomputable def Fine (cs:List Int)(cl:List C3):Prop:=cl.length<=12/\∀c∈cl,0<=c.2.1/\c.2.1<cs.length/\1<=c.2.2/\c.2.2<=20
theorem nO (G:gJ cl)(U:iY cs cl):Fine cs cl:=⟨G.l12,λc hc=> ⟨(G.num c hc).2.1.1,U c hc,(G.num c hc).2.2.1,(G.num c hc).2.2.2⟩⟩
theorem Fine.sub (h:Fine cs cl)(i:Int):Fine cs (ofH cl i):=⟨le_trans (length_filter_le _ _) h.1,λc hc=>h.2 c (mem_filter.mp hc).1⟩
theorem jD {cs:List Int}(Gc:gF cs){c:C3}(h:0<=c.2.1/\c.2.1<cs.length/\1<=c.2.2/\c.2.2<=20):1<=cs.getD c.2.1.toNat 0/\cs.getD c.2.1.toNat 0<=100/\1<=cw cs c/\cw cs c<=2000:=by
 have hlt:c.2.1.toNat<cs.length:=by omega
 have e:cs.getD c.2.1.toNat 0=cs[c.2.1.toNat]:=by simp[hlt]
 have hn:=Gc.num _ (getElem_mem hlt);unfold cw;rw[e];refine⟨hn.1,hn.2,?_,?_⟩
 ·have:=Int.mul_le_mul hn.1 h.2.2.1 (by omega) (by omega);omega
 ·have:=Int.mul_le_mul hn.2 h.2.2.2 (by omega) (by omega);omega
theorem sD {cs:List Int}(Gc:gF cs):∀{cl:List C3},(∀c∈cl,0<=c.2.1/\c.2.1<cs.length/\1<=c.2.2/\c.2.2<=20)->(cl.length:Int)<=bO cs cl/\bO cs cl<=2000*cl.length
 | [],_=>by simp[bO]
 |c::cl,h=>by
  have ih:=sD Gc (cl:=cl) λd hd=>h d (zjS _ hd);have h0:=jD Gc (h c zjR);have e:bO cs (c::cl)=cw cs c+bO cs cl:=by unfold bO;rw[map_cons,sum_cons]
  rw[e,length_cons];constructor<;>omega
theorem lO {cs:List Int}{s:Int}(h0:0<=s)(h1:s<cs.length):atI (cs.map V.int) s=some (.int (cs.getD s.toNat 0)):=by
 obtain⟨n,rfl⟩:=Int.eq_ofNat_of_zero_le h0;have hn:n<cs.length:=by omega
 refine cB ?_;rw[getElem?_map,getElem?_eq_getElem hn];simp[hn]
noncomputable def pG:Sp:=λvs H Q _=> ∃c a cs bs cl,vs=[.ref c,.ref a]/\gY H c cs/\gF cs/\(H a=some (.tup (bs.map V.ref))\/H a=some (.lst (bs.map V.ref)))/\ClP H bs cl/\Fine cs cl/\∀H',Same H H'->Q (.int (bO cs cl)) H'
noncomputable def zY:Sp:=λvs H Q _=> ∃c a cs cl i,vs=[.ref c,.ref a,.int i]/\gY H c cs/\gF cs/\ClT H a cl/\gJ cl/\iY cs cl/\cM cl i=true/\∀H',Same H H'->Q (.int (dA cs cl i)) H'
section
variable {P:Program}{w:World}{K:W.Frag}{mg:Str->Option Value}{base:Heap}
theorem A6n (F:D1 K mg "count_together" rJ ["custom","claims"])(T:TxC mg):A1 P w K mg base 1 "count_together" pG:=by
 refine F.k ["custom","claims"] ?_;ac_nf
 ·obtain⟨c,a,cs,bs,cl,rfl,hc,Gc,ha,hC,hf,q⟩:=h;have hl:bs.length=cl.length:=Paired.length hC;have h12:=hf.1;refine⟨_,aM (bC (bE (rE rfl) rfl T.sum boot_sum (cO (bN (bB rJ).names ["custom","claims"] ["holder","sort","many"] [("custom",0)] rfl (PI.or (cR (pv 1)) (cV (pv 1))) rfl rfl rfl (by decide +kernel)
   (λZ=>bP rfl (bA (nm1 0 jN) (bA (nm1 1 jN) (bA (nm1 2 jN) bR)))) (λZ=>cF)
   (λZ=>bG fT (bJ cA (pv 3) (pv 1) (λ_ _=>rfl)) (pv 2))) aB))),?_⟩
  have turn:∀(x:C3)(H':Hp)(Q':VK),x∈cl->Same H H'->(∀H2,Same H' H2->Q' (.int (cw cs x)) H2)->tOp (rI CMul λi j=> .int (i*j)) (tOp (iW K) (dN 3) (dN 1)) (dN 2) (some (.int x.1)::some (.int x.2.1)::some (.int x.2.2)::[some (.ref c)]) H' Q':=λx H' Q' hm hs hq=>by
   have hx:=hf.2 x hm;have hlt:x.2.1.toNat<cs.length:=by omega
   have hsm:=jD Gc hx;exact⟨_,rfl,_,rfl,c,_,x.2.1,.int (cs.getD x.2.1.toNat 0),rfl,rfl,SqT.of (hs _ _ hc),lO hx.1 hx.2.1,_,rfl,_,_,rfl,rfl,.inl ⟨by omega,by omega⟩,hq _ (Same.refl _)⟩
  have fin:∀(l:Addr)(σ:L2.St)(H1:Hp),Same H H1->H1 l=some (.lst (cl.map λx=>V.int (cw cs x)))->∃(p:Addr)(ns:List Int),[V.ref l]=[.ref p]/\SqL K H1 p (ns.map V.int)/\ns.length<=1000/\(∀n∈ns,-10000<=n/\n<=10000)/\Q (.int ns.sum) H1:=λl σ H1 hs1 hl1=>by
   refine⟨l,cl.map (cw cs),rfl,SqL.of (by rw[hl1];simp only[map_map];rfl),by rw[length_map];omega,λn hn=> ?_,q H1 hs1⟩;obtain⟨x,hx,rfl⟩:=mem_map.mp hn;have:=jD Gc (hf.2 x hx);omega
  rcases ha with ha|ha
  ·refine .inl ⟨_,rfl,a,rfl,⟨_,SqT.of ha⟩,λZ l hl'=> ?_⟩;exact kN (rest:=[some (.ref c)]) gP (λH' hs=>SqT.of (hs _ _ ha)) hC hl' (by omega) (λx=> .int (cw cs x)) turn λσ H1 hs1 hl1=>fin l σ H1 hs1 hl1
  ·refine .inr ⟨_,rfl,a,rfl,⟨_,SqL.of ha⟩,λZ l hl'=> ?_⟩;exact kN (rest:=[some (.ref c)]) lC (λH' hs=>SqL.of (hs _ _ ha)) hC hl' (by omega) (λx=> .int (cw cs x)) turn λσ H1 hs1 hl1=>fin l σ H1 hs1 hl1
theorem B0e:(["claim","holder"]:List Str).Nodup:=by decide +kernel
theorem A9o (F:D1 K mg "count_of" rK ["custom","claims","holder"])(a1:A1 P w K mg base 6 "check_claims_under" xQ)(a2:A1 P w K mg base 3 "check_holder" nQ)(a3:A1 P w K mg base 1 "count_together" pG):A1 P w K mg base 7 "count_of" zY:=by
 refine F.k ["custom","claims","holder"] ?_;ac_nf
 ·obtain⟨c,a,cs,cl,i,rfl,hc,Gc,hA,G,hU,hh,q⟩:=h;refine⟨_,aU (cK (a1.c hr (aG (pv 0) (aG (pv 1) aB))))<|aU (cK (a2.c hr (aG (pv 1) (aG (pv 2) aB))))<|
   aM (bC (a3.c hr (aG (pv 0) (cO (bN (bB rK).names ["custom","claims","holder"] ["claim"] [("holder",2)] rfl (cR (pv 1)) rfl rfl rfl (by decide +kernel)
    (λZ=>nm1 0 B0e) (λZ=>eP (bV eG (bJ cA (pv 0) aV (λ_ _=>rfl)) (pv 1) (nomark _))) (λZ=>pv 0)) aB)))),?_⟩
  refine⟨_,rfl,_,rfl,c,a,cs,cl,rfl,hc,Gc,hA,G,hU,λH1 s1=> ?_⟩;refine⟨_,rfl,_,rfl,a,cl,i,rfl,hA.ext s1.ext,G.l12,hh,λH2 s2=> ?_⟩;obtain⟨bs,ha,hC⟩:=(hA.ext s1.ext).ext s2.ext;have hl:bs.length=cl.length:=Paired.length hC;have h12:=G.l12;refine⟨_,rfl,_,rfl,a,rfl,⟨_,SqT.of ha⟩,λZ l hl'=> ?_⟩;refine gG (K:=K) (a:=a) (xs:=bs.map V.ref) (λj σ H'=>(∃o,σ=[o,some (.int i)])/\Same H2 H'/\∃bs':List Addr,H' l=some (.lst (bs'.map V.ref))/\ClP H' bs' (ofH (cl.take j) i)) ⟨⟨_,rfl⟩,aQ hl',[],by rw[aJ];rfl,.nil⟩ (λj σ H' _ h=>SqT.of (h.2.1 _ _ ha)) ?_ ?_
  ·rintro j x σ H' hx ⟨⟨o,rfl⟩,hs,bs',hl2,hC2⟩;rw[getElem?_map]at hx;cases hb:bs[j]? with
   |none=>rw[hb]at hx;cases hx
   |some b=>
    rw[hb]at hx;cases hx;obtain⟨y,hy,he⟩:=hC.get hb;have hj:j<bs.length:=(zjW.mp hb).1;have hbl:bs'.length<=j:=by
     have:=Paired.length hC2;have h2:=length_filter_le (λc:C3=>decide (c.1=i)) (cl.take j);rw[length_take]at h2;unfold ofH at this;omega
    show cZ _ _ _ [some (.ref b),some (.int i)] H';refine⟨_,rfl,b,_,0,.int y.1,rfl,rfl,SqT.of (hs _ _ he),cB (j:=0) rfl,_,rfl,rfl,_,rfl,?_⟩;have ed:decide (V.int y.1=V.int i)=decide (y.1=i):=decide_eq_decide.mpr ⟨λz=>V.int.inj z,λz=>by rw[z]⟩;rw[ed];have et:ofH (cl.take (j+1)) i=ofH (cl.take j) i++(if decide (y.1=i)=true then [y]else []):=by
     unfold ofH;rw[take_succ,hy,filter_append]
     congr 1
     by_cases z:y.1=i
     ·simp[z]
     ·simp[z]
    refine cY (λhz=> ?_) λhz=> ?_
    ·refine⟨_,rfl,_,hl2,bW (by rw[length_map];omega),⟨_,rfl⟩,λb' u e=> ?_,bs'++[b],?_,?_⟩
     ·rw[aY (bH e hl')];exact hs _ _ e
     ·rw[aJ,map_append];rfl
     ·rw[et,if_pos hz];have up:∀b' xs,H' b'=some (.tup xs)->(upd H' l (.lst (bs'.map V.ref++[.ref b]))) b'=some (.tup xs):=λb' xs e=>by rw[aY (λz=>by rw[z,hl2]at e;cases e)];exact e
      exact Paired.snoc (Paired.mapP hC2 λ_ _ e=>up _ _ e) (up _ _ (hs _ _ he))
    ·refine⟨⟨_,rfl⟩,hs,bs',hl2,?_⟩;rw[et,if_neg (by rw[hz];decide),append_nil];exact hC2
  ·rintro σ H' ⟨_,hs,bs',hl2,hC2⟩;rw[length_map,hl,take_of_length_le (zjQ _)]at hC2;exact⟨c,l,cs,bs',ofH cl i,rfl,hs _ _ (s2 _ _ (s1 _ _ hc)),Gc,.inr hl2,hC2,(nO G hU).sub i,λH3 s3=>q H3 (((s1.trans s2).trans hs).trans s3)⟩
end
noncomputable def frTop (t b:Int):Int:=t/((Nat.gcd t.toNat b.toNat:Nat):Int)
noncomputable def frBot (t b:Int):Int:=b/((Nat.gcd t.toNat b.toNat:Nat):Int)
noncomputable def rF:Sp:=λvs H Q _=> ∃t b,vs=[.int t,.int b]/\(0<=t/\t<1000000000)/\(1<=b/\b<1000000)/\∀p,H p=none->Q (.ref p) (upd H p (.tup [.int (frTop t b),.int (frBot t b)]))
noncomputable def vQ:Sp:=λvs H Q _=> ∃c a cs cl i,vs=[.ref c,.ref a,.int i]/\gY H c cs/\gF cs/\ClT H a cl/\gJ cl/\iY cs cl/\cM cl i=true/\∀p H',Same H H'->H' p=some (.tup [.int (frTop (dA cs cl i) (bO cs cl)),.int (frBot (dA cs cl i) (bO cs cl))])->Q (.ref p) H'
theorem A6y (a b:Nat):Nat.gcd b (a%b)=Nat.gcd a b:=by rw[Nat.gcd_comm b,←Nat.gcd_rec,Nat.gcd_comm]
section
variable {P:Program}{w:World}{K:W.Frag}{mg:Str->Option Value}{base:Heap}
theorem A3k (F:D1 K mg "fraction" A1a ["top","bottom"]):A1 P w K mg base 1 "fraction" rF:=by
 refine F.k ["top","bottom","divisor","rest"] ?_;ac_nf
 ·obtain⟨t,b,rfl,ht,hb,q⟩:=h;obtain⟨tn,rfl⟩:=Int.eq_ofNat_of_zero_le ht.1;obtain⟨bn,rfl⟩:=Int.eq_ofNat_of_zero_le (show 0<=b by omega);refine⟨_,aU (iF (i:=2) (j:=3) rfl nd rfl rfl (by decide) rfl rfl (aG (pv 0) (aG (pv 1) aB)) rfl)<|
   aU (tU PassesOwn.never (bV vH (pv 3) aV (nomark _)) (aM (iF (i:=2) (j:=3) rfl nd rfl rfl (by decide) rfl rfl (aG (pv 3) (dF (bG gX (pv 2) (pv 3)) aB)) rfl)))<|
   aM (bC (dC (dF (bG oQ (pv 0) (pv 2)) (dF (bG oQ (pv 1) (pv 2)) aB)))),?_⟩
  refine⟨_,rfl,_,rfl,_,_,rfl,?_⟩;refine A5g (λσ H'=>H'=H/\∃x y:Nat,σ=[some (.int (tn:Int)),some (.int (bn:Int)),some (.int (x:Int)),some (.int (y:Int))]/\Nat.gcd x y=Nat.gcd tn bn/\x<1000000000/\y<1000000000) (λσ _=>match σ with| [_,_,_,some (.int y)]=>y.toNat|_=>0)
   ⟨rfl,tn,bn,rfl,rfl,by omega,by omega⟩ ?_ (λσ H' R R' hi hc=> ?_)
  ·rintro σ H' ⟨rfl,x,y,rfl,hg,hx,hy⟩;refine⟨_,rfl,_,_,rfl,rfl,_,rfl,dW (λhp=> ?_) λhp=> ?_⟩
   ·have hy0:0<y:=by omega
    refine⟨_,rfl,_,rfl,_,rfl,_,_,rfl,rfl,(by omega),_,_,rfl,?_⟩;have hm:x%y<y:=mod_lt _ hy0;refine⟨⟨rfl,y,x%y,?_,by rw[A6y];exact hg,hy,by omega⟩,?_⟩
    ·show [some (V.int (tn:Int)),some (.int (bn:Int)),some (.int (y:Int)),some (.int ((x:Int)%(y:Int)))]=_;rw[Int.natCast_emod]
    ·show((x:Int)%(y:Int)).toNat<((y:Int)).toNat;have e:(x:Int)%(y:Int)=((x%y:Nat):Int):=(Int.natCast_emod x y).symm;rw[e,Int.toNat_natCast,Int.toNat_natCast];exact hm
   ·have hy0:y=0:=by omega
    subst hy0;rw[Nat.gcd_zero_right]at hg;subst hg;have hgp:0<Nat.gcd tn bn:=Nat.gcd_pos_of_pos_right _ (by omega);refine⟨_,rfl,_,rfl,_,_,rfl,rfl,⟨by omega,by omega⟩,_,rfl,_,rfl,_,_,rfl,rfl,⟨by omega,by omega⟩,by show 2<=sizeLine;decide,λp hp'=> ?_⟩;exact q p hp'
  ·obtain⟨v,e1,h1⟩:=hc;obtain⟨i,j,e2,e3,c,e4,h2⟩:=h1;exact⟨v,e1,i,j,e2,e3,c,e4,hi _ _ h2⟩
theorem pY (Gc:gF cs)(G:gJ cl)(U:iY cs cl)(i:Int):(0<=dA cs cl i/\dA cs cl i<1000000)/\1<=bO cs cl/\bO cs cl<1000000:=by have hf:=nO G U;have h1:=sD Gc hf.2;have h2:=sD Gc (hf.sub i).2;have:=G.l1;have:=hf.1;have:=(hf.sub i).1;unfold dA;omega
theorem B1n (F:D1 K mg "share_of" tW ["custom","claims","holder"])(a1:A1 P w K mg base 1 "fraction" rF)(a2:A1 P w K mg base 7 "count_of" zY)(a3:A1 P w K mg base 1 "count_together" pG):A1 P w K mg base 8 "share_of" vQ:=by
 refine F.k ["custom","claims","holder"] ?_;ac_nf
 ·obtain⟨c,a,cs,cl,i,rfl,hc,Gc,hA,G,hU,hh,q⟩:=h;refine⟨_,aM (bC (a1.c hr (cG (a2.c hr (aG (pv 0) (aG (pv 1) (aG (pv 2) aB)))) (cG (a3.c hr (aG (pv 0) (aG (pv 1) aB))) aB)))),?_⟩;refine⟨_,rfl,_,rfl,_,rfl,c,a,cs,cl,i,rfl,hc,Gc,hA,G,hU,hh,λH1 s1=> ?_⟩;obtain⟨bs,ha,hC⟩:=hA.ext s1.ext;refine⟨_,rfl,_,rfl,c,a,cs,bs,cl,rfl,s1 _ _ hc,Gc,.inl ha,hC,nO G hU,λH2 s2=> ?_⟩;have hb:=pY Gc G hU i;exact⟨_,_,rfl,⟨hb.1.1,by omega⟩,hb.2,λp hp=>q p _ ((s1.trans s2).trans (aQ hp)) aJ⟩
end
noncomputable def yH (K:W.Frag):Sp:=λvs H Q _=> ∃a ns k,vs=[.ref a,.int k]/\SqL K H a ((ns:List Int).map V.int)/\0<=k/\∀i,Q (.int i) H
noncomputable def qH:Sp:=λvs H Q _=> ∃i:Int,vs=[.int i]/\∀p H',H p=none->Same H H'->PenAt H' p->Q (.ref p) H'
noncomputable def gL:Sp:=λvs H Q _=> ∃p m,vs=[.ref p,.int m]/\PenAt H p/\0<m/\m<1000000/\∀d H',0<=d->d<m->Stp p H H'->Q (.int d) H'
section
variable {P:Program}{w:World}{K:W.Frag}{mg:Str->Option Value}{base:Heap}
theorem B0m (F:D1 K mg "_law_cell" A0m ["_law_script","_law_k"])(T:TxC mg):A1 P w K mg base 1 "_law_cell" (yH K):=by
 refine F.k ["_law_script","_law_k"] ?_;ac_nf
 ·obtain⟨a,ns,k,rfl,ha,hk,q⟩:=h;refine⟨_,aU (bK (bV iQ (pv 1) (bE fF rfl T.len PySem.boot_len (bD (pv 0) aB)) (nomark _)) (aM (bC (bJ eR (pv 0) (pv 1) (λ_ _=>rfl)))) bL) (aM (bC aV)),?_⟩;refine⟨_,rfl,_,rfl,a,_,rfl,.inl ha,_,_,rfl,rfl,_,rfl,dW (λh1=> ?_) λh1=>q 0⟩;rw[length_map]at h1;obtain⟨n,rfl⟩:=Int.eq_ofNat_of_zero_le hk;have hlt:n<ns.length:=by omega
  exact⟨_,rfl,_,rfl,a,_,n,.int ns[n],rfl,rfl,ha,cB (by rw[getElem?_map];simp[hlt]),q _⟩
theorem B2h (F:D1 K mg "_law_pen" A06 ["_law_cell_here"])(T:TxC mg):A1 P w K mg base 1 "_law_pen" qH:=by
 refine F.k ["_law_cell_here"] ?_;ac_nf
 ·obtain⟨i,rfl,q⟩:=h;refine⟨_,aM (bC (cX (bD (pv 0) (bD (fC vN rfl T.int boot_int (bD (eW mK (pv 0) (bG B0a aV aV) (nomark _)) aB)) aB)))),?_⟩;refine⟨_,rfl,_,rfl,_,_,rfl,rfl,⟨by decide,by decide,by decide⟩,_,_,rfl,rfl,.inr ⟨_,rfl,?_⟩⟩;refine⟨by show 2<=sizeLine;decide,λl hl=> ?_⟩;exact q l _ hl (aQ hl) ⟨_,_,aJ⟩
theorem scDraw:fN ["_law_pen_here","_law_many","_law_digit"] ["_law_pen_here","_law_many"] (bB rZ):=by ac_rfl
theorem A7c (F:D1 K mg "_law_draw" rZ ["_law_pen_here","_law_many"])(T:TxC mg):A1 P w K mg base 1 "_law_draw" gL:=by
 refine F.k ["_law_pen_here","_law_many","_law_digit"] ?_;ac_nf
 ·obtain⟨p,m,rfl,⟨x,f1,hp⟩,h0,h1,q⟩:=h;refine⟨_,aU (bK (bV eG (bJ eR (pv 0) aV (λ_ _=>rfl)) aV (nomark _))
    (aU (bX (i:=2) scDraw.nd rfl (Or.inl rfl) (bG gX (bJ eR (pv 0) aV (λ_ _=>rfl)) (pv 1)))
    (aU (eO (bG oQ (bJ eR (pv 0) aV (λ_ _=>rfl)) (pv 1)) (tO (pv 0) aV rG))
    (aM (bC (pv 2))))) bL)
   (aU (eO (bG gX (bG eT (bG fT (bG gX (bJ eR (pv 0) aV (λ_ _=>rfl)) aV) aV) aV) aV) (tO (pv 0) aV rG))
   (aM (bC (bG gX (bG oQ (bG gX (bG eT (bG fT (bJ eR (pv 0) aV (λ_ _=>rfl)) (bJ eR (pv 0) aV (λ_ _=>rfl))) (bG fT aV (bJ eR (pv 0) aV (λ_ _=>rfl)))) aV) aV) (pv 1))))),?_⟩
  refine⟨_,rfl,p,_,1,_,rfl,rfl,SqL.of hp,cB (j:=1) rfl,rfl,_,rfl,dW (λ_=> ?_) λ_=> ?_⟩
  ·refine⟨_,rfl,p,_,0,_,rfl,rfl,SqL.of hp,cB (j:=0) rfl,_,rfl,_,_,rfl,rfl,h0,?_⟩;refine⟨_,rfl,p,_,0,_,rfl,rfl,SqL.of hp,cB (j:=0) rfl,_,rfl,_,_,rfl,rfl,⟨h0,by omega⟩,?_⟩;refine⟨_,rfl,p,_,0,0,rfl,rfl,hp,rfl,?_⟩;refine⟨_,rfl,?_⟩;exact q _ _ (Int.emod_nonneg _ (by omega)) (Int.emod_lt_of_pos _ h0) ⟨⟨_,_,aJ⟩,λb o hb e=>by rw[aY hb];exact e⟩
  ·have hm:∀y:Int,0<=y%2147483629/\y%2147483629<2147483629:=λy=> ⟨Int.emod_nonneg _ (by omega),Int.emod_lt_of_pos _ (by omega)⟩;have b1:=hm x;have b2:=hm (x%2147483629*48271+11);refine⟨_,rfl,p,_,0,_,rfl,rfl,SqL.of hp,cB (j:=0) rfl,_,_,rfl,rfl,(by show(0:Int)<2147483629;decide),_,_,rfl,rfl,.inl ⟨by omega,by omega⟩,_,_,rfl,rfl,_,_,rfl,rfl,(by show(0:Int)<2147483629;decide),?_⟩;refine⟨_,rfl,p,_,0,0,rfl,rfl,hp,rfl,?_⟩;refine⟨_,rfl,p,_,0,_,rfl,rfl,SqL.of aJ,cB (j:=0) rfl,_,rfl,p,_,0,_,rfl,rfl,SqL.of aJ,cB (j:=0) rfl,_,_,rfl,rfl,.inl ⟨by omega,by omega⟩,?_⟩;refine⟨_,rfl,p,_,0,_,rfl,rfl,SqL.of aJ,cB (j:=0) rfl,_,_,rfl,rfl,.inl ⟨by decide,by decide⟩,_,_,rfl,rfl,_,_,rfl,rfl,(by show(0:Int)<2147483647;decide),_,_,rfl,rfl,⟨by decide,by decide⟩,_,rfl,_,_,rfl,rfl,h0,?_⟩;exact q _ _ (Int.emod_nonneg _ (by omega)) (Int.emod_lt_of_pos _ h0) ⟨⟨_,_,aJ⟩,λb o hb e=>by rw[aY hb];exact e⟩
end
section
end
noncomputable def pB (a b:V):Prop:=a=b/\((∃i,a= .int i)\/(∃x,a= .str x)\/(∃y,a= .bl y)\/a= .non)
noncomputable def SameV (H:Hp):Nat->V->V->Prop
 |0,a,b=>pB a b
 |n+1,a,b=>pB a b\/ ∃p q xs ys,a= .ref p/\b= .ref q/\((H p=some (.lst xs)/\H q=some (.lst ys))\/(H p=some (.tup xs)/\H q=some (.tup ys)))/\xs.length<=1000/\Paired (SameV H n) xs ys
theorem SameV.same (s:Same H H'):∀{n:Nat}{a b:V},SameV H n a b->SameV H' n a b
 |0,_,_,h=>h
 |n+1,a,b,h=>by
  rcases h with h| ⟨p,q,xs,ys,h1,h2,h3,h4,h5⟩
  ·exact .inl h
  ·refine .inr ⟨p,q,xs,ys,h1,h2,?_,h4,Paired.mapP h5 λ_ _ z=>SameV.same s z⟩;rcases h3 with⟨u,v⟩| ⟨u,v⟩
   ·exact .inl ⟨s _ _ u,s _ _ v⟩
   ·exact .inr ⟨s _ _ u,s _ _ v⟩
theorem SameV.int (n:Nat)(i:Int):SameV H n (.int i) (.int i):=by cases n with|zero=>exact⟨rfl,.inl ⟨i,rfl⟩⟩|succ n=>exact .inl ⟨rfl,.inl ⟨i,rfl⟩⟩
theorem SameV.str (n:Nat)(x:Str):SameV H n (.str x) (.str x):=by cases n with|zero=>exact⟨rfl,.inr (.inl ⟨x,rfl⟩)⟩|succ n=>exact .inl ⟨rfl,.inr (.inl ⟨x,rfl⟩)⟩
theorem SameV.bl (n:Nat)(y:Bool):SameV H n (.bl y) (.bl y):=by cases n with|zero=>exact⟨rfl,.inr (.inr (.inl ⟨y,rfl⟩))⟩|succ n=>exact .inl ⟨rfl,.inr (.inr (.inl ⟨y,rfl⟩))⟩
noncomputable def lM (n:Nat):Sp:=λvs H Q _=> ∃a b,vs=[a,b]/\SameV H n a b/\∀H',Same H H'->Q (.bl true) H'
theorem A11:∀{l₁:List α}{l₂:List β}{i:Nat}{a:α}{b:β},Paired F l₁ l₂->l₁[i]?=some a->l₂[i]?=some b->F a b
 |_,_,0,_,_,.cons r _,h1,h2=>by cases h1;cases h2;exact r
 |_,_,i+1,_,_,.cons _ t,h1,h2=>A11 (i:=i) t (by simpa using h1) (by simpa using h2)
section
variable {P:Program}{w:World}{K:W.Frag}{mg:Str->Option Value}{base:Heap}
theorem A7b:fN ["_law_thing","_law_due"] ["_law_thing","_law_due"] (bB kA):=by ac_rfl
theorem wU:(["_law_one","_law_other"]:List Str).Nodup:=by decide +kernel
theorem yY {f:Addr}{fd:FuncData}{k:Nat}{spR:Sp}(F:Fun K "_law_same" "_law_same" kA f fd)(T:TxC mg)(mS:mg "_law_same" =some (.ref f))(bS:L2.Binds K fd ["_law_thing","_law_due"] [])
    (G:FnOk P w K mg base CX0 k f fd ["_law_thing","_law_due"] spR)(SR:Hp->V->V->Prop)(hSR:∀H H',Same H H'->∀a b,SR H a b->SR H' a b)(hR:∀a b H Q E,SR H a b->(∀H',Same H H'->Q (.bl true) H')->spR [a,b] H Q E):
    FnOk P w K mg base CX0 (k+1) f fd ["_law_thing","_law_due"] (λvs H Q _=> ∃a b,vs=[a,b]/\(pB a b\/ ∃p q xs ys,a= .ref p/\b= .ref q/\((H p=some (.lst xs)/\H q=some (.lst ys))\/(H p=some (.tup xs)/\H q=some (.tup ys)))/\xs.length<=1000/\Paired (SR H) xs ys)/\∀H',Same H H'->Q (.bl true) H'):=by
  refine F.ok A7b (λvs H Q E h=> ?_) (λcdv A outer s H vs Q E hr h=> ?_)
  · obtain⟨a,b,rfl,_⟩:=h;rfl
  · obtain⟨a,b,rfl,hS,q⟩:=h
    refine⟨_,aU (bK (bM (bE xG rfl T.isinstance boot_isinstance (aG (pv 1) (gH (dC (aG (fV (v:=.ty "list") rfl T.list boot_list rfl) (aG (fV (v:=.ty "tuple") rfl T.tuple boot_tuple rfl) aB))) aB))))
        (aU (bK (PW.pt (jA (cC (bM (bE xG rfl T.isinstance boot_isinstance (aG (pv 0) (gH (dC (aG (fV (v:=.ty "list") rfl T.list boot_list rfl) (aG (fV (v:=.ty "tuple") rfl T.tuple boot_tuple rfl) aB))) aB)))))
            (jX (bV pE (bE iT rfl T.isinstance boot_isinstance (aG (pv 0) (aG (fV (v:=.ty "list") rfl T.list boot_list rfl) aB))) (bE iT rfl T.isinstance boot_isinstance (aG (pv 1) (aG (fV (v:=.ty "list") rfl T.list boot_list rfl) aB))) (nomark _))))) (aM (bC cQ)) bL)<|
         aU (bK (bV pE (bE fF rfl T.len PySem.boot_len (aG (pv 0) aB)) (bE fF rfl T.len PySem.boot_len (aG (pv 1) aB)) (nomark _)) (aM (bC cQ)) bL)<|
         aM (bC (bE (fL rfl) rfl T.all boot_all (cO (bN (bB kA).names ["_law_thing","_law_due"] ["_law_one","_law_other"] [] rfl (PI.or (qZ kL_ok rfl T.zip (aG (pv 0) (aG (pv 1) aB))) (qZ kT_ok rfl T.zip (aG (pv 0) (aG (pv 1) aB)))) rfl rfl rfl (by decide +kernel)
            (λZ=>bP rfl (bA (nm1 0 wU) (bA (nm1 1 wU) bR))) (λZ=>cF) (λZ=>rW G hr rfl mS F.kp bS .nil vY (aG (pv 0) (aG (pv 1) aB)))) aB)))) bL)<|
      aU (bK (bV A0u (pv 1) A1j (nomark _)) (aM (bC (eW A0u (pv 0) A1j (nomark _)))) bL)<|
      aM (bC (fS (eW eG (bE iT rfl T.isinstance boot_isinstance (aG (pv 0) (aG (fV (v:=.ty "bool") rfl T.bool boot_bool rfl) aB))) (bE iT rfl T.isinstance boot_isinstance (aG (pv 1) (aG (fV (v:=.ty "bool") rfl T.bool boot_bool rfl) aB))) (nomark _)) (fX (eW eG (pv 0) (pv 1) (nomark _))))),?_⟩
    rcases hS with⟨rfl,hf⟩| ⟨p,qq,xs,ys,rfl,rfl,hpq,hz,hP⟩
    ·
      have hsc:scal a a=true:=by rcases hf with⟨i,rfl⟩| ⟨x,rfl⟩| ⟨y,rfl⟩|rfl<;>rfl
      refine⟨_,rfl,by show 2<=sizeLine;decide,λt ht=> ?_⟩;have s1:=aQ (o:=.tup [.ty "list",.ty "tuple"]) ht;have hty1:∃ty,TyOf K (upd H t (.tup [.ty "list",.ty "tuple"])) a ty/\(∃T,ty= .type T)/\W.kitAny K ty (["list","tuple"].map Value.type)=some false/\∃tb,W.kitOne K ty (.type "bool")=some tb:=by
        rcases hf with⟨i,rfl⟩| ⟨x,rfl⟩| ⟨y,rfl⟩|rfl
        · exact⟨_,.int i,⟨_,rfl⟩,by kernel_rfl,false,by kernel_rfl⟩
        · exact⟨_,.str x,⟨_,rfl⟩,by kernel_rfl,false,by kernel_rfl⟩
        · exact⟨_,.bl y,⟨_,rfl⟩,by kernel_rfl,true,by kernel_rfl⟩
        · exact⟨_,.non,⟨_,rfl⟩,by kernel_rfl,false,by kernel_rfl⟩
      obtain⟨ty1,a1,a2,a3,tb,a4⟩:=hty1;refine⟨_,t,ty1,false,["list","tuple"],rfl,aJ,a1,a2,a3,_,rfl,bQ ?_⟩;refine⟨_,rfl,rfl,_,rfl,?_⟩;by_cases hn:a= .non
      · subst hn
        refine fM ⟨_,rfl,rfl,?_⟩;exact q _ s1
      rw[zjU hn];refine bQ ?_;refine⟨_,rfl,_,"bool",ty1,tb,rfl,a1,a4,_,rfl,_,"bool",ty1,tb,rfl,a1,a4,rfl,_,rfl,?_⟩;rw[zjV rfl];refine fM ⟨_,rfl,_,rfl,hsc,?_⟩;rw[zjV rfl];exact q _ s1
    · have hlen:xs.length=ys.length:=Paired.length hP
      refine⟨_,rfl,by show 2<=sizeLine;decide,λt ht=> ?_⟩;have s1:=aQ (o:=.tup [.ty "list",.ty "tuple"]) ht;have kinds:∃T,(T= "list" \/T= "tuple")/\(∀H',Same H H'->TyOf K H' (.ref p) (.type T)/\TyOf K H' (.ref qq) (.type T))/\W.kitAny K (.type T) (["list","tuple"].map Value.type)=some true/\W.kitOne K (.type T) (.type "list")=some (decide (T= "list")):=by
        rcases hpq with⟨h1,h2⟩| ⟨h1,h2⟩
        · exact⟨"list",.inl rfl,λH' s=> ⟨.lst (s _ _ h1),.lst (s _ _ h2)⟩,by kernel_rfl,by kernel_rfl⟩
        · exact⟨"tuple",.inr rfl,λH' s=> ⟨.tup (s _ _ h1),.tup (s _ _ h2)⟩,by kernel_rfl,by kernel_rfl⟩
      obtain⟨TT,hTT,hk,k1,k2⟩:=kinds;refine⟨_,t,.type TT,true,["list","tuple"],rfl,aJ,(hk _ s1).2,⟨_,rfl⟩,k1,_,rfl,fM ?_⟩;refine⟨_,rfl,by show 2<=sizeLine;decide,λt2 ht2=> ?_⟩;have s2:=s1.trans (aQ (o:=.tup [.ty "list",.ty "tuple"]) ht2);refine⟨_,t2,.type TT,true,["list","tuple"],rfl,aJ,(hk _ s2).1,⟨_,rfl⟩,k1,_,rfl,bQ ?_⟩;refine⟨_,rfl,_,"list",.type TT,_,rfl,(hk _ s2).1,k2,_,rfl,_,"list",.type TT,_,rfl,(hk _ s2).2,k2,rfl,_,rfl,vV rfl ?_⟩;have sq:∀H',Same H H'->(SqL K H' p xs\/SqT K H' p xs)/\(SqL K H' qq ys\/SqT K H' qq ys):=λH' s=>by
        rcases hpq with⟨h1,h2⟩| ⟨h1,h2⟩
        · exact⟨.inl (SqL.of (s _ _ h1)),.inl (SqL.of (s _ _ h2))⟩
        · exact⟨.inr (SqT.of (s _ _ h1)),.inr (SqT.of (s _ _ h2))⟩
      refine⟨_,rfl,p,xs,rfl,(sq _ s2).1,_,rfl,qq,ys,rfl,(sq _ s2).2,rfl,_,rfl,vV (by rw[hlen]) ?_⟩;have loop:∀(kk:SeqK),(∀H',Same H H'->kk.Sq K H' p xs/\kk.Sq K H' qq ys)->∀(l:Addr)(H2:Hp),Same H H2->H2 l=none->∀(Q':L2.St->Hp->Prop),(∀σ H',Same H2 H'->H' l=some (.lst (xs.map λ_=>V.bl true))->Q' σ H')->
          eA (Itz (λH xs=>kk.Sq K H p xs) λH ys=>kk.Sq K H qq ys) (gN K 2 (eF (cT 0) (eF (cT 1) gQ))) (cZ gB (eJ l (qU spR [] E0 (dM (dN 0) (dM (dN 1) iN))))) (eC Q') [none,none] (upd H2 l (.lst [])):=by
        intro kk hkk l H2 sH hl Q' hQ';refine lT (xs:=xs) (ys:=ys) (le_of_eq hlen.symm) (λi σ H'=>σ.length=2/\Same H2 H'/\H' l=some (.lst ((xs.take i).map λ_=>V.bl true))) ⟨rfl,aQ hl,by rw[aJ];rfl⟩ (λi σ H' h=>hkk H' (sH.trans h.2.1)) ?_ ?_
        · rintro i x y p3 σ H' hx hy ⟨hσ,hs,hl'⟩ hp3
          match σ,hσ with
          | [x0,x1],_=>
          have s3:=aQ (o:=.tup [x,y]) hp3;refine⟨p3,_,rfl,SqT.of aJ,rfl,_,_,rfl,_,_,rfl,rfl,?_⟩;refine gO ?_;refine⟨_,rfl,_,rfl,?_⟩;refine hR x y _ _ _ (hSR _ _ ((sH.trans hs).trans s3) x y (A11 hP hx hy)) λH4 s4=> ?_;refine⟨_,s4 _ _ (s3 _ _ hl'),bW (by rw[length_map,length_take];omega),rfl,λb' u e'=> ?_,?_⟩
          · rw[aY (bH e' hl)];exact s4 _ _ (s3 _ _ (hs _ _ e'))
          · rw[aJ,take_succ,hx,map_append];rfl
        · rintro σ H' ⟨_,hs,hl'⟩
          rw[take_of_length_le (le_of_eq hlen)]at hl';exact hQ' σ H' hs hl'
      have fin:∀(l:Addr)(H2:Hp),Same H H2->∀(σ:L2.St)(H':Hp),Same H2 H'->H' l=some (.lst (xs.map λ_=>V.bl true))->∃(p:Addr)(bs:List Bool),[V.ref l]=[.ref p]/\SqL K H' p (bs.map V.bl)/\Q (.bl (bs.all id)) H':=λl H2 sH σ H' hs hl'=>by
        refine⟨l,xs.map λ_=>true,rfl,SqL.of (by rw[hl',map_map];rfl),?_⟩;have:(xs.map λ_=>true).all id=true:=by simp
        rw[this];exact q H' (sH.trans hs)
      rcases hpq with⟨h1,h2⟩| ⟨h1,h2⟩
      · refine .inl ⟨_,rfl,_,rfl,p,qq,xs,ys,rfl,SqL.of (s2 _ _ h1),SqL.of (s2 _ _ h2),λZ l hl=> ?_⟩
        exact loop kL (λH' s=> ⟨SqL.of (s _ _ h1),SqL.of (s _ _ h2)⟩) l _ s2 hl _ λσ H' hs hl'=>fin l _ s2 σ H' hs hl'
      · refine .inr ⟨_,rfl,_,rfl,p,qq,xs,ys,rfl,SqT.of (s2 _ _ h1),SqT.of (s2 _ _ h2),λZ l hl=> ?_⟩
        exact loop kT (λH' s=> ⟨SqT.of (s _ _ h1),SqT.of (s _ _ h2)⟩) l _ s2 hl _ λσ H' hs hl'=>fin l _ s2 σ H' hs hl'
theorem A1c {f:Addr}{fd:FuncData}(F:Fun K "_law_same" "_law_same" kA f fd)(T:TxC mg)(mS:mg "_law_same" =some (.ref f))(bS:L2.Binds K fd ["_law_thing","_law_due"] []):∀n:Nat,FnOk P w K mg base CX0 (n+1) f fd ["_law_thing","_law_due"] (lM n)
 |0=>(yY (k:=0) F T mS bS FnOk.never (λ_ _ _=>False) (λ_ _ _ _ _ z=>z) (λ_ _ _ _ _ z=>z.elim)).imp λvs H Q E h=>by
  obtain⟨a,b,e,h1,h2⟩:=h;exact⟨a,b,e,.inl h1,h2⟩
 |n+1=>(yY (k:=n+1) F T mS bS (A1c F T mS bS n) (λH a b=>SameV H n a b) (λH H' s a b z=>SameV.same s z) (λa b H Q E h q=> ⟨a,b,rfl,h,q⟩)).imp λvs H Q E h=>by
  obtain⟨a,b,e,h1,h2⟩:=h;exact⟨a,b,e,h1,h2⟩
theorem qO (F:D1 K mg "_law_same" kA ["_law_thing","_law_due"])(T:TxC mg)(n:Nat):A1 P w K mg base (n+1) "_law_same" (lM n):=let ⟨_,_,F,m,b⟩:=F;⟨_,_,_,m,F.kp,b,A1c F T m b n⟩
end
end M51
namespace L2
open PySem PyProof.Rows
theorem Stp.updO (s:Stp p H H1)(hd:H d=none)(hp:PenAt H p):Stp p H (upd H1 d o):=by obtain⟨x,f,e⟩:=hp;have hne:p≠d:=bH e hd;obtain⟨x',f',e'⟩:=s.pen;exact⟨⟨x',f',by rw[aY hne];exact e'⟩,λb o hb h=>by rw[aY (bH h hd)];exact s.keep b o hb h⟩
theorem Stp.none (s:Stp p H H1)(h:H1 b=Option.none):H b=Option.none/\b≠p:=by
 have hb:b≠p:=λz=>by
  obtain⟨x,f,e⟩:=s.pen;rw[z,e]at h;cases h
 refine⟨?_,hb⟩;cases e:H b with
 |none=>rfl
 |some o=>rw[s.keep b o hb e]at h;cases h
theorem PenAt.fresh (h:PenAt H p)(hl:H l=none):l≠p:=λz=>by
 obtain⟨x,f,e⟩:=h;rw[z,e]at hl;cases hl
end L2
namespace M51
open PySem L2 PyProof.Rows Grd Wlk Cyc Srt
structure PleA (H:Hp)(p:Addr)(g:bI)(w:Nat)(cs:List Int)(cl:List C3)(od:Int):Prop where
 G:cU g w
 w4:w<=4
 g3:g.length<=3
 c6:dE g<=6
 cu:gF cs
 ck:gJ cl
 un:iY cs cl
 o9:0<=od/\od<=999
 ex:∃m c a,H p=some (.tup [.ref m,.ref c,.ref a,.int od])/\GridAt H m g/\gY H c cs/\ClT H a cl
theorem PleA.ext (h:PleA H p g w cs cl od)(e:Ext H H'):PleA H' p g w cs cl od:=
 ⟨h.G,h.w4,h.g3,h.c6,h.cu,h.ck,h.un,h.o9,let ⟨m,c,a,h1,h2,h3,h4⟩:=h.ex;⟨m,c,a,e.tup _ _ h1,h2.ext e,e.tup _ _ h3,h4.ext e⟩⟩
theorem PleA.same (h:PleA H p g w cs cl od)(s:Same H H'):PleA H' p g w cs cl od:=h.ext s.ext
section
end
end M51
namespace M51
open PySem L2 PyProof.Rows Set4 Grd Wlk Cyc Srt
noncomputable def kQ:Sp:=λvs H Q _=> ∃p g w cs cl od,vs=[.ref p]/\PleA H p g w cs cl od/\∀l H',H l=none->Same H H'->H' l=some (.lst ((aX (cD cl)).map λk:Nat=>V.int (k:Int)))->Q (.ref l) H'
theorem B1o (h:∀c∈cl,0<=c.1):(λk=>decide (k∈cl.map λc=>c.1.toNat))=cD cl:=funext λk=>by
 unfold cD cM;rw[Bool.eq_iff_iff,decide_eq_true_eq,mem_map,any_eq_true];constructor
 ·rintro⟨c,hc,e⟩;exact⟨c,hc,zjV (by have:=h c hc;omega)⟩
 ·rintro⟨c,hc,e⟩;have:=of_decide_eq_true e;exact⟨c,hc,by omega⟩
section
variable {P:Program}{w:World}{K:W.Frag}{mg:Str->Option Value}{base:Heap}
theorem A7h (F:D1 K mg "_law_holders" pK ["_law_plea"])(T:TxC mg):A1 P w K mg base 1 "_law_holders" kQ:=by
 refine F.k ["_law_plea"] ?_;ac_nf
 ·obtain⟨p,g,w',cs,cl,od,rfl,D,q⟩:=h;obtain⟨m,c,a,hp,hm,hc,bs,ha,hC⟩:=D.ex;have G:=D.ck;have hl:bs.length=cl.length:=Paired.length hC;have h12:=G.l12;refine⟨_,aM (bC (bE (A23 rfl) rfl T.sorted boot_sorted (cG (fC (A62 rfl) rfl T.set PyProof.Rows.boot_set (cO (bN (bB pK).names ["_law_plea"] ["_law_claim"] [] rfl (cR (bJ cA (pv 0) aV (λ_ _=>rfl))) rfl rfl rfl (by decide +kernel)
   (λZ=>aK (i:=0) (show(["_law_claim"]:List Str).Nodup by decide +kernel) rfl (Or.inl rfl)) (λZ=>cF) (λZ=>bJ cA (pv 0) aV (λ_ _=>rfl))) aB)) aB))),?_⟩
  refine⟨_,rfl,p,_,2,_,rfl,rfl,SqT.of hp,rfl,a,rfl,⟨_,SqT.of ha⟩,λZ l hl0=> ?_⟩;refine gG (K:=K) (a:=a) (xs:=bs.map V.ref) (λj σ H'=>σ.length=1/\Same H H'/\H' l=some (.lst ((cl.take j).map λc=>V.int c.1))) ⟨rfl,aQ hl0,by rw[aJ];rfl⟩ (λj σ H' _ h=>SqT.of (h.2.1 _ _ ha)) ?_ ?_
  ·rintro j x σ H' hx ⟨hσ,hs,hl2⟩
   match σ,hσ with
   | [x0],_=>
   rw[getElem?_map]at hx;cases hb:bs[j]? with
   |none=>rw[hb]at hx;cases hx
   |some b=>
    rw[hb]at hx;cases hx;obtain⟨y,hy,he⟩:=hC.get hb;have hj:j<bs.length:=(zjW.mp hb).1;refine iX ?_;refine⟨_,rfl,b,_,0,.int y.1,rfl,rfl,SqT.of (hs _ _ he),cB (j:=0) rfl,?_⟩;refine⟨_,hl2,bW (by rw[length_map,length_take];omega),rfl,λb' u e=> ?_,?_⟩
    ·rw[aY (bH e hl0)];exact hs _ _ e
    ·rw[aJ,take_succ,hy,map_append];rfl
  ·rintro σ H' ⟨_,hs,hl2⟩;rw[length_map,hl,take_of_length_le (zjQ _)]at hl2;have h0:∀c∈cl,0<=c.1:=λc hc=>(G.num c hc).1.1;have e2:(cl.map λc=>V.int c.1)=(cl.map λc=>c.1.toNat).map λn:Nat=>V.int (n:Int):=by
    rw[map_map];refine map_congr_left λc hc=> ?_;have:=h0 c hc;show V.int c.1=V.int ((c.1.toNat:Nat):Int);rw[Int.toNat_of_nonneg this]
   rw[e2]at hl2;refine⟨l,cl.map λc=>c.1.toNat,rfl,SqL.of hl2,λn hn=> ?_,λl2 hl3=> ?_⟩
   ·obtain⟨c,hc,rfl⟩:=mem_map.mp hn;have:=(G.num c hc).1;omega
   ·rw[B1o h0];have s2:=aQ (o:=lN w l2 (cD cl)) hl3;refine⟨l2,cD cl,rfl,aJ,λl4 hl4=> ?_⟩;have s3:=aQ (o:=.lst ((aX (cD cl)).map λk:Nat=>V.int (k:Int))) hl4;have sA:=(hs.trans s2).trans s3;have hn4:H l4=none:=by
     cases e:H l4 with
     |none=>rfl
     |some o=>exact nomatch (s2 _ _ (hs _ _ e)).symm.trans hl4
    exact q l4 _ hn4 sA aJ
end
end M51
namespace M51
open PySem L2 PyProof.Rows Grd Wlk Cyc Srt
structure TxD (mg:Str->Option Value):Prop where
 reversed:mg "reversed" =none
 repr:mg "repr" =none
 odd:∃t,mg "MOST_ODD" =some (.int 999 t)
noncomputable def xK:Sp:=λvs H Q _=> ∃i:Int,vs=[.int i]/\0<=i/\i<=999/\Q (.bl true) H
noncomputable def jK (r:V):Sp:=λvs H Q _=> ∃p g w cs cl od,vs=[.ref p]/\PleA H p g w cs cl od/\∀H',Same H H'->Q r H'
noncomputable def yK:Sp:=λvs H Q _=> ∃p g w cs cl od i,vs=[.ref p,.int i]/\PleA H p g w cs cl od/\cM cl i=true/\∀H',Same H H'->Q .non H'
noncomputable def A0q:Sp:=λvs H Q _=> ∃a g w,vs=[.ref a]/\GridAt H a g/\cU g w/\∀H',Same H H'->Q (.int (bU g)) H'
section
variable {P:Program}{w:World}{K:W.Frag}{mg:Str->Option Value}{base:Heap}
theorem B0s (F:D1 K mg "is_odd" yB ["thing"])(T:TxD mg)(a1:A1 P w K mg base 2 "is_number_within" jT):A1 P w K mg base 3 "is_odd" xK:=by
 obtain⟨t,mO⟩:=T.odd;refine F.k ["thing"] ?_;ac_nf
 ·obtain⟨i,rfl,h0,h9,q⟩:=h;refine⟨_,aM (bC (a1.c hr (aG (pv 0) (bZ aV (aG (dS (v:=.int 999) rfl mO ⟨_,rfl⟩) aB))))),?_⟩;refine⟨_,rfl,_,0,999,rfl,trivial,?_⟩;have e:dU 0 999 (.int i)=true:=by simp[dU,h0,h9]
  rw[e];exact q
noncomputable abbrev nPl:List Str:=["thing","mead","custom","claims","odd"]
theorem A3t (F:D1 K mg "is_plea" A0z ["thing"])(a1:A1 P w K mg base 1 "is_tuple_within" gK)(a2:A1 P w K mg base 4 "is_mead" sZ)(a3:A1 P w K mg base 3 "is_custom" tD)(a4:A1 P w K mg base 4 "are_claims" qT)(a5:A1 P w K mg base 1 "stand_under" rY)(a6:A1 P w K mg base 3 "is_odd" xK):A1 P w K mg base 5 "is_plea" (jK (.bl true)):=by
 refine F.k nPl ?_;ac_nf
 ·obtain⟨p,g,w',cs,cl,od,rfl,D,q⟩:=h;obtain⟨m,c,a,hp,hm,hc,ha⟩:=D.ex;refine⟨_,aU (bK (cC (bM (a1.c hr (aG (pv 0) (bZ aV (bZ aV aB)))))) (aM (bC cQ)) bL)<|
   aU (eO (pv 0) (bP rfl (bA (nm1 1 nd) (bA (nm1 2 nd) (bA (nm1 3 nd) (bA (nm1 4 nd) bR))))))<|
   aU (bK (PW.pt (jA (cC (bM (a2.c hr (aG (pv 1) aB)))) (jA (cC (bM (a3.c hr (aG (pv 2) aB)))) (jX (cC (bM (a4.c hr (aG (pv 3) aB)))))))) (aM (bC cQ)) bL)<|
   aM (bC (fS (a5.c hr (aG (pv 2) (aG (pv 3) aB))) (fX (a6.c hr (aG (pv 4) aB))))),?_⟩
  have e4:dL H 4 4 (.ref p)=true:=by unfold dL;rw[iI hp];rfl
  have kp:Kn H 1 (.ref p):=.inr (.inr ⟨_,hp,by show 4<=1000;decide,λ_ _=>trivial⟩);refine⟨_,rfl,_,4,4,rfl,kp,_,rfl,?_⟩;rw[e4];refine bQ ?_;refine⟨_,rfl,p,_,rfl,SqT.of hp,rfl,_,_,rfl,_,_,rfl,_,_,rfl,_,_,rfl,rfl,?_⟩;refine⟨_,rfl,m,g,w',rfl,hm,D.G,λH1 s1=> ⟨_,rfl,?_⟩⟩;refine bQ ⟨_,rfl,c,cs,rfl,s1 _ _ hc,D.cu,λH2 s2=> ⟨_,rfl,bQ ?_⟩⟩;have s12:=s1.trans s2;refine⟨_,rfl,a,cl,rfl,ha.ext s12.ext,D.ck,λH3 s3=> ⟨_,rfl,bQ ?_⟩⟩;have s13:=s12.trans s3;refine⟨_,rfl,_,rfl,c,a,cs,cl,rfl,s13 _ _ hc,ha.ext s13.ext,D.ck.l12,D.un,λH4 s4=> ⟨_,rfl,fM ?_⟩⟩;exact⟨_,rfl,od,rfl,D.o9.1,D.o9.2,q H4 (s13.trans s4)⟩
theorem B0t (F:D1 K mg "check_plea" A03 ["plea"])(a1:A1 P w K mg base 5 "is_plea" (jK (.bl true))):A1 P w K mg base 6 "check_plea" (jK .non):=by
 refine F.k ["plea"] ?_;ac_nf
 ·obtain⟨p,g,w',cs,cl,od,rfl,D,q⟩:=h;refine⟨_,aM (bK (cC (bM (a1.c hr (aG (pv 0) aB)))) fQ bL),?_⟩;exact⟨_,rfl,p,g,w',cs,cl,od,rfl,D,λH1 s1=> ⟨_,rfl,bQ (q H1 s1)⟩⟩
theorem A3e (F:D1 K mg "check_plea_and_holder" wP ["plea","holder"])(a1:A1 P w K mg base 6 "check_plea" (jK .non))(a2:A1 P w K mg base 3 "check_holder" nQ):A1 P w K mg base 7 "check_plea_and_holder" yK:=by
 refine F.k ["plea","holder","mead","custom","claims","odd"] ?_;ac_nf
 ·obtain⟨p,g,w',cs,cl,od,i,rfl,D,hh,q⟩:=h;refine⟨_,aU (cK (a1.c hr (aG (pv 0) aB)))<|
   aU (eO (pv 0) (bP rfl (bA (nm1 2 nd) (bA (nm1 3 nd) (bA (nm1 4 nd) (bA (nm1 5 nd) bR))))))<|
   aM (cK (a2.c hr (aG (pv 4) (aG (pv 1) aB)))),?_⟩
  refine⟨_,rfl,p,g,w',cs,cl,od,rfl,D,λH1 s1=> ?_⟩;obtain⟨m,c,a,hp,hm,hc,ha⟩:=(D.same s1).ex;refine⟨_,rfl,p,_,rfl,SqT.of hp,rfl,_,_,rfl,_,_,rfl,_,_,rfl,_,_,rfl,rfl,?_⟩;exact⟨_,rfl,_,rfl,a,cl,i,rfl,ha,D.ck.l12,hh,λH2 s2=>q H2 (s1.trans s2)⟩
theorem A8n (F:D1 K mg "whole_worth" xY ["mead"])(a1:A1 P w K mg base 1 "worth_together" uJ)(a2:A1 P w K mg base 6 "cells_of" (eY pos)):A1 P w K mg base 7 "whole_worth" A0q:=by
 refine F.k ["mead"] ?_;ac_nf
 ·obtain⟨a,g,w',rfl,hA,G,q⟩:=h;refine⟨_,aM (bC (a1.c hr (aG (pv 0) (cG (a2.c hr (aG (pv 0) aB)) aB)))),?_⟩;refine⟨_,rfl,_,rfl,a,g,w',rfl,hA,G,λH1 l ps hl s1 hl1 hP=> ?_⟩;exact⟨a,l,g,w',ps,rfl,hA.same s1,G,hl1,hP,λH2 s2=>q H2 (s1.trans s2)⟩
noncomputable abbrev shT (cs:List Int)(cl:List C3)(i:Int):Int:=frTop (dA cs cl i) (bO cs cl)
noncomputable abbrev shB (cs:List Int)(cl:List C3)(i:Int):Int:=frBot (dA cs cl i) (bO cs cl)
noncomputable def nY (g:bI)(cs:List Int)(cl:List C3)(i:Int):Int:=frTop (bU g*shT cs cl i) (shB cs cl i)
noncomputable def kF (g:bI)(cs:List Int)(cl:List C3)(i:Int):Int:=frBot (bU g*shT cs cl i) (shB cs cl i)
noncomputable def xF:Sp:=λvs H Q _=> ∃p g w cs cl od i,vs=[.ref p,.int i]/\PleA H p g w cs cl od/\cM cl i=true/\∀q H',Same H H'->H' q=some (.tup [.int (nY g cs cl i),.int (kF g cs cl i)])->Q (.ref q) H'
theorem qV (h0:0<=t)(h1:1<=b):0<=frTop t b/\1<=frBot t b/\frTop t b<=t/\frBot t b<=b/\frTop t b*b=t*frBot t b:=by
 unfold frTop frBot;obtain⟨tn,rfl⟩:=Int.eq_ofNat_of_zero_le h0;obtain⟨bn,rfl⟩:=Int.eq_ofNat_of_zero_le (show 0<=b by omega);have hb:0<bn:=by omega
 rw[Int.toNat_natCast,Int.toNat_natCast];have hg:0<Nat.gcd tn bn:=Nat.gcd_pos_of_pos_right _ hb;obtain⟨x,ex⟩:=Nat.gcd_dvd_left tn bn;obtain⟨y,ey⟩:=Nat.gcd_dvd_right tn bn;generalize Nat.gcd tn bn=d at*;have e1:tn/d=x:=by rw[ex];exact Nat.mul_div_cancel_left x hg
 have e2:bn/d=y:=by rw[ey];exact Nat.mul_div_cancel_left y hg
 rw[←Int.natCast_ediv,←Int.natCast_ediv,e1,e2];have hy:0<y:=Nat.pos_of_ne_zero λz=>by rw[z,Nat.mul_zero]at ey;omega
 have hx:x<=tn:=by rw[ex];exact Nat.le_mul_of_pos_left x hg
 have hy2:y<=bn:=by rw[ey];exact Nat.le_mul_of_pos_left y hg
 refine⟨Int.natCast_nonneg _,by omega,by omega,by omega,?_⟩;have:x*bn=tn*y:=by
  have z1:x*bn=x*(d*y):=by rw[←ey]
  have z2:tn*y=(d*x)*y:=by rw[←ex]
  rw[z1,z2,mul_comm d x,Nat.mul_assoc]
 exact_mod_cast this
theorem yG {g:bI}{w:Nat}(G:cU g w)(h6:dE g<=6):0<=bU g/\bU g<=594:=by
 have row:∀xs:List Int,(∀n∈xs,-2<=n/\n<=99)->0<=gW xs/\gW xs<=99*fG xs:=λxs h=>by
  induction xs with
  |nil=>exact⟨by simp[gW],by simp[gW,fG]⟩
  |cons x xs ih=>
   have:=ih λn hn=>h n (zjS _ hn);have hx:=h x zjR;unfold gW fG at this⊢;rw[map_cons,sum_cons,filter_cons];by_cases z:0<=x
   ·rw[if_pos (show Grd.pos x=true from zjV z),length_cons]
    split<;>omega
   ·have zp:Grd.pos x=false:=zjU z;have z2:¬x>0:=by omega
    simp only[zp,z2,Bool.false_eq_true,↓reduceIte];omega
 have all:∀g:bI,(∀xs∈g,∀n∈xs,-2<=n/\n<=99)->0<=bU g/\bU g<=99*dE g:=λg h=>by
  induction g with
  |nil=>exact⟨by simp[bU],by simp[bU,dE]⟩
  |cons x g ih=>
   have:=ih λn hn=>h n (zjS _ hn);have r:=row x (h x zjR);unfold bU dE at this⊢;rw[map_cons,sum_cons,map_cons,sum_cons];omega
 have:=all g G.num;omega
noncomputable abbrev nDu:List Str:=["plea","holder","mead","custom","claims","odd","top","bottom"]
theorem A3f (F:D1 K mg "due_of" wI ["plea","holder"])(a1:A1 P w K mg base 7 "check_plea_and_holder" yK)(a2:A1 P w K mg base 8 "share_of" vQ)(a3:A1 P w K mg base 1 "fraction" rF)(a4:A1 P w K mg base 7 "whole_worth" A0q):A1 P w K mg base 9 "due_of" xF:=by
 refine F.k nDu ?_;ac_nf
 ·obtain⟨p,g,w',cs,cl,od,i,rfl,D,hh,q⟩:=h;refine⟨_,aU (cK (a1.c hr (aG (pv 0) (aG (pv 1) aB))))<|
   aU (eO (pv 0) (bP rfl (bA (nm1 2 nd) (bA (nm1 3 nd) (bA (nm1 4 nd) (bA (nm1 5 nd) bR))))))<|
   aU (eO (a2.c hr (aG (pv 3) (aG (pv 4) (aG (pv 1) aB)))) (bP rfl (bA (nm1 6 nd) (bA (nm1 7 nd) bR))))<|
   aM (bC (a3.c hr (dF (bG fT (a4.c hr (aG (pv 2) aB)) (pv 6)) (aG (pv 7) aB)))),?_⟩
  refine⟨_,rfl,_,rfl,p,g,w',cs,cl,od,i,rfl,D,hh,λH1 s1=> ?_⟩;obtain⟨m,c,a,hp,hm,hc,ha⟩:=(D.same s1).ex;refine⟨_,rfl,p,_,rfl,SqT.of hp,rfl,_,_,rfl,_,_,rfl,_,_,rfl,_,_,rfl,rfl,?_⟩;refine⟨_,rfl,_,rfl,_,rfl,c,a,cs,cl,i,rfl,hc,D.cu,ha,D.ck,D.un,hh,λt H2 s2 ht=> ?_⟩;refine⟨t,_,rfl,SqT.of ht,rfl,_,_,rfl,_,_,rfl,rfl,?_⟩;have hb:=pY D.cu D.ck D.un i;have fr:=qV hb.1.1 hb.2.1;have tb:=yG D.G D.c6;refine⟨_,rfl,m,g,w',rfl,hm.same s2,D.G,λH3 s3=> ?_⟩;refine⟨_,rfl,_,_,rfl,rfl,.inl ⟨by omega,by omega⟩,_,rfl,_,_,rfl,⟨Int.mul_nonneg tb.1 fr.1,?_⟩,⟨fr.2.1,by omega⟩,λr hr'=>q r _ (((s1.trans s2).trans s3).trans (aQ hr')) aJ⟩;have h1:bU g*frTop (dA cs cl i) (bO cs cl)<=594*frTop (dA cs cl i) (bO cs cl):=Int.mul_le_mul_of_nonneg_right (by omega) fr.1;show bU g*frTop (dA cs cl i) (bO cs cl)<_;omega
end
end M51
namespace L2
open PySem PySem.Spec PyProof.Rows
section
end
end L2
namespace L2
open PySem PyProof.Rows
noncomputable def TusAt (H:Hp)(qs:List Addr)(ts:List (List V)):Prop:=Paired (λq ys=>H q=some (.tup ys)) qs ts
theorem TusAt.same (h:TusAt H qs ts)(s:Same H H'):TusAt H' qs ts:=Paired.mapP h λ_ _ e=>s _ _ e
theorem pR (h1:Paired F l1 m1)(h2:Paired F l2 m2):Paired F (l1++l2) (m1++m2):=by
 induction h1 with
 |nil=>exact h2
 |cons r t ih=>exact .cons r ih
theorem B0h {J:It}{S:Hp->Prop}{l:Addr}{qs:List Addr}{ts:List (List V)}{H0:Hp}{rest:St}{Q:St->Hp->Prop}{te:TE}(f:List V->List V)(W:Wk J (qs.map V.ref) S)(hS:∀H',Same H0 H'->S H')(hC:TusAt H0 qs ts)(hl:H0 l=none)(hz:qs.length<=999)
  (ev:∀q ys H' Q',ys∈ts->H' q=some (.tup ys)->Same H0 H'->(∀t H2,Same H' H2->H2 t=some (.tup (f ys))->Q' (.ref t) H2)->te (some (.ref q)::rest) H' Q')
  (hQ:∀σ H' qs',Same H0 H'->H' l=some (.lst ((qs':List Addr).map V.ref))->TusAt H' qs' (ts.map f)->Q σ H'):
  eA J (cT 0) (cZ gB (eJ l te)) (eC Q) (none::rest) (upd H0 l (.lst [])):=by
 have hlen:qs.length=ts.length:=Paired.length hC;refine W (λi σ H'=>(∃x,σ=x::rest)/\Same H0 H'/\∃bs':List Addr,H' l=some (.lst (bs'.map V.ref))/\TusAt H' bs' ((ts.take i).map f)) ⟨⟨_,rfl⟩,aQ hl,[],by rw[aJ];rfl,.nil⟩ (λi σ H' _ h=>hS _ h.2.1) ?_ ?_
 ·rintro i x σ H' hx ⟨⟨x0,rfl⟩,hs,bs',hl',hP⟩;rw[getElem?_map]at hx;cases hb:qs[i]? with
  |none=>rw[hb]at hx;cases hx
  |some b=>
   rw[hb]at hx;cases hx;have hi:i<qs.length:=(zjW.mp hb).1;have hc:ts[i]?=some ts[i]:=getElem?_eq_getElem (by omega);have he:H0 b=some (.tup ts[i]):=by
    have:∀{qs:List Addr}{ts:List (List V)}{i:Nat}{b:Addr}{y:List V},TusAt H0 qs ts->qs[i]?=some b->ts[i]?=some y->H0 b=some (.tup y):=by
     intro qs ts i b y h
     induction h generalizing i with
     |nil=>intro z;cases z
     |cons r t ih=>
      cases i with
      |zero=>intro z1 z2;cases z1;cases z2;exact r
      |succ i=>intro z1 z2;exact ih (by simpa using z1) (by simpa using z2)
    exact this hC hb hc
   have et:(ts.take (i+1)).map f=(ts.take i).map f++[f ts[i]]:=by rw[take_succ,hc,map_append];rfl
   have hbl:bs'.length=_:=Paired.length hP;rw[length_map,length_take]at hbl;refine iX ?_;refine ev b ts[i] H' _ (getElem_mem _) (hs _ _ he) hs λt H2 s2 ht=> ?_;have hl2:=s2 _ _ hl';refine⟨_,hl2,bW (by rw[length_map];omega),⟨_,rfl⟩,λb2 u e=> ?_,bs'++[t],?_,?_⟩
   ·rw[aY (bH e hl)];exact s2 _ _ (hs _ _ e)
   ·rw[aJ,map_append];rfl
   ·rw[et];have up:∀b xs,H2 b=some (.tup xs)->(upd H2 l (.lst (bs'.map V.ref++[.ref t]))) b=some (.tup xs):=λb xs e=>by rw[aY (λz=>by rw[z,hl2]at e;cases e)];exact e
    exact Paired.snoc (Paired.mapP (hP.same s2) λ_ _ e=>up _ _ e) (up _ _ ht)
 ·rintro σ H' ⟨_,hs,bs',hl',hP⟩;rw[length_map,hlen,take_of_length_le (zjQ _)]at hP;exact hQ σ H' bs' hs hl' hP
end L2
namespace M51
open PySem L2 PyProof.Rows Grd Wlk Cyc Srt
section
end
end M51
namespace Wlk
open PySem PyProof.Rows Srt Cyc Grd
noncomputable def A1d (cs:List Pl):Prop:=cs≠[]/\∀C:List Pl,iU cs C->(∃x∈cs,x∈C)->∀y∈cs,y∈C
open Classical in
noncomputable def pC (cs:List Pl):Bool:=decide (A1d cs)
theorem zQ (h:iU cs C):iU cs (cs.filter λx=> !decide (x∈C)):=λx hx y hy hcs=>by
 have hx':=mem_filter.mp hx;refine mem_filter.mpr ⟨hcs,?_⟩;have hn:x∉C:=by simpa using hx'.2
 have:y∉C:=λhyC=>hn (h y hyC x (kP hy) hx'.1);simpa using this
theorem A90 (h0:c0∈cs)(h:∀C,iU cs C->c0∈C->∀y∈cs,y∈C):A1d cs:=by
 refine⟨λz=> ?_,λC hC hx0=> ?_⟩
 ·rw[z]at h0;cases h0
 obtain⟨x,hx,hxC⟩:=hx0;by_cases z:c0∈C
 ·exact h C hC z
 ·have:=h _ (zQ hC) (mem_filter.mpr ⟨h0,by simpa using z⟩) x hx;have:=(mem_filter.mp this).2;simp[hxC]at this
open Classical in
theorem vL (hu:cs.Pairwise ltP)(h:xO cs b):b=pC cs:=by
 unfold pC;rcases h with⟨rfl,rfl⟩| ⟨c0,tl,P0,rfl,hP,rfl⟩
 ·exact(zjU λz=>z.1 rfl).symm
 ·rw[Bool.eq_iff_iff,decide_eq_true_eq,decide_eq_true_eq];constructor
  ·intro e;refine A90 zjR λC hC h0 y hy=> ?_;by_cases z:y∈C
   ·exact z
   ·have:=hP.min _ (zQ hC) ⟨y,by rw[e];exact hy,mem_filter.mpr ⟨hy,by simpa using z⟩⟩;have:=(mem_filter.mp this).2;simp[h0]at this
  ·intro hc;refine B04 hP.up hu λx=> ⟨λhx=>hP.sub x hx,λhx=> ?_⟩;exact hc.2 P0 hP.cl ⟨c0,zjR,hP.st⟩ x hx
noncomputable def wZ (met rest:List Pl):List Pl:=rest.filter λp=>met.any λo=>fH o p
noncomputable def hstep (mr:List Pl×List Pl):List Pl×List Pl:=(mr.1++wZ mr.1 mr.2,mr.2.filter λp=> !decide (p∈wZ mr.1 mr.2))
noncomputable def hit:Nat->List Pl×List Pl->List Pl×List Pl
 |0,mr=>mr
 |n+1,mr=>hstep (hit n mr)
end Wlk
namespace L2
open PySem PyProof.Rows Wlk
theorem oO {α:Type}{R:Hp->Addr->α->Prop}(rx:∀{H H' q a},Ext H H'->R H q a->R H' q a){J:It}{S:Hp->Prop}{l:Addr}{qs:List Addr}{ts:List α}{H0:Hp}{rest:St}{Q:St->Hp->Prop}{tt:TT}(p:α->Bool)(W:Wk J (qs.map V.ref) S)(hS:∀H',Same H0 H'->S H')(hC:Paired (R H0) qs ts)(hl:H0 l=none)(hz:qs.length<=999)
  (tst:∀b c H' Q',c∈ts->R H' b c->Same H0 H'->(∀H2,Same H' H2->Q' (p c) H2)->tt (some (.ref b)::rest) H' Q')
  (hQ:∀σ H' qs',Same H0 H'->H' l=some (.lst ((qs':List Addr).map V.ref))->Paired (R H') qs' (ts.filter p)->Q σ H'):
  eA J (cT 0) (cZ tt (eJ l (dN 0))) (eC Q) (none::rest) (upd H0 l (.lst [])):=by
 have hlen:qs.length=ts.length:=Paired.length hC;refine W (λi σ H'=>(∃x,σ=x::rest)/\Same H0 H'/\∃bs':List Addr,H' l=some (.lst (bs'.map V.ref))/\Paired (R H') bs' ((ts.take i).filter p)) ⟨⟨_,rfl⟩,aQ hl,[],by rw[aJ];rfl,.nil⟩ (λi σ H' _ h=>hS _ h.2.1) ?_ ?_
 ·rintro i x σ H' hx ⟨⟨x0,rfl⟩,hs,bs',hl',hP⟩;rw[getElem?_map]at hx;cases hb:qs[i]? with
  |none=>rw[hb]at hx;cases hx
  |some b=>
   rw[hb]at hx;cases hx;obtain⟨c,hc,he⟩:=gE hC hb;have hi:i<qs.length:=(zjW.mp hb).1;have et:(ts.take (i+1)).filter p=(ts.take i).filter p++(if p c=true then [c]else []):=by
    rw[take_succ,hc,filter_append]
    congr 1
    by_cases z:p c=true
    ·simp[z]
    ·simp[z]
   have hfl:=length_filter_le p (ts.take i);rw[length_take]at hfl;have hbl:bs'.length=_:=Paired.length hP;refine tst b c H' _ (mem_of_getElem? hc) (rx hs.ext he) hs λH2 h2=> ?_;have hl2:=h2 _ _ hl';refine cY (λhz'=> ?_) λhz'=> ?_
   ·have x2:Ext H2 (upd H2 l (.lst (bs'.map V.ref++[.ref b]))):=Ext.updL hl2;refine⟨_,rfl,_,hl2,bW (by rw[length_map];omega),⟨_,rfl⟩,λb2 u e=> ?_,bs'++[b],?_,?_⟩
    ·rw[aY (bH e hl)];exact h2 _ _ (hs _ _ e)
    ·rw[aJ,map_append];rfl
    ·rw[et,if_pos hz'];exact Paired.snoc (Paired.mapP hP λ_ _ e=>rx x2 (rx h2.ext e)) (rx x2 (rx (hs.ext.trans h2.ext) he))
   ·refine⟨⟨_,rfl⟩,hs.trans h2,bs',hl2,?_⟩;rw[et,if_neg (by rw[hz'];decide),append_nil];exact Paired.mapP hP λ_ _ e=>rx h2.ext e
 ·rintro σ H' ⟨_,hs,bs',hl',hP⟩;rw[length_map,hlen,take_of_length_le (zjQ _)]at hP;exact hQ σ H' bs' hs hl' hP
end L2
namespace M51
open PySem L2 PyProof.Rows Grd Wlk Cyc Srt
theorem SqA.ext (h:SqA H a cs)(e:Ext H H'):SqA H' a cs:=let ⟨ps,h1,h2⟩:=h;⟨ps,e.tup _ _ h1,Paired.mapP h2 λ_ _ z=>e.tup _ _ z⟩
noncomputable def LansAt (H:Hp)(qs:List Addr)(ts:List (List Pl)):Prop:=Paired (λq cs=>SqA H q cs) qs ts
theorem LansAt.ext (h:LansAt H qs ts)(e:Ext H H'):LansAt H' qs ts:=Paired.mapP h λ_ _ x=>SqA.ext x e
noncomputable def iE (g:bI)(cs:List Pl):Bool:=(cs.any λc=>decide (c∈(aN pos g).filter (fR g)))&&pC cs
noncomputable def ab (i:Int):Int:=if i<0 then -i else i
noncomputable def hV (g:bI)(cs:List Int)(cl:List C3)(od i:Int)(L:List Pl):Bool:=decide (ab (fE g L*kF g cs cl i - nY g cs cl i)<=od*kF g cs cl i)
noncomputable def zN:Sp:=λvs H Q _=> ∃t l g w cs ps,vs=[.ref t,.ref l]/\SqA H t cs/\cU g w/\LandOf g cs/\H l=some (.lst ((ps:List Addr).map V.ref))/\PlAt H ps ((aN pos g).filter (fR g))/\∀H',Same H H'->Q (.bl (iE g cs)) H'
section
variable {P:Program}{w:World}{K:W.Frag}{mg:Str->Option Value}{base:Heap}
theorem LandOf.up (h:LandOf g cs):cs.Pairwise ltP:=(nN pos g).sublist h
theorem B0r (F:D1 K mg "is_sound" A0c ["land","roadside"])(a1:A1 P w K mg base 1 "has_some_of" A1b)(a2:A1 P w K mg base 3 "is_one_piece" A0l):A1 P w K mg base 4 "is_sound" zN:=by
 refine F.k ["land","roadside"] ?_;ac_nf
 ·obtain⟨t,l,g,w',cs,ps,rfl,ht,G,hL,hl,hP,q⟩:=h;have h10:=LandOf.len G hL;refine⟨_,aM (bC (fS (a1.c hr (aG (pv 0) (aG (pv 1) aB))) (fX (a2.c hr (aG (pv 0) aB))))),?_⟩;refine⟨_,rfl,_,rfl,t,l,cs,ps,_,rfl,ht,by omega,hl,hP,λH1 s1=> ⟨_,rfl,cY (λe=> ?_) λe=> ?_⟩⟩
  ·refine⟨_,rfl,t,cs,rfl,SqA.ext ht s1.ext,h10,λb H2 s2 hb=> ?_⟩;have:=q H2 (s1.trans s2);unfold iE at this;rw[e,Bool.true_and,←vL (LandOf.up hL) hb]at this;exact this
  ·have:=q H1 s1;unfold iE at this;rw[e,Bool.false_and]at this;exact this
end
section
variable {P:Program}{w:World}{K:W.Frag}{mg:Str->Option Value}{base:Heap}
theorem iK:bootBuiltins "abs" =some (.builtin "abs"):=by decide +kernel
noncomputable def wV:Sp:=λvs H Q _=> ∃p g w cs cl od i l qs Ls,vs=[.ref p,.int i,.ref l]/\PleA H p g w cs cl od/\cM cl i=true/\H l=some (.lst ((qs:List Addr).map V.ref))/\LansAt H qs Ls/\Ls.length<=128/\(∀L∈Ls,LandOf g L)/\∀l' qs' H',H l'=none->Same H H'->H' l'=some (.lst ((qs':List Addr).map V.ref))->LansAt H' qs' (Ls.filter (hV g cs cl od i))->Q (.ref l') H'
theorem A2d {g:bI}{w:Nat}(G:cU g w){c:Pl}(hc:c∈aN pos g):0<=atG g c/\atG g c<=99:=by obtain⟨i,j,xs,x,rfl,hx,hj,hp⟩:=mem_gridF.mp hc;rw[iZ hx hj];exact⟨of_decide_eq_true hp,(G.num xs (mem_of_getElem? hx) x (mem_of_getElem? hj)).2⟩
theorem uC {g:bI}{w:Nat}(G:cU g w){L:List Pl}(h:∀c∈L,c∈aN pos g)(h10:L.length<=10):0<=fE g L/\fE g L<=990:=by
 have hv:∀c∈aN pos g,0<=atG g c/\atG g c<=99:=λc hc=>A2d G hc;have:0<=fE g L/\fE g L<=99*L.length:=by
  unfold fE;clear h10
  induction L with
  |nil=>exact⟨by simp,by simp⟩
  |cons c L ih=>
   have i:=ih λd hd=>h d (zjS _ hd);have hc:=hv c (h c zjR);rw[map_cons,sum_cons,length_cons];omega
 omega
noncomputable abbrev nWD:List Str:=["plea","holder","lands","mead","custom","claims","odd","top","bottom"]
theorem A6h:(["land","mead","bottom","top","odd"]:List Str).Nodup:=by decide +kernel
theorem A71 (F:D1 K mg "worth_the_due" oT ["plea","holder","lands"])(T2:eE mg)(a1:A1 P w K mg base 9 "due_of" xF)(a2:A1 P w K mg base 1 "worth_together" uY):A1 P w K mg base 10 "worth_the_due" wV:=by
 refine F.k nWD ?_;ac_nf
 ·obtain⟨p,g,w',cs,cl,od,i,l,qs,Ls,rfl,D,hh,hl,hL,h64,hLs,q⟩:=h;obtain⟨m,c,a,hp,hm,hc,ha⟩:=D.ex;refine⟨_,aU (eO (pv 0) (bP rfl (bA (aK (i:=3) nd rfl (Or.inr rfl)) (bA (nm1 4 nd) (bA (nm1 5 nd) (bA (aK (i:=6) nd rfl (Or.inr rfl)) bR))))))<|
   aU (eO (a1.c hr (aG (pv 0) (aG (pv 1) aB))) (bP rfl (bA (aK (i:=7) nd rfl (Or.inr rfl)) (bA (aK (i:=8) nd rfl (Or.inr rfl)) bR))))<|
   aM (bC (bN (bB oT).names nWD ["land"] [("mead",3),("bottom",8),("top",7),("odd",6)] rfl (cV (pv 2)) rfl rfl rfl (by decide +kernel)
    (λZ=>nm1 0 A6h) (λZ=>eP (bV iS (bE iH rfl T2.abs iK (dF (bG fK (bG fT (a2.c hr (aG (pv 1) (aG (pv 0) aB))) (pv 2)) (pv 3)) aB)) (bG fT (pv 4) (pv 2)) (nomark _))) (λZ=>pv 0))),?_⟩
  refine⟨_,rfl,p,_,rfl,SqT.of hp,rfl,_,_,rfl,_,_,rfl,_,_,rfl,_,_,rfl,rfl,?_⟩;refine⟨_,rfl,_,rfl,p,g,w',cs,cl,od,i,rfl,D,hh,λt H1 s1 ht=> ?_⟩;refine⟨t,_,rfl,SqT.of ht,rfl,_,_,rfl,_,_,rfl,rfl,?_⟩;have hql:qs.length=_:=Paired.length hL;refine⟨_,rfl,l,rfl,⟨_,SqL.of (s1 _ _ hl)⟩,λZ lz hlz=> ?_⟩;refine oO (R:=λH q cs=>SqA H q cs) (λe h=>SqA.ext h e) (rest:=[some (.ref m),some (.int (kF g cs cl i)),some (.int (nY g cs cl i)),some (.int od)]) (hV g cs cl od i) lC (λH' hs=>SqL.of (hs _ _ (s1 _ _ hl))) (hL.ext s1.ext) hlz (by omega) (λb L H' Q' hc hb hs k=> ?_) λσ H' qs' hs el' hP'=> ?_
  ·have hLL:=hLs L hc;refine⟨_,rfl,_,rfl,m,b,g,w',L,rfl,(hm.same s1).same hs,D.G,hb,hLL,λH2 s2=> ?_⟩;have wb:=uC D.G (λc hc=>hLL.subset hc) (LandOf.len D.G hLL);refine⟨_,rfl,_,_,rfl,rfl,.inl ⟨by omega,by omega⟩,_,rfl,_,_,rfl,rfl,_,rfl,_,rfl,_,rfl,_,_,rfl,rfl,.inl ⟨by have:=D.o9;omega,by have:=D.o9;omega⟩,_,_,rfl,rfl,_,rfl,?_⟩;exact k H2 s2
  ·exact q lz qs' H' (s1.free hlz) (s1.trans hs) el' hP'
end
end M51
namespace M51
open PySem L2 PyProof.Rows Grd Wlk Cyc Srt Set4
noncomputable def llS {α:Type}(acc:List (List α))(x:α):List (List α):=acc++acc.map (· ++[x])
noncomputable def llG {α:Type}(xs:List α):List (List α):=xs.foldl llS [[]]
theorem oZ (xs:List α)(x:α):llG (xs++[x])=llG xs++(llG xs).map (· ++[x]):=by unfold llG;rw[List.foldl_append];rfl
theorem nH (xs:List α):(llG xs).length=2^xs.length:=by
 have:∀(xs:List α)(acc:List (List α)),(xs.foldl llS acc).length=acc.length*2^xs.length:=by
  intro xs
  induction xs with
  |nil=>intro acc;simp
  |cons x xs ih=>
   intro acc;rw[foldl_cons,ih,llS,length_append,length_map,length_cons,Nat.pow_succ,mul_comm (2^xs.length) 2,←Nat.mul_assoc]
   congr 1
   omega
 have h:=this xs [[]];rw[length_singleton,Nat.one_mul]at h;exact h
theorem B00:∀{ys:List α},ys∈llG xs->ys.length<=xs.length:=by
 have:∀(xs:List α)(acc:List (List α))(n:Nat),(∀ys∈acc,ys.length<=n)->∀ys∈xs.foldl llS acc,ys.length<=n+xs.length:=by
  intro xs
  induction xs with
  |nil=>intro acc n h ys hy;exact h ys hy
  |cons x xs ih=>
   intro acc n h ys hy;have:=ih (llS acc x) (n+1) (λzs hz=>by
    rcases mem_append.mp hz with z|z
    ·have:=h zs z;omega
    ·obtain⟨y,hy',rfl⟩:=mem_map.mp z;have:=h y hy';rw[length_append,length_singleton];omega) ys hy
   rw[length_cons];omega
 intro ys hy;have:=this xs [[]] 0 (λys h=>by rw[mem_singleton.mp h];exact zjQ _) ys hy;omega
theorem A9c (h:TusAt H qs (llG (ps.map V.ref)))(hP:PlAt H ps A):LansAt H qs (llG A):=by
 have em:∀(ps:List Addr)(acc:List (List Addr)),(ps.map V.ref).foldl llS (acc.map (List.map V.ref))=(ps.foldl llS acc).map (List.map V.ref):=by
  intro ps
  induction ps with
  |nil=>intro acc;rfl
  |cons p ps ih=>
   intro acc;rw[map_cons,foldl_cons,foldl_cons,←ih]
   congr 1
   unfold llS;rw[map_append,map_map,map_map]
   congr 1
   refine map_congr_left λa _=> ?_;show _=List.map V.ref (a++[p]);rw[map_append];rfl
 have ep:∀{ps:List Addr}{A:List Pl},PlAt H ps A->∀{l:List (List Addr)}{m:List (List Pl)},Paired (λp c=>PlAt H p c) l m->Paired (λp c=>PlAt H p c) (ps.foldl llS l) (A.foldl llS m):=by
  intro ps A hP
  induction hP with
  |nil=>intro l m h;exact h
  |cons r t ih=>
   intro l m h;refine ih (pR h ?_);clear ih
   induction h with
   |nil=>exact .nil
   |cons r2 t2 ih2=>exact .cons (pR r2 (.cons r .nil)) ih2
 have e0:llG (ps.map V.ref)=(llG ps).map (List.map V.ref):=em ps [[]];rw[e0]at h;have key:∀{qs:List Addr}{l:List (List Addr)}{m:List (List Pl)},TusAt H qs (l.map (List.map V.ref))->Paired (λp c=>PlAt H p c) l m->LansAt H qs m:=by
  intro qs l m h1 h2
  induction h2 generalizing qs with
  |nil=>cases h1;exact .nil
  |cons r t ih=>
   cases h1 with
   |cons r1 t1=>exact .cons ⟨_,r1,r⟩ (ih t1)
 exact key h (ep hP (.cons .nil .nil))
section
end
noncomputable def iM (cs:List Pl)(d:Pl):Bool:=cs.any λc=>fH c d
noncomputable def jI (g:bI)(cs:List Pl):Bool:=(aN road g).any (iM cs)
noncomputable def yS:Sp:=λvs H Q _=> ∃a t g w cs,vs=[.ref a,.ref t]/\GridAt H a g/\cU g w/\SqA H t cs/\cs.length<=10/\∀H',Same H H'->Q (.bl (jI g cs)) H'
section
end
theorem lF:∀(n:Nat){xs ys:List α},xs.length=n->(ys∈llG xs↔ys.Sublist xs)
 |0,xs,ys,h=>by
  have:xs=[]:=eq_nil_of_length_eq_zero h;subst this;rw[sublist_nil];exact mem_singleton
 |n+1,xs,ys,h=>by
  rcases eq_nil_or_concat xs with e| ⟨zs,x,e⟩
  ·rw[e]at h;cases h
  ·rw[concat_eq_append]at e;subst e;rw[length_append,length_singleton]at h;have ih:∀{ys:List α},ys∈llG zs↔ys.Sublist zs:=lF n (by omega);rw[oZ,mem_append];constructor
   ·rintro(hz|hz)
    ·exact(ih.mp hz).trans (List.sublist_append_left _ _)
    ·obtain⟨y,hy,rfl⟩:=mem_map.mp hz;exact(ih.mp hy).append (List.Sublist.refl _)
   ·intro hs;obtain⟨l1,l2,rfl,h1,h2⟩:=List.sublist_append_iff.mp hs;cases h2 with
    |cons _ h3=>
     rw[sublist_nil.mp h3,append_nil];exact .inl (ih.mpr h1)
    |cons_cons _ h3=>
     rw[sublist_nil.mp h3];exact .inr (mem_map.mpr ⟨l1,ih.mpr h1,rfl⟩)
noncomputable def dQ (g:bI)(cs:List Int)(cl:List C3)(od i:Int)(L:List Pl):Bool:=iE g L&&hV g cs cl od i L
noncomputable def A0v:Sp:=λvs H Q _=> ∃p g w cs cl od i t L,vs=[.ref p,.int i,.ref t]/\PleA H p g w cs cl od/\cM cl i=true/\SqA H t L/\LandOf g L/\∀H',Same H H'->Q (.bl (dQ g cs cl od i L)) H'
section
variable {P:Program}{w:World}{K:W.Frag}{mg:Str->Option Value}{base:Heap}
theorem A2o (hr:Room k A):A.units+3<cLine:=lt_of_le_of_lt (Nat.add_le_add_left (by decide:3<=64) _) hr.units
theorem A47 (F:D1 K mg "is_fit" yL ["plea","holder","land"])(a1:A1 P w K mg base 4 "is_sound" zN)(a2:A1 P w K mg base 7 "cells_at_road" wA)(a3:A1 P w K mg base 10 "worth_the_due" wV):A1 P w K mg base 11 "is_fit" A0v:=by
 refine F.k ["plea","holder","land"] ?_;ac_nf
 ·obtain⟨p,g,w',cs,cl,od,i,t,L,rfl,D,hh,ht,hL,q⟩:=h;obtain⟨m,c,a,hp,hm,hc,ha⟩:=D.ex;refine⟨_,aM (bC (fS (a1.c hr (aG (pv 2) (cG (a2.c hr (eX (bJ cA (pv 0) aV (λ_ _=>rfl)) aB)) aB))) (fX (eW (B2o (A2o hr)) (a3.c hr (aG (pv 0) (aG (pv 1) (lI (cX (aG (pv 2) aB)) aB)))) (cX (aG (pv 2) aB)) (nomark _))))),?_⟩;refine⟨_,rfl,_,rfl,p,_,0,_,rfl,rfl,SqT.of hp,rfl,m,g,w',rfl,hm,D.G,λH1 lr pr hlr s1 elr hR=> ?_⟩;refine⟨t,lr,g,w',L,pr,rfl,SqA.ext ht s1.ext,D.G,hL,elr,hR,λH2 s2=> ⟨_,rfl,cY (λe=> ?_) λe=> ?_⟩⟩
  ·have s12:=s1.trans s2;refine⟨_,rfl,_,rfl,_,rfl,by show 1<=sizeLine;decide,λl1 hl1=> ?_⟩;have u1:=aQ (o:=.lst [.ref t]) hl1;refine⟨p,g,w',cs,cl,od,i,l1,[t],[L],rfl,(D.same s12).same u1,hh,aJ,.cons (SqA.ext (SqA.ext ht s12.ext) u1.ext) .nil,by show 1<=128;decide,λM hM=>by rw[mem_singleton.mp hM];exact hL,λl2 qs H3 hl2 s3 el2 hF=> ?_⟩;refine⟨_,rfl,by show 1<=sizeLine;decide,λl4 hl4=> ?_⟩;have u4:=aQ (o:=.lst [.ref t]) hl4;have s14:=(s12.trans u1).trans (s3.trans u4);refine⟨l2,l4,qs,[t],_,[L],rfl,rfl,u4 _ _ el2,aJ,hF.ext u4.ext,.cons (SqA.ext ht s14.ext) .nil,?_⟩;have q':=q _ s14;unfold dQ at q';rw[e,Bool.true_and]at q';have e2:decide ([L].filter (hV g cs cl od i)=[L])=hV g cs cl od i L:=by
    cases hd:hV g cs cl od i L with
    |true=>rw[filter_cons_of_pos hd];exact zjV rfl
    |false=>rw[filter_cons_of_neg (by rw[hd];decide)];exact zjU (by simp)
   rw[e2];exact q'
  ·have q':=q H2 (s1.trans s2);unfold dQ at q';rw[e,Bool.false_and]at q';exact q'
end
end M51
namespace PySem
open PyProof.Rows
noncomputable abbrev zM1 (h:Heap)(l1:Addr):Heap:=h.push {cls:=.type "list_iterator",data:=.fields #[.ref l1,.int 0 0]}
noncomputable abbrev zM2 (h:Heap)(l1 l2:Addr):Heap:=(zM1 h l1).push {cls:=.type "tuple_iterator",data:=.fields #[.ref l2,.int 0 0]}
noncomputable abbrev zM3 (h:Heap)(l1 l2:Addr):Heap:=(zM2 h l1 l2).push {cls:=.type "tuple",data:=.seq #[.ref h.objs.size,.ref (zM1 h l1).objs.size]}
noncomputable abbrev zM4 (h:Heap)(l1 l2:Addr):Heap:=(zM3 h l1 l2).push {cls:=.type "tuple",data:=.seq #[.none,.none]}
noncomputable abbrev zM5 (h:Heap)(l1 l2:Addr):Heap:=(zM4 h l1 l2).push {cls:=.type "zip",data:=.fields #[.none,.bool false,.bool false,.ref (zM2 h l1 l2).objs.size,.ref (zM3 h l1 l2).objs.size]}
theorem A6q (l1 l2:Addr)(xs ys:Array Value):
  Meets (Builtin.«zip.__new__» ⟨[.type "zip",.ref l1,.ref l2],[]⟩) (λ_ R s=>s.heap.IsList l1 xs/\s.heap.IsTuple l2 ys/\R (.ok (.ret (.ref (zM4 s.heap l1 l2).objs.size))) {s with heap:=zM5 s.heap l1 l2}):=
 .of_wp λprog w A R s h=>by
  obtain⟨hp,g,d,tk,os⟩:=s;obtain⟨p1,p2,h⟩:=h;have isz:=sub_zip;have q1:Heap.IsList (Shared.heap ⟨hp,g,d,tk,os⟩) l1 xs:=p1;have q2:Heap.IsTuple (Shared.heap ⟨hp.push {cls:=.type "list_iterator",data:=.fields #[.ref l1,.int 0 0]},g,d,tk,os⟩) l2 ys:=let ⟨o,ho,r⟩:=p2;⟨o,zjX _ ho,r⟩
  wp_walk using wpAny_pyIter_list q1,wpAny_pyIter_tuple q2
  exact⟨_,rfl,h⟩
section
theorem A8x (p1:s.heap.IsList l1 xs)(p2:s.heap.IsTuple l2 ys)
  (h:∀h',IsZip h' (s.heap.objs.size+4) (s.heap.objs.size+2) (s.heap.objs.size+3) .none->IsPair h' (s.heap.objs.size+2) (.ref s.heap.objs.size) (.ref (s.heap.objs.size+1))->
   IsPair h' (s.heap.objs.size+3) .none .none->h'.IsListIter s.heap.objs.size l1 0->h'.IsTupleIter (s.heap.objs.size+1) l2 0->h'.objs.size=s.heap.objs.size+5->
   (∀c o,s.heap.get? c=some o->h'.get? c=some o)->Q (.ref (s.heap.objs.size+4)) {s with heap:=h'}):
  wpAny (model prog w) A (call (.type "zip") [.ref l1,.ref l2]) Q E s:=by
 refine callType_new F.called_zip (by decide) (F.typeCall_zip_2 _ _) (F.newCall_zip_2 _ _) (λobj=>F.args_object_init_3 obj _ _) F.entry_zip_new (A6q l1 l2 xs ys) ⟨p1,p2,?_⟩;have y1:(zM1 s.heap l1).objs.size=s.heap.objs.size+1:=size_push ..;have y2:(zM2 s.heap l1 l2).objs.size=s.heap.objs.size+2:=by rw[size_push,y1]
 have y3:(zM3 s.heap l1 l2).objs.size=s.heap.objs.size+3:=by rw[size_push,y2]
 have y4:(zM4 s.heap l1 l2).objs.size=s.heap.objs.size+4:=by rw[size_push,y3]
 have y5:(zM5 s.heap l1 l2).objs.size=s.heap.objs.size+5:=by rw[size_push,y4]
 have r5:(zM5 s.heap l1 l2).get? (zM4 s.heap l1 l2).objs.size=some _:=get?_push_size _ rfl;have r4:(zM5 s.heap l1 l2).get? (zM3 s.heap l1 l2).objs.size=some _:=zjX _ (get?_push_size _ rfl);have r3:(zM5 s.heap l1 l2).get? (zM2 s.heap l1 l2).objs.size=some _:=zjX _ (zjX _ (get?_push_size _ rfl));have r2:(zM5 s.heap l1 l2).get? (zM1 s.heap l1).objs.size=some _:=zjX _ (zjX _ (zjX _ (get?_push_size _ rfl)));have r1:(zM5 s.heap l1 l2).get? s.heap.objs.size=some _:=zjX _ (zjX _ (zjX _ (zjX _ (get?_push_size _ rfl))));show _/\_;rw[y2,y3,y4]at r5;rw[y1,y2]at r3;rw[y3]at r4;rw[y1]at r2;rw[y4];exact⟨⟨_,r5,rfl⟩,h _ r5 r3 r4 ⟨_,r1,rfl,rfl⟩ ⟨_,r2,rfl,rfl⟩ y5 λc o x=>zjX _ (zjX _ (zjX _ (zjX _ (zjX _ x))))⟩
end
end PySem
namespace L2
open PySem PySem.Spec PyProof.Rows
noncomputable def B0n (K:W.Frag)(ta:TA):TI:=λσ H R=>ta σ H λvs H1=> ∃a b xs ys,vs=[.ref a,.ref b]/\SqL K H1 a xs/\SqT K H1 b ys/\R (Itz (λH xs=>SqL K H a xs) λH ys=>SqT K H b ys) H1
section
theorem pL (hg:Gl X "zip")(hm:X.mg "zip" =none)(ha:PA X [a,b] ta)(hs:starEach [a,b] X.env=[(false,eval a X.env),(false,eval b X.env)]:=by rfl)(hs2:starEach [b] X.env=[(false,eval b X.env)]:=by rfl):
  PI X (.Tuple es x1 tpos) (.Call (.Name "zip" p) [a,b] [] pos) (B0n X.K ta):=by
 intro pins s σ H R I h;refine Call_ (jB I hg hm boot_zip (PyProof.Rows.callWith_type1 (thn (ha pos pins s σ H _ I h) λus s1 ⟨vs,H1,I1,r1,q1⟩=> ?_) (by rw[hs,hs2]) (by rw[hs2];rfl)));obtain⟨a',b',xs,ys,e,q1,q2,q⟩:=q1;subst e;obtain⟨u,v,rfl,rx,ry⟩:=kE r1;cases rx;cases ry;obtain⟨its,rv,p1⟩:=kL_ok.get I1 q1;obtain⟨jts,rw',p2⟩:=kT_ok.get I1 q2;have l1:=kL_ok.lt p1;have l2:=kT_ok.lt p2;refine A8x p1 p2 λh' a1 a2 a3 a4 a5 _ a7=> ?_;refine wpAny_pyIter_zip (s:={s1 with heap:=h'}) a1 ?_;have I2:Inv X pins σ H1 {s1 with heap:=h'}:=I1.kept (t':=s1.toks) a7;have far:=wW s1.heap.objs.size a' b' l1 l2;refine⟨s1.heap.objs.size+4,[s1.heap.objs.size+4,s1.heap.objs.size+2,s1.heap.objs.size+3,s1.heap.objs.size,s1.heap.objs.size+1],_,_,H1,rfl,I2,uQ kL_ok kT_ok _ _ _ _ _ a' b' far (ne_of_lt l1) (ne_of_lt (lt_succ_of_lt l2)),⟨a1,a2,⟨_,_,a3⟩,a4,a5⟩,λc hc'=> ?_,q⟩;have hge:s1.heap.objs.size<=c:=by
  simp only[mem_cons,not_mem_nil,or_false]at hc';rcases hc' with rfl|rfl|rfl|rfl|rfl
  ·exact le_add_right _ 4
  ·exact le_add_right _ 2
  ·exact le_add_right _ 3
  ·exact zjQ _
  ·exact le_succ _
 exact I1.fpOk hge (I1.hok.fresh hge)
end
end L2
namespace M51
open PySem L2 PyProof.Rows Grd Wlk Cyc Srt Set4
noncomputable def bT (g:bI)(ks:List Int)(i:Int):List Pl:=(((aN pos g).zip ks).filter λz=>decide (z.2=i)).map (·.1)
theorem rX (i:Int)(h:ks.length=(aN pos g).length):LandOf g (bT g ks i):=by have e1:(aN pos g)=((aN pos g).zip ks).map (·.1):=(List.map_fst_zip (by omega)).symm;have:(bT g ks i).Sublist (((aN pos g).zip ks).map (·.1)):=filter_sublist.map _;rw[←e1]at this;exact this
noncomputable def eQ (g:bI)(cs:List Int)(cl:List C3)(od:Int)(ks:List Int):Bool:=(aX (cD cl)).all λh:Nat=>dQ g cs cl od (h:Int) (bT g ks (h:Int))
noncomputable def rQ:Sp:=λvs H Q _=> ∃a t g w ks i,vs=[.ref a,.ref t,.int i]/\GridAt H a g/\cU g w/\H t=some (.tup ((ks:List Int).map V.int))/\ks.length=(aN pos g).length/\∀t' H',Same H H'->SqA H' t' (bT g ks i)->Q (.ref t') H'
structure ParA (H:Hp)(p t:Addr)(g:bI)(w:Nat)(cs:List Int)(cl:List C3)(od:Int)(ks:List Int):Prop where
 D:PleA H p g w cs cl od
 t:H t=some (.tup (ks.map V.int))
 l:ks.length=(aN pos g).length
 h:∀k∈ks,cM cl k=true
theorem ParA.same {H H':Hp}{p t:Addr}{g:bI}{w:Nat}{cs:List Int}{cl:List C3}{od:Int}{ks:List Int}(h:ParA H p t g w cs cl od ks)(s:Same H H'):ParA H' p t g w cs cl od ks:=⟨h.D.same s,s _ _ h.t,h.l,h.h⟩
theorem ParA.l10 {H:Hp}{p t:Addr}{g:bI}{w:Nat}{cs:List Int}{cl:List C3}{od:Int}{ks:List Int}(h:ParA H p t g w cs cl od ks):ks.length<=6:=by rw[h.l,eU];exact h.D.c6
noncomputable def pO:Sp:=λvs H Q _=> ∃p t g w cs cl od ks,vs=[.ref p,.ref t]/\ParA H p t g w cs cl od ks/\∀H',Same H H'->Q (.bl (eQ g cs cl od ks)) H'
noncomputable def A0p:Sp:=λvs H Q _=> ∃p t g w cs cl od ks,vs=[.ref p,.ref t]/\ParA H p t g w cs cl od ks/\eQ g cs cl od ks=true/\∀H',Same H H'->Q .non H'
section
variable {P:Program}{w:World}{K:W.Frag}{mg:Str->Option Value}{base:Heap}
theorem A0k:(["cell","number","holder"]:List Str).Nodup:=by decide +kernel
theorem B1b (F:D1 K mg "land_within" sLW ["mead","numbers","holder"])(T:Txt mg)(T2:eE mg)(a1:A1 P w K mg base 6 "cells_of" (eY pos)):A1 P w K mg base 7 "land_within" rQ:=by
 refine F.k ["mead","numbers","holder"] ?_;ac_nf
 ·obtain⟨a,n,g,w',ns,i,rfl,hA,G,hn,hl,q⟩:=h;refine⟨_,aM (bC (fC gD rfl T.tuple boot_tuple (cO (bN (bB sLW).names ["mead","numbers","holder"] ["cell","number"] [("holder",2)] rfl (pL rfl T2.zip (cG (a1.c hr (aG (pv 0) aB)) (aG (pv 1) aB))) rfl rfl rfl (by decide +kernel)
   (λZ=>bP rfl (bA (nm1 0 A0k) (bA (nm1 1 A0k) bR))) (λZ=>eP (bV eG (pv 1) (pv 2) (nomark _))) (λZ=>pv 0)) aB))),?_⟩
  have h10:(aN pos g).length<=10:=by rw[eU];exact G.c10
  refine⟨_,rfl,a,g,w',rfl,hA,G,λH2 lc ps hlc s2 hlc2 hP=> ?_⟩;have hpl:ps.length=(aN pos g).length:=Paired.length hP;have hn2:=s2 _ _ hn;refine⟨_,rfl,lc,n,_,_,rfl,SqL.of hlc2,SqT.of hn2,λZ l hl'=> ?_⟩;refine lT (xs:=ps.map V.ref) (ys:=ns.map V.int) (by rw[length_map,length_map];omega)
   (λj σ H'=>(∃o0 o1,σ=[o0,o1,some (.int i)])/\Same H2 H'/\∃qs,H' l=some (.lst ((qs:List Addr).map V.ref))/\PlAt H' qs (((((aN pos g).zip ns).take j).filter λz=>decide (z.2=i)).map (·.1))/\qs.length<=j)
   ⟨⟨_,_,rfl⟩,aQ hl',[],by rw[aJ];rfl,.nil,zero_le _⟩ (λj σ H' h=> ⟨SqL.of (h.2.1 _ _ hlc2),SqT.of (h.2.1 _ _ hn2)⟩) ?_ ?_
  ·rintro j x y pz σ H3 hx hy ⟨⟨o0,o1,rfl⟩,hs3,qs,hl3,hq3,hql⟩ hpz;obtain⟨b,hb,rfl⟩:=eI hx;obtain⟨c,hc,he⟩:=hP.at hb;obtain⟨m,hm,rfl⟩:∃m,ns[j]?=some m/\V.int m=y:=by
    rw[getElem?_map]at hy;cases e:ns[j]? with
    |none=>rw[e]at hy;cases hy
    |some m=>rw[e]at hy;exact⟨m,rfl,Option.some.inj hy⟩
   have s4:=aQ (o:=.tup [.ref b,.int m]) hpz;have ez:((aN pos g).zip ns)[j]?=some (c,m):=List.getElem?_zip_eq_some.mpr ⟨hc,hm⟩;have hjl:j<(aN pos g).length:=(zjW.mp hc).1;have et:(((((aN pos g).zip ns).take (j+1)).filter λz=>decide (z.2=i)).map (·.1))=(((((aN pos g).zip ns).take j).filter λz=>decide (z.2=i)).map (·.1))++(if m=i then [c]else []):=by
    rw[take_succ,ez,filter_append,map_append]
    congr 1
    by_cases z:m=i
    ·simp[z]
    ·simp only[Option.toList,filter_cons,filter_nil,zjU z,if_neg z];rfl
   rw[et];have hl4:=s4 _ _ hl3;refine⟨pz,_,rfl,SqT.of aJ,rfl,_,_,rfl,_,_,rfl,rfl,?_⟩;refine⟨_,rfl,_,rfl,rfl,_,rfl,dW (λz=> ?_) λz=> ?_⟩
   ·rw[if_pos (V.int.inj z)];refine⟨_,rfl,_,hl4,bW (by rw[length_map];omega),⟨_,_,rfl⟩,λb' u e'=> ?_,qs++[b],?_,?_,?_⟩
    ·rw[aY (bH e' hl')];exact s4 _ _ (hs3 _ _ e')
    ·rw[aJ,map_append];rfl
    ·exact PlAt.snoc (Paired.mapP hq3 λ_ _ z=>PlA.put hl4 (s4 _ _ z)) (PlA.put hl4 (s4 _ _ (hs3 _ _ he)))
    ·rw[length_append];show _+1<=_;omega
   ·rw[if_neg (λy=>z (by rw[y])),append_nil];exact⟨⟨_,_,rfl⟩,hs3.trans s4,qs,hl4,hq3.same s4,by omega⟩
  ·rintro σ H3 ⟨⟨o0,o1,rfl⟩,hs3,qs,hl3,hq3,hql⟩;have el:(ns.map V.int).length=((aN pos g).zip ns).length:=by rw[length_map,length_zip];omega
   rw[el,take_of_length_le (zjQ _)]at hq3;refine⟨l,_,rfl,.inl ⟨SqL.of hl3,λtt htt=> ?_⟩⟩;have s4:=aQ (o:=.tup (qs.map V.ref)) htt;exact q tt _ ((s2.trans hs3).trans s4) ⟨qs,aJ,hq3.same s4⟩
noncomputable abbrev nPa:List Str:=["plea","thing","mead","custom","claims","odd","many"]
theorem B1e:(["number","claims"]:List Str).Nodup:=by decide +kernel
theorem A44:(["holder","plea","mead","thing"]:List Str).Nodup:=by decide +kernel
theorem B2d (F:D1 K mg "is_parting" oE ["plea","thing"])(T:Txt mg)(a1:A1 P w K mg base 6 "check_plea" (jK .non))(a2:A1 P w K mg base 6 "cells_of" (eY pos))(a3:A1 P w K mg base 1 "is_tuple_within" gK)(a4:A1 P w K mg base 2 "is_holder" mT)(a5:A1 P w K mg base 6 "holders_of" sJ)(a6:A1 P w K mg base 11 "is_fit" A0v)(a7:A1 P w K mg base 7 "land_within" rQ):A1 P w K mg base 12 "is_parting" pO:=by
 refine F.k nPa ?_;ac_nf
 ·obtain⟨p,t,g,w',cs,cl,od,ks,rfl,B,q⟩:=h;refine⟨_,aU (cK (a1.c hr (aG (pv 0) aB)))<|
   aU (eO (pv 0) (bP rfl (bA (aK (i:=2) nd rfl (Or.inr rfl)) (bA (nm1 3 nd) (bA (aK (i:=4) nd rfl (Or.inr rfl)) (bA (nm1 5 nd) bR))))))<|
   aU (bX (i:=6) nd rfl (Or.inl rfl) (bE fF rfl T.len PySem.boot_len (cG (a2.c hr (aG (pv 2) aB)) aB)))<|
   aU (bK (PW.pt (jA (cC (bM (a3.c hr (aG (pv 1) (aG (pv 6) (aG (pv 6) aB)))))) (jX (cC (bM (bE (fL rfl) rfl T.all boot_all (cO (bN (bB oE).names nPa ["number"] [("claims",4)] rfl (cR (pv 1)) rfl rfl rfl (by decide +kernel)
    (λZ=>nm1 0 B1e) (λZ=>cF) (λZ=>a4.c hr (aG (pv 1) (aG (pv 0) aB)))) aB))))))) (aM (bC cQ)) bL)<|
   aM (bC (bE (fL rfl) rfl T.all boot_all (cO (bN (bB oE).names nPa ["holder"] [("plea",0),("mead",2),("thing",1)] rfl (cV (a5.c hr (aG (pv 4) aB))) rfl rfl rfl (by decide +kernel)
    (λZ=>nm1 0 A44) (λZ=>cF) (λZ=>a6.c hr (aG (pv 1) (aG (pv 0) (cG (a7.c hr (aG (pv 2) (aG (pv 3) (aG (pv 0) aB)))) aB))))) aB))),?_⟩
  refine⟨_,rfl,p,g,w',cs,cl,od,rfl,B.D,λH1 s1=> ?_⟩;have B1:=B.same s1;obtain⟨m,c,a,hp,hm,hc,ha⟩:=B1.D.ex;refine⟨_,rfl,p,_,rfl,SqT.of hp,rfl,_,_,rfl,_,_,rfl,_,_,rfl,_,_,rfl,rfl,?_⟩;refine⟨_,rfl,m,g,w',rfl,hm,B.D.G,λH2 lc pc hlc s2 elc hP=> ?_⟩;refine⟨lc,_,rfl,.inl (SqL.of elc),?_⟩;have hpl:pc.length=(aN pos g).length:=Paired.length hP;have B2:=B1.same s2;have hl6:=B.l10;rw[length_map,hpl,←B.l];have e4:dL H2 ks.length ks.length (.ref t)=true:=by unfold dL;rw[iI B2.t];simp
  have kt:Kn H2 1 (.ref t):=.inr (.inr ⟨_,B2.t,by rw[length_map];omega,λ_ _=>trivial⟩);refine⟨_,rfl,_,rfl,_,rfl,_,_,_,rfl,kt,_,rfl,?_⟩;rw[e4];refine bQ ⟨_,rfl,t,rfl,⟨_,SqT.of B2.t⟩,λZ l hl=> ?_⟩;refine fZ (λx=> .bl (gT cl x)) B2.t hl (by rw[length_map];omega) (λx H' Q' hm' hs hq=> ?_) λσ H3 s3 hl3=> ?_
  ·obtain⟨k,hk,rfl⟩:=mem_map.mp hm';exact⟨_,rfl,_,rfl,a,cl,_,rfl,(ha.ext s2.ext).ext hs.ext,B.D.ck.l12,trivial,λH3 s3=>hq H3 s3⟩
  refine⟨l,ks.map λk=>gT cl (.int k),rfl,SqL.of (by rw[hl3,map_map,map_map];rfl),_,rfl,?_⟩;have ea:(ks.map λk=>gT cl (.int k)).all id=true:=by
   rw[all_map,all_eq_true];exact λk hk=>B.h k hk
  rw[ea];refine bQ ?_;have s13:=s2.trans s3;refine⟨_,rfl,a,cl,rfl,ha.ext s13.ext,B.D.ck,λlh H4 hlh s4 elh=> ?_⟩;have s14:=s13.trans s4;have B4:=B1.same s14;refine⟨lh,rfl,⟨_,SqL.of elh⟩,λZ r hr'=> ?_⟩;refine dI (K:=K) (a:=lh) (xs:=(aX (cD cl)).map λk:Nat=>V.int (k:Int)) (λj σ H'=>(∃o,σ=[o,some (.ref p),some (.ref m),some (.ref t)])/\Same H4 H'/\H' r=some (.lst (((aX (cD cl)).take j).map λk:Nat=>V.bl (dQ g cs cl od (k:Int) (bT g ks (k:Int))))))
   ⟨⟨_,rfl⟩,aQ hr',aJ⟩ (λj σ H' _ h=>SqL.of (h.2.1 _ _ elh)) ?_ ?_
  ·rintro j x σ H' hx ⟨⟨o,rfl⟩,hs,hl'⟩;rw[getElem?_map]at hx;cases hb:(aX (cD cl))[j]? with
   |none=>rw[hb]at hx;cases hx
   |some k=>
    rw[hb]at hx;cases hx;have hk:cM cl (k:Int)=true:=(mem_mem4.mp (mem_of_getElem? hb)).2;have hj:j<(aX (cD cl)).length:=(zjW.mp hb).1;have h4:(aX (cD cl)).length<=4:=by
     unfold aX;have key:∀b0 b1 b2 b3:Bool,(L b0 b1 b2 b3).length<=4:=by decide
     exact key _ _ _ _
    refine iX ?_;refine⟨_,rfl,_,rfl,_,rfl,_,rfl,_,rfl,m,t,g,w',ks,(k:Int),rfl,(hm.same s14).same hs,B.D.G,hs _ _ B4.t,B.l,λtl H5 s5 hL=> ?_⟩;refine⟨p,g,w',cs,cl,od,(k:Int),tl,_,rfl,(B4.D.same hs).same s5,hk,hL,rX _ B.l,λH6 s6=> ?_⟩;refine⟨_,s6 _ _ (s5 _ _ hl'),bW (by rw[length_map,length_take];omega),⟨_,rfl⟩,λb' u e'=> ?_,?_⟩
    ·rw[aY (bH e' hr')];exact s6 _ _ (s5 _ _ (hs _ _ e'))
    ·rw[aJ,take_succ,hb,map_append];rfl
  ·rintro σ H' ⟨_,hs,hl'⟩;rw[length_map,take_of_length_le (zjQ _)]at hl';refine⟨r,(aX (cD cl)).map λk:Nat=>dQ g cs cl od (k:Int) (bT g ks (k:Int)),rfl,SqL.of (by rw[hl',map_map];rfl),?_⟩;have e:((aX (cD cl)).map λk:Nat=>dQ g cs cl od (k:Int) (bT g ks (k:Int))).all id=eQ g cs cl od ks:=by unfold eQ;rw[all_map];rfl
   rw[e];exact q H' ((s1.trans s14).trans hs)
theorem A6d (F:D1 K mg "check_parting" zO ["plea","parting"])(a1:A1 P w K mg base 12 "is_parting" pO):A1 P w K mg base 13 "check_parting" A0p:=by
 refine F.k ["plea","parting"] ?_;ac_nf
 ·obtain⟨p,t,g,w',cs,cl,od,ks,rfl,B,hB,q⟩:=h;refine⟨_,aM (bK (cC (bM (a1.c hr (aG (pv 0) (aG (pv 1) aB))))) fQ bL),?_⟩;refine⟨_,rfl,_,rfl,p,t,g,w',cs,cl,od,ks,rfl,B,λH' hs=> ⟨_,rfl,?_⟩⟩;rw[hB];exact bQ (q H' hs)
end
end M51
namespace PySem
open Sem (wp)
open AutoSeq1 (wpAny_loadPart')
end PySem
namespace L2
open PySem PySem.Spec PyProof.Rows
section
variable {X:Cx}
theorem B15 {ns:List Int}{its:List Value}(rv:Vals (ns.map V.int) its):∀(i:Nat)(v:Value),its.toArray[i]?=some v->∃t,v=Value.int ((ns[i]?).getD 0) t:=λi v hP=>by
 have hlen:=rv.length;rw[length_map]at hlen;have hP':its[i]?=some v:=by simpa using hP
 have hi:i<ns.length:=by rw[hlen];exact(zjW.mp hP').1
 obtain⟨u,hu,ru⟩:=rv.get (i:=i) (x:=.int ns[i]) (by rw[getElem?_map];simp[hi]);rw[hP']at hu;cases hu;obtain⟨t,rfl⟩:=ru;exact⟨t,by simp[hi]⟩
theorem xL (hc:X.calm=true):eD X (.builtin "min") (λxs H Q=> ∃(p:Addr)(ns:List Int),xs=[.ref p]/\SqL X.K H p (ns.map V.int)/\0<ns.length/\∀M,M∈ns->(∀a∈ns,M<=a)->Q (.int M) H):=by
 intro pins s σ H xs us Q I r h;obtain⟨p,ns,rfl,hq,hl,q⟩:=h;obtain⟨u,rfl,rx⟩:=eZ r;cases rx;obtain⟨its,rv,pl,hz⟩:=I.list hq;have hlen:=rv.length;rw[length_map]at hlen;have pt:=pl.isList;have hlt:p<s.heap.objs.size:=by obtain⟨_,e,_⟩:=pt;exact zjT e
 refine call_min_walk (wpAny_pyIter_list pt ?_);have hv:=B15 rv;refine⟨s.heap.objs.size,[s.heap.objs.size,p],[s.heap.objs.size],its.toArray.size,_,_,_,rfl,Walks.list (A:=X.A.in1) (by simp[I.ok.hd hc]) _ p (ne_of_lt hlt) its.toArray,⟨⟨_,get?_push_size _ rfl,rfl,rfl⟩,pt.push _⟩,λb hb=> ?_,by rw[size_toArray];omega,CmpOf.ints_lt (λi=>(ns[i]?).getD 0) hv,λv h' tk hP hk=> ?_⟩
 ·show b<(s.heap.push _).objs.size;rw[size_push];rcases mem_cons.mp hb with z|z
  ·rw[z];exact lt_succ_self _
  ·rw[mem_singleton.mp z];exact lt_succ_of_lt hlt
 ·obtain⟨b1,b2⟩:=argBest_lt (λi=>(ns[i]?).getD 0) (its.toArray.size - 1);rw[size_toArray]at b1 b2 hP;obtain⟨t,rfl⟩:=hv _ _ hP;have hbl:argBest (λi j=>decide ((ns[i]?).getD 0<(ns[j]?).getD 0)) (its.length - 1)<ns.length:=by omega
  refine⟨.int _,H,I.kept (h':=h') (t':=tk) (LSm.kept_iter hk),⟨_,rfl⟩,q _ ?_ λa ha=> ?_⟩
  ·rw[show(ns[argBest (λi j=>decide ((ns[i]?).getD 0<(ns[j]?).getD 0)) (its.length - 1)]?).getD 0=ns[argBest (λi j=>decide ((ns[i]?).getD 0<(ns[j]?).getD 0)) (its.length - 1)] by simp[hbl]];exact getElem_mem _
  ·obtain⟨j,hj,e⟩:=getElem_of_mem ha;have:=b2 j (by omega);have ej:(ns[j]?).getD 0=a:=by simp[hj,e]
   rw[←ej];exact this
end
end L2
namespace M51
open PySem L2 PyProof.Rows Grd Wlk Cyc Srt Set4
structure TxH (mg:Str->Option Value):Prop where
 min:mg "min" =none
 max:mg "max" =none
 far:∃t,mg "FARTHEST_OUT" =some (.int 99 t)
theorem xB:bootBuiltins "min" =some (.builtin "min"):=by decide +kernel
noncomputable def mn:List Int->Int
 | []=>0
 | [x]=>x
 |x::y::t=>if x<=mn (y::t)then x else mn (y::t)
noncomputable def mx:List Int->Int
 | []=>0
 | [x]=>x
 |x::y::t=>if mx (y::t)<=x then x else mx (y::t)
theorem zX:∀{l:List Int},l≠[]->mn l∈l/\∀a∈l,mn l<=a
 | [],h=>absurd rfl h
 | [x],_=> ⟨zjR,λa ha=>by rw[mem_singleton.mp ha];exact Int.le_refl _⟩
 |x::y::t,_=>by
  obtain⟨h1,h2⟩:=zX (l:=y::t) (by simp);unfold mn
  split
  ·rename_i h;exact⟨zjR,λa ha=>by rcases mem_cons.mp ha with e|e;{rw[e];exact Int.le_refl _};{exact Int.le_trans h (h2 a e)}⟩
  ·rename_i h;exact⟨zjS _ h1,λa ha=>by rcases mem_cons.mp ha with e|e;{rw[e];omega};{exact h2 a e}⟩
theorem wN (h1:M∈l)(h2:∀a∈l,M<=a):M=mn l:=by obtain⟨k1,k2⟩:=zX (l:=l) (λz=>by rw[z]at h1;cases h1);exact Int.le_antisymm (h2 _ k1) (k2 _ h1)
noncomputable def fY (c d:Pl):Int:=ab (c.1 - d.1)+ab (c.2 - d.2)
noncomputable def dP (g:bI)(hs:List Pl)(ks:List Int)(i:Int):Int:=mn ((bT g ks i).map (fY (hs.getD i.toNat (0,0))))
structure lZ (hs:List Pl):Prop where
 l:hs.length=4
 b:∀c∈hs,(-99<=c.1/\c.1<=99)/\-99<=c.2/\c.2<=99
noncomputable def uO:Sp:=λvs H Q _=> ∃p c,vs=[.ref p]/\PlA H p c/\((-99<=c.1/\c.1<=99)/\-99<=c.2/\c.2<=99)/\∀H',Same H H'->Q (.bl true) H'
noncomputable def nC (r:V):Sp:=λvs H Q _=> ∃h hs,vs=[.ref h]/\SqA H h hs/\lZ hs/\∀H',Same H H'->Q r H'
noncomputable def A15:Sp:=λvs H Q _=> ∃p h g w cs cl od hs,vs=[.ref p,.ref h]/\PleA H p g w cs cl od/\SqA H h hs/\lZ hs/\∀H',Same H H'->Q .non H'
noncomputable def vK:Sp:=λvs H Q _=> ∃p q c d,vs=[.ref p,.ref q]/\PlA H p c/\PlA H q d/\Q (.int (fY c d)) H
noncomputable def A08:Sp:=λvs H Q _=> ∃a h t g w hs ks i,vs=[.ref a,.ref h,.ref t,.int i]/\GridAt H a g/\cU g w/\SqA H h hs/\hs.length=4/\H t=some (.tup ((ks:List Int).map V.int))/\ks.length=(aN pos g).length/\0<=i/\i<=3/\bT g ks i≠[]/\∀H',Same H H'->Q (.int (dP g hs ks i)) H'
structure PhA (H:Hp)(p h t:Addr)(g:bI)(w:Nat)(cs:List Int)(cl:List C3)(od:Int)(hs:List Pl)(ks:List Int):Prop where
 B:ParA H p t g w cs cl od ks
 b:eQ g cs cl od ks=true
 h:SqA H h hs
 o:lZ hs
theorem PhA.same {H H':Hp}{p h t:Addr}{g:bI}{w:Nat}{cs:List Int}{cl:List C3}{od:Int}{hs:List Pl}{ks:List Int}(x:PhA H p h t g w cs cl od hs ks)(s:Same H H'):PhA H' p h t g w cs cl od hs ks:=⟨x.B.same s,x.b,SqA.ext x.h s.ext,x.o⟩
theorem PhA.ne {H:Hp}{p h t:Addr}{g:bI}{w:Nat}{cs:List Int}{cl:List C3}{od:Int}{hs:List Pl}{ks:List Int}(x:PhA H p h t g w cs cl od hs ks){i:Int}(hi:cM cl i=true):0<=i/\i<=3/\bT g ks i≠[]:=by obtain⟨c,hc,e⟩:=any_eq_true.mp hi;have e:=of_decide_eq_true e;have hn:=(x.B.D.ck.num c hc).1;refine⟨by omega,by omega,λz=> ?_⟩;obtain⟨n,rfl⟩:=Int.eq_ofNat_of_zero_le (show 0<=i by omega);have hm:n∈aX (cD cl):=mem_mem4.mpr ⟨by omega,hi⟩;have hb:=x.b;unfold eQ at hb;have:=all_eq_true.mp hb n hm;rw[z]at this;unfold dQ iE at this;simp at this
noncomputable def sM:Sp:=λvs H Q _=> ∃p h t g w cs cl od hs ks,vs=[.ref p,.ref h,.ref t]/\PhA H p h t g w cs cl od hs ks/\∀H',Same H H'->Q .non H'
section
variable {P:Program}{w:World}{K:W.Frag}{mg:Str->Option Value}{base:Heap}
theorem A3a:(["number"]:List Str).Nodup:=by decide +kernel
theorem A3y (F:D1 K mg "is_house" tI ["thing"])(T:Txt mg)(TH:TxH mg)(a1:A1 P w K mg base 1 "is_tuple_within" gK)(a2:A1 P w K mg base 2 "is_number_within" jT):A1 P w K mg base 3 "is_house" uO:=by
 obtain⟨tf,mF⟩:=TH.far;refine F.k ["thing"] ?_;ac_nf
 ·obtain⟨p,c,rfl,hp,hb,q⟩:=h;refine⟨_,aU (bK (cC (bM (a1.c hr (aG (pv 0) (bZ aV (bZ aV aB)))))) (aM (bC cQ)) bL)<|
   aM (bC (bE (fL rfl) rfl T.all boot_all (cO (bN (bB tI).names ["thing"] ["number"] [] rfl (cR (pv 0)) rfl rfl rfl (by decide +kernel)
    (λZ=>nm1 0 A3a) (λZ=>cF) (λZ=>a2.c hr (aG (pv 0) (rP (jW jL (dS (v:=.int 99) rfl mF ⟨_,rfl⟩)) (aG (dS (v:=.int 99) rfl mF ⟨_,rfl⟩) aB))))) aB))),?_⟩
  have e2:dL H 2 2 (.ref p)=true:=by unfold dL;rw[iI hp];rfl
  have kp:Kn H 1 (.ref p):=.inr (.inr ⟨_,hp,by show 2<=1000;decide,λ_ _=>trivial⟩);refine⟨_,rfl,_,2,2,rfl,kp,_,rfl,?_⟩;rw[e2];refine bQ ⟨_,rfl,p,rfl,⟨_,SqT.of hp⟩,λZ l hl=> ?_⟩;refine fZ (λx=> .bl (dU (-99) 99 x)) hp hl (by show 2<=1000;decide) (λx H' Q' hm hs hq=> ?_) λσ H2 s2 hl2=> ?_
  ·refine⟨_,rfl,_,rfl,_,-99,99,rfl,?_,hq _ (Same.refl _)⟩;simp only[mem_cons,not_mem_nil,or_false]at hm;rcases hm with rfl|rfl<;>trivial
  ·refine⟨l,[dU (-99) 99 (.int c.1),dU (-99) 99 (.int c.2)],rfl,SqL.of hl2,?_⟩;have e:[dU (-99) 99 (.int c.1),dU (-99) 99 (.int c.2)].all id=true:=by simp[dU,hb.1.1,hb.1.2,hb.2.1,hb.2.2]
   rw[e];exact q H2 s2
theorem A61:(["house"]:List Str).Nodup:=by decide +kernel
theorem A36 (F:D1 K mg "are_houses" pD ["thing"])(T:Txt mg)(TC:TxC mg)(a1:A1 P w K mg base 1 "is_tuple_within" gK)(a2:A1 P w K mg base 3 "is_house" uO):A1 P w K mg base 4 "are_houses" (nC (.bl true)):=by
 obtain⟨th,mH⟩:=TC.holders;refine F.k ["thing"] ?_;ac_nf
 ·obtain⟨h,hs,rfl,⟨bs,hh,hP⟩,O,q⟩:=h;have hl4:bs.length=hs.length:=Paired.length hP;have h4:=O.l;refine⟨_,aM (bC (fS (a1.c hr (aG (pv 0) (aG (dS (v:=.int 4) rfl mH ⟨_,rfl⟩) (aG (dS (v:=.int 4) rfl mH ⟨_,rfl⟩) aB)))) (fX (bE (fL rfl) rfl T.all boot_all (cO (bN (bB pD).names ["thing"] ["house"] [] rfl (cR (pv 0)) rfl rfl rfl (by decide +kernel)
    (λZ=>nm1 0 A61) (λZ=>cF) (λZ=>a2.c hr (aG (pv 0) aB))) aB))))),?_⟩
  have e4:dL H 4 4 (.ref h)=true:=by unfold dL;rw[iI hh];simp[hl4,h4]
  have kp:Kn H 1 (.ref h):=.inr (.inr ⟨_,hh,by rw[length_map];omega,λ_ _=>trivial⟩);refine⟨_,rfl,_,4,4,rfl,kp,_,rfl,?_⟩;rw[e4];refine fM ⟨_,rfl,h,rfl,⟨_,SqT.of hh⟩,λZ l hl=> ?_⟩;refine fZ (λ_=> .bl true) hh hl (by rw[length_map];omega) (λx H' Q' hm hs' hq=> ?_) λσ H2 s2 hl2=> ?_
  ·obtain⟨b,hb,rfl⟩:=mem_map.mp hm;obtain⟨j,hj⟩:=mem_iff_getElem?.mp hb;obtain⟨c,hc,he⟩:=hP.at hj;exact⟨_,rfl,b,c,rfl,hs' _ _ he,O.b c (mem_of_getElem? hc),λH3 s3=>hq H3 s3⟩
  ·refine⟨l,bs.map λ_=>true,rfl,SqL.of (by rw[hl2,map_map,map_map];rfl),?_⟩;have e:(bs.map λ_=>true).all id=true:=by simp
   rw[e];exact q H2 s2
theorem A35 (F:D1 K mg "check_houses" yA ["houses"])(a1:A1 P w K mg base 4 "are_houses" (nC (.bl true))):A1 P w K mg base 5 "check_houses" (nC .non):=by
 refine F.k ["houses"] ?_;ac_nf
 ·obtain⟨h,hs,rfl,hh,O,q⟩:=h;refine⟨_,aM (bK (cC (bM (a1.c hr (aG (pv 0) aB)))) fQ bL),?_⟩;exact⟨_,rfl,h,hs,rfl,hh,O,λH1 s1=> ⟨_,rfl,bQ (q H1 s1)⟩⟩
theorem A4a (F:D1 K mg "check_plea_and_houses" A0r ["plea","houses"])(a1:A1 P w K mg base 6 "check_plea" (jK .non))(a2:A1 P w K mg base 5 "check_houses" (nC .non)):A1 P w K mg base 7 "check_plea_and_houses" A15:=by
 refine F.k ["plea","houses"] ?_;ac_nf
 ·obtain⟨p,h,g,w',cs,cl,od,hs,rfl,D,hh,O,q⟩:=h;refine⟨_,aU (cK (a1.c hr (aG (pv 0) aB)))<|aM (cK (a2.c hr (aG (pv 1) aB))),?_⟩;exact⟨_,rfl,p,g,w',cs,cl,od,rfl,D,λH1 s1=> ⟨_,rfl,h,hs,rfl,SqA.ext hh s1.ext,O,λH2 s2=>q H2 (s1.trans s2)⟩⟩
theorem A2q (F:D1 K mg "far_between" zC ["place","other"])(T2:eE mg):A1 P w K mg base 1 "far_between" vK:=by
 refine F.k ["place","other"] ?_;ac_nf
 ·obtain⟨p,p2,c,d,rfl,hp,hp2,q⟩:=h;refine⟨_,aM (bC (bG eT (bE iH rfl T2.abs iK (dF (bG fK (bJ cA (pv 0) aV (λ_ _=>rfl)) (bJ cA (pv 1) aV (λ_ _=>rfl))) aB)) (bE iH rfl T2.abs iK (dF (bG fK (bJ cA (pv 0) aV (λ_ _=>rfl)) (bJ cA (pv 1) aV (λ_ _=>rfl))) aB)))),?_⟩;refine⟨_,rfl,p,_,0,_,rfl,rfl,SqT.of hp,rfl,_,rfl,p2,_,0,_,rfl,rfl,SqT.of hp2,rfl,_,_,rfl,rfl,_,rfl,?_⟩;exact⟨_,rfl,p,_,1,_,rfl,rfl,SqT.of hp,rfl,_,rfl,p2,_,1,_,rfl,rfl,SqT.of hp2,rfl,_,_,rfl,rfl,_,rfl,_,_,rfl,rfl,q⟩
theorem A2x:(["cell","houses","holder"]:List Str).Nodup:=by decide +kernel
theorem A5f (F:D1 K mg "far_with" rD ["mead","houses","numbers","holder"])(TH:TxH mg)(a1:A1 P w K mg base 7 "land_within" rQ)(a2:A1 P w K mg base 1 "far_between" vK):A1 P w K mg base 8 "far_with" A08:=by
 refine F.k ["mead","houses","numbers","holder"] ?_;ac_nf
 ·obtain⟨a,h,t,g,w',hs,ks,i,rfl,hA,G,hh,h4,ht,hl,i0,i3,hne,q⟩:=h;refine⟨_,aM (bC (bE (xL rfl) rfl TH.min xB (cO (bN (bB rD).names ["mead","houses","numbers","holder"] ["cell"] [("houses",1),("holder",3)] rfl (cR (a1.c hr (aG (pv 0) (aG (pv 2) (aG (pv 3) aB))))) rfl rfl rfl (by decide +kernel)
    (λZ=>nm1 0 A2x) (λZ=>cF) (λZ=>a2.c hr (eX (bJ cA (pv 1) (pv 2) (λ_ _=>rfl)) (aG (pv 0) aB)))) aB))),?_⟩
  refine⟨_,rfl,_,rfl,_,rfl,a,t,g,w',ks,i,rfl,hA,G,ht,hl,λtl H1 s1 hL=> ?_⟩;obtain⟨ps,et,hP⟩:=hL;obtain⟨bs,hb,hB⟩:=SqA.ext hh s1.ext;have hbl:bs.length=hs.length:=Paired.length hB;have hpl:ps.length=(bT g ks i).length:=Paired.length hP;have h10:=LandOf.len G (rX i hl);obtain⟨n,rfl⟩:=Int.eq_ofNat_of_zero_le i0;have hnb:bs[n]?=some (bs[n]'(by omega)):=getElem?_eq_getElem (by omega);obtain⟨hc,ehc,ehb⟩:=hB.at hnb;have eg:hs.getD ((n:Nat):Int).toNat (0,0)=hc:=by rw[Int.toNat_natCast,getD_eq_getElem?_getD,ehc];rfl
  refine⟨tl,rfl,⟨_,SqT.of et⟩,λZ l hl=> ?_⟩;refine gG (K:=K) (a:=tl) (xs:=ps.map V.ref) (λj σ H'=>(∃o,σ=[o,some (.ref h),some (.int (n:Int))])/\Same H1 H'/\H' l=some (.lst ((((bT g ks n).take j).map (fY hc)).map V.int)))
   ⟨⟨_,rfl⟩,aQ hl,aJ⟩ (λj σ H' _ h=>SqT.of (h.2.1 _ _ et)) ?_ ?_
  ·rintro j x σ H' hx ⟨⟨o,rfl⟩,hs',hl'⟩;obtain⟨b,hbj,rfl⟩:=eI hx;obtain⟨c,hc',he⟩:=hP.at hbj;have hj:j<(bT g ks n).length:=(zjW.mp hc').1;refine iX ?_;refine⟨_,rfl,_,rfl,h,_,(n:Int),.ref (bs[n]'(by omega)),rfl,rfl,SqT.of (hs' _ _ hb),cB (by rw[getElem?_map,hnb];rfl),_,rfl,_,b,hc,c,rfl,hs' _ _ ehb,hs' _ _ he,?_⟩;refine⟨_,hl',bW (by rw[length_map,length_map,length_take];omega),⟨_,rfl⟩,λb' u e'=> ?_,?_⟩
   ·rw[aY (bH e' hl)];exact hs' _ _ e'
   ·rw[aJ,take_succ,hc',map_append,map_append];rfl
  ·rintro σ H' ⟨_,hs',hl'⟩;rw[length_map,hpl,take_of_length_le (zjQ _)]at hl';refine⟨l,(bT g ks n).map (fY hc),rfl,SqL.of hl',?_,λM m1 m2=> ?_⟩
   ·rw[length_map];exact List.length_pos_iff.mpr hne
   ·have e:M=dP g hs ks n:=by unfold dP;rw[eg];exact wN m1 m2
    rw[e];exact q H' (s1.trans hs')
theorem B13 (F:D1 K mg "check_parted" uP ["plea","houses","parting"])(a1:A1 P w K mg base 7 "check_plea_and_houses" A15)(a2:A1 P w K mg base 13 "check_parting" A0p):A1 P w K mg base 14 "check_parted" sM:=by
 refine F.k ["plea","houses","parting"] ?_;ac_nf
 ·obtain⟨p,h,t,g,w',cs,cl,od,hs,ks,rfl,B,q⟩:=h;refine⟨_,aU (cK (a1.c hr (aG (pv 0) (aG (pv 1) aB))))<|aM (cK (a2.c hr (aG (pv 0) (aG (pv 2) aB)))),?_⟩;refine⟨_,rfl,_,rfl,p,h,g,w',cs,cl,od,hs,rfl,B.B.D,B.h,B.o,λH1 s1=> ?_⟩;exact⟨_,rfl,_,rfl,p,t,g,w',cs,cl,od,ks,rfl,B.B.same s1,B.b,λH2 s2=>q H2 (s1.trans s2)⟩
end
end M51
namespace Wlk
open PySem PyProof.Rows Srt Cyc Grd L2
theorem Rch.stepN {land R N:List Pl}{s x:Pl}{k:Nat}(h:Rch land s R k)(hx:R[k]?=some x)(hn:N.Nodup)(hm:∀y,y∈N↔y∈beside x/\y∈land/\y∉R):Rch land s (R++N) (k+1):=by
 have hk:k<R.length:=(zjW.mp hx).1;refine⟨λy hy=> ?_,?_,mem_append_left _ h.st,λi y hi hy z hz hzl=> ?_,λC hC y hy hyC=> ?_,by rw[length_append];omega⟩
 ·rcases mem_append.mp hy with e|e
  ·exact h.sub y e
  ·exact((hm y).mp e).2.1
 ·rw[nodup_append];refine⟨h.nd,hn,λa ha b hb e=> ?_⟩;subst e;exact((hm a).mp hb).2.2 ha
 ·rw[getElem?_append_left (by omega)]at hy;by_cases e:z∈R
  ·exact mem_append_left _ e
  ·rcases lt_or_ge i k with u|u
   ·exact absurd (h.done i y u hy z hz hzl) e
   ·have:i=k:=by omega
    rw[this,hx]at hy;cases hy;exact mem_append_right _ ((hm z).mpr ⟨hz,hzl,e⟩)
 ·rcases mem_append.mp hy with e|e
  ·exact h.min C hC y e hyC
  ·have hxR:=mem_of_getElem? hx;exact h.min C hC x hxR (hC y hyC x (kP ((hm y).mp e).1) (h.sub x hxR))
end Wlk
namespace M51
open PySem L2 PyProof.Rows Grd Wlk Cyc Srt Set4
noncomputable def qP:Sp:=λvs H Q _=> ∃p q c d,vs=[.ref p,.ref q]/\PlA H p c/\PlA H q d/\Q (.bl (fH c d)) H
noncomputable def A05:Sp:=λvs H Q _=> ∃t p cs c,vs=[.ref t,.ref p]/\SqA H t cs/\cs.length<=10/\cs.Nodup/\PlA H p c/\c∈cs/\∀t' P H',Same H H'->SqA H' t' P->oG cs c P->Q (.ref t') H'
noncomputable def xS:Sp:=λvs H Q _=> ∃a t g w ps cs,vs=[.ref a,.ref t]/\GridAt H a g/\cU g w/\(H t=some (.tup ((ps:List Addr).map V.ref))\/H t=some (.lst (ps.map V.ref)))/\PlAt H ps cs/\LandOf g cs/\∀H',Same H H'->Q (.int (fE g cs)) H'
section
variable {P:Program}{w:World}{K:W.Frag}{mg:Str->Option Value}{base:Heap}
theorem A6v (F:D1 K mg "_law_next" zJ ["_law_one","_law_other"])(T2:eE mg):A1 P w K mg base 1 "_law_next" qP:=by
 refine F.k ["_law_one","_law_other"] ?_;ac_nf
 ·obtain⟨p,q,c,d,rfl,hp,hq,k⟩:=h;refine⟨_,aM (bC (eW eG (bG eT (bE iH rfl T2.abs iK (dF (bG fK (bJ cA (pv 0) aV (λ_ _=>rfl)) (bJ cA (pv 1) aV (λ_ _=>rfl))) aB)) (bE iH rfl T2.abs iK (dF (bG fK (bJ cA (pv 0) aV (λ_ _=>rfl)) (bJ cA (pv 1) aV (λ_ _=>rfl))) aB))) aV (nomark _))),?_⟩;refine⟨_,rfl,p,_,0,_,rfl,rfl,SqT.of hp,cB (j:=0) rfl,_,rfl,q,_,0,_,rfl,rfl,SqT.of hq,cB (j:=0) rfl,_,_,rfl,rfl,_,rfl,?_⟩;refine⟨_,rfl,p,_,1,_,rfl,rfl,SqT.of hp,cB (j:=1) rfl,_,rfl,q,_,1,_,rfl,rfl,SqT.of hq,cB (j:=1) rfl,_,_,rfl,rfl,_,rfl,_,_,rfl,rfl,rfl,?_⟩;have e:decide (V.int ((if c.1 - d.1<0 then -(c.1 - d.1)else c.1 - d.1)+(if c.2 - d.2<0 then -(c.2 - d.2)else c.2 - d.2))=V.int 1)=fH c d:=by
   unfold fH;rw[decide_eq_decide];constructor
   ·intro z;have:=V.int.inj z;split at this<;>split at this<;>omega
   ·intro z;congr 1;split<;>split<;>omega
  rw[e];exact k
noncomputable abbrev nLR:List Str:=["_law_mead","_law_land","_law_row","_law_numbers","_law_column","_law_number","_law_near"]
theorem A6t:(["_law_place","_law_column","_law_row"]:List Str).Nodup:=by decide +kernel
theorem A2m (F:D1 K mg "_law_at_road" sI ["_law_mead","_law_land"])(T:Txt mg)(a1:A1 P w K mg base 1 "_law_next" qP):A1 P w K mg base 2 "_law_at_road" yS:=by
  refine F.k nLR ?_;ac_nf
  · obtain⟨a,t,g,w',cs,rfl,⟨bs,ha,hB⟩,G,⟨ps,ht,hP⟩,h10,q⟩:=h
    refine⟨_,aU (dX PassesOwn.never rfl (iB rfl rfl T.enumerate (aG (pv 0) aB)) (bP rfl (bA (aK (i:=2) nd rfl (Or.inr rfl)) (bA (nm1 3 nd) bR)))
        (aM (dX PassesOwn.never rfl (iB rfl rfl T.enumerate (aG (pv 3) aB)) (bP rfl (bA (aK (i:=4) nd rfl (Or.inr rfl)) (bA (nm1 5 nd) bR)))
          (aU (rR (i:=6) (bB sI).names nLR ["_law_place"] [("_law_column",4),("_law_row",2)] rfl nd rfl rfl (cR (pv 1)) rfl rfl rfl (by decide +kernel)
            (λZ=>nm1 0 A6t) (λZ=>eP (bM (a1.c hr (aG (pv 0) (gH (dC (aG (pv 2) (aG (pv 1) aB))) aB))))) (λZ=>pv 0))<|
           aM (bK (PW.pt (kU (bV eG (pv 5) (jW jL aV) (nomark _)) (lL (bV (A59 1 (eL hr)) (pv 6) (cX aB) (nomark _))))) (aM (bC cQ)) bL)))))<|
      aM (bC cQ),?_⟩
    have hbl:bs.length=g.length:=Paired.length hB;have hpl:ps.length=cs.length:=Paired.length hP;refine⟨_,rfl,a,_,rfl,SqT.of ha,?_⟩;refine jF (S:=λH xs=>SqT K H a xs) (xs:=bs.map V.ref) (λi σ H'=>Same H H'/\(∃o2 o3 o4 o5 o6,σ=[some (.ref a),some (.ref t),o2,o3,o4,o5,o6])/\(aN road (g.take i)).any (iM cs)=false)
      ⟨Same.refl _,⟨_,_,_,_,_,rfl⟩,rfl⟩ (λi σ H' _ h=>SqT.of (h.1 _ _ ha)) ?_ ?_
    · rintro i x p σ H' hx ⟨hs,⟨o2,o3,o4,o5,o6,rfl⟩,hno⟩ hp
      obtain⟨b,hbi,rfl⟩:=eI hx;have hi:i<g.length:=by rw[←hbl];exact(zjW.mp hbi).1
      obtain⟨xs,hxs⟩:∃xs,g[i]?=some xs:=⟨g[i],getElem?_eq_getElem hi⟩;obtain⟨b',hb',eb⟩:=hB.get hxs;rw[hbi]at hb';cases hb';have u1:=aQ (o:=.tup [.int (i:Int),.ref b]) hp;refine⟨p,_,rfl,SqT.of aJ,rfl,_,_,rfl,_,_,rfl,rfl,?_⟩;generalize upd H' p (.tup [.int (i:Int),.ref b])=H1 at u1⊢;have s1:=hs.trans u1;refine⟨_,rfl,b,_,rfl,SqT.of (s1 _ _ eb),?_⟩;refine jF (S:=λH xs=>SqT K H b xs) (xs:=xs.map V.int) (λj σ H2=>Same H1 H2/\(∃o4 o5 o6,σ=[some (.ref a),some (.ref t),some (.int (i:Int)),some (.ref b),o4,o5,o6])/\(fA road i (xs.take j)).any (iM cs)=false)
        ⟨Same.refl _,⟨_,_,_,rfl⟩,rfl⟩ (λj σ H2 _ h=>SqT.of (h.1 _ _ (s1 _ _ eb))) ?_ ?_
      · rintro j y p2 σ H2 hy ⟨hs2,⟨o4,o5,o6,rfl⟩,hno2⟩ hp2
        rw[getElem?_map]at hy;cases hn:xs[j]? with
        |none=>rw[hn]at hy;cases hy
        |some n=>
          rw[hn]at hy;cases hy;have u2:=aQ (o:=.tup [.int (j:Int),.int n]) hp2;refine⟨p2,_,rfl,SqT.of aJ,rfl,_,_,rfl,_,_,rfl,rfl,?_⟩;generalize upd H2 p2 (.tup [.int (j:Int),.int n])=H3 at u2⊢;have s3:=(s1.trans hs2).trans u2;refine⟨_,rfl,t,rfl,⟨_,SqT.of (s3 _ _ ht)⟩,λZ l hl=> ?_⟩;refine oO (R:=λH q c=>PlA H q c) (λe h=>e.tup _ _ h) (rest:=[some (.int (j:Int)),some (.int (i:Int))]) (λc=>fH c ((i:Int),(j:Int))) gP (λH' hs'=>SqT.of (hs' _ _ (s3 _ _ ht))) (hP.same s3) hl (by omega) (λb2 c2 H4 Q2 hc2 hb2 hs4 k2=> ?_) λσ H4 q4 hs4 el4 hP4=> ?_
          · refine⟨_,rfl,_,rfl,_,rfl,by show 2<=sizeLine;decide,λtp htp=> ?_⟩
            have u4:=aQ (o:=.tup [.int (i:Int),.int (j:Int)]) htp;exact⟨b2,tp,c2,((i:Int),(j:Int)),rfl,u4 _ _ hb2,aJ,_,rfl,k2 _ u4⟩
          · have et:=rowF_succ road (i:Int) xs j n hn
            have hq4:q4.length=_:=Paired.length hP4;have s4:=hs2.trans (u2.trans hs4);have ed:decide (V.int n=V.int (-1))=road n:=decide_eq_decide.mpr ⟨λz=>V.int.inj z,λz=>by rw[z]⟩;refine⟨_,rfl,1,rfl,rfl,_,rfl,?_⟩;rw[ed];refine cY (λz=> ?_) λz=> ?_
            · rw[if_pos z]at et
              refine⟨_,rfl,by show 0<=sizeLine;decide,λl0 hl0=> ?_⟩;have u6:=aQ (o:=.lst []) hl0;refine⟨l,l0,_,[],rfl,rfl,u6 _ _ el4,aJ,?_⟩;by_cases ze:cs.filter (λc=>fH c ((i:Int),(j:Int)))=[]
              · right
                rw[ze]at hq4;have:q4=[]:=eq_nil_of_length_eq_zero hq4;subst this;have ea:iM cs ((i:Int),(j:Int))=false:=by
                  unfold iM;rw[List.any_eq_false];intro o ho z;have:o∈cs.filter (λc=>fH c ((i:Int),(j:Int))):=mem_filter.mpr ⟨ho,z⟩;rw[ze]at this;cases this
                refine⟨[],trivial,_,rfl,bQ ⟨s4.trans u6,⟨_,_,_,rfl⟩,?_⟩⟩;rw[et,List.any_append,hno2,any_cons,ea];rfl
              · left
                have ea:iM cs ((i:Int),(j:Int))=true:=by
                  obtain⟨o,os,eo⟩:=List.exists_cons_of_ne_nil ze;have:o∈cs.filter (λc=>fH c ((i:Int),(j:Int))):=by rw[eo];exact zjR
                  exact any_eq_true.mpr ⟨o,(mem_filter.mp this).1,(mem_filter.mp this).2⟩
                refine⟨?_,_,rfl,fM ?_⟩
                · rw[length_map,hq4]
                  intro z0;exact ze (eq_nil_of_length_eq_zero z0)
                · have hby:jI g cs=true:=by
                    unfold jI;refine any_eq_true.mpr ⟨((i:Int),(j:Int)),mem_gridF.mpr ⟨i,j,xs,n,rfl,hxs,hn,z⟩,ea⟩
                  have:=q _ (((s1.trans s4)).trans u6);rw[hby]at this;exact this
            · rw[if_neg (by rw[z];decide),append_nil]at et
              exact⟨s4,⟨_,_,_,rfl⟩,by rw[et];exact hno2⟩
      · rintro σ H2 ⟨hs2,⟨o4,o5,o6,rfl⟩,hno2⟩
        rw[length_map,take_of_length_le (zjQ _)]at hno2;refine⟨s1.trans hs2,⟨_,_,_,_,_,rfl⟩,?_⟩;rw[gridF_succ road g i xs hxs,List.any_append,hno,hno2];rfl
    · rintro σ H' ⟨hs,_,hno⟩
      rw[length_map,hbl,take_of_length_le (zjQ _)]at hno;have:=q H' hs;unfold jI at this;rw[hno]at this;exact this
noncomputable abbrev nLC:List Str:=["_law_mead","_law_found","_law_row","_law_numbers"]
theorem uR:(["_law_column","_law_number","_law_row"]:List Str).Nodup:=by decide +kernel
theorem A25 (F:D1 K mg "_law_cells" qA ["_law_mead"])(T:Txt mg):A1 P w K mg base 1 "_law_cells" (eY pos):=by
 refine F.k nLC ?_;ac_nf
 ·obtain⟨a,g,w',rfl,⟨bs,ha,hG⟩,G,q⟩:=h;refine⟨_,aU (bX (i:=1) nd rfl (Or.inl rfl) (cX aB))<|
   aU (dX PassesOwn.never rfl (iB rfl rfl T.enumerate (aG (pv 0) aB)) (bP rfl (bA (aK (i:=2) nd rfl (Or.inr rfl)) (bA (nm1 3 nd) bR)))
    (aM (cK (gI PySem.F.plainAttrs_list PySem.F.slot_list_extend PySem.F.type_list_extend qK (pv 1) (cO (bN (bB qA).names nLC ["_law_column","_law_number"] [("_law_row",2)] rfl (iB rfl rfl T.enumerate (aG (pv 3) aB)) rfl rfl rfl (by decide +kernel)
     (λZ=>bP rfl (bA (nm1 0 uR) (bA (nm1 1 uR) bR))) (λZ=>eP (bV mK (pv 1) aV (nomark _))) (λZ=>dC (aG (pv 2) (aG (pv 0) aB)))) aB)))))<|
   aM (bC (pv 1)),?_⟩
  refine⟨by show 0<=sizeLine;decide,λl hl=> ?_⟩;have s0:=aQ (o:=.lst []) hl;have hbs:bs.length=g.length:=Paired.length hG;refine⟨_,rfl,a,_,rfl,SqT.of (s0 _ _ ha),?_⟩;refine jF (xs:=bs.map V.ref) (λi σ H'=>(∃o2 o3,σ=[some (.ref a),some (.ref l),o2,o3])/\Same H H'/\∃ps,H' l=some (.lst (ps.map V.ref))/\PlAt H' ps (aN pos (g.take i))/\ps.length<=6*i) ⟨⟨_,_,rfl⟩,s0,[],by rw[aJ];rfl,.nil,zero_le _⟩ (λi σ H' _ h=>SqT.of (h.2.1 _ _ ha)) ?_ ?_
  ·rintro i r p σ H' hx ⟨⟨o2,o3,rfl⟩,hs,ps,hl',hP,hn⟩ hp;obtain⟨b,hbi,rfl⟩:∃b,bs[i]?=some b/\V.ref b=r:=by
    rw[getElem?_map]at hx;cases e:bs[i]? with
    |none=>rw[e]at hx;cases hx
    |some b=>rw[e]at hx;exact⟨b,rfl,Option.some.inj hx⟩
   obtain⟨xs,hgi,hb⟩:=hG.row hbi;have hx5:xs.length<=5:=by have:=G.len xs (mem_of_getElem? hgi);have:=G.w5;omega
   have h4:=G.h4;have hi4:i<4:=lt_of_lt_of_le (zjW.mp hgi).1 h4;have s1:Same H' (upd H' p (.tup [.int i,.ref b])):=aQ hp;refine⟨p,_,rfl,SqT.of aJ,rfl,_,_,rfl,_,_,rfl,rfl,?_⟩;refine⟨_,rfl,.inl ⟨rfl,_,SqL.of (s1 _ _ hl')⟩,_,rfl,b,xs.map V.int,rfl,SqT.of (s1 _ _ (hs _ _ hb)),λZ l2 hl2=> ?_⟩;have sA:=hs.trans s1;refine jF (xs:=xs.map V.int) (λj σ H2=>(∃y1 y2,σ=[y1,y2,some (.int i)])/\Same (upd H' p (.tup [.int i,.ref b])) H2/\∃zs,H2 l2=some (.lst (zs.map V.ref))/\PlAt H2 zs (fA pos i (xs.take j))/\zs.length<=j) ⟨⟨_,_,rfl⟩,aQ hl2,[],by rw[aJ];rfl,.nil,zero_le _⟩ (λj σ H2 _ h=>SqT.of (h.2.1 _ _ (sA _ _ hb))) ?_ ?_
   ·rintro j x p2 σ H2 hxj ⟨⟨y1,y2,rfl⟩,hs2,zs,hl2',hP2,hn2⟩ hp2;obtain⟨z,hzj,rfl⟩:∃z,xs[j]?=some z/\V.int z=x:=by
     rw[getElem?_map]at hxj;cases e:xs[j]? with
     |none=>rw[e]at hxj;cases hxj
     |some z=>rw[e]at hxj;exact⟨z,rfl,Option.some.inj hxj⟩
    have hj:j<5:=lt_of_lt_of_le (zjW.mp hzj).1 hx5;have s2:Same H2 (upd H2 p2 (.tup [.int j,.int z])):=aQ hp2;refine⟨p2,_,rfl,SqT.of aJ,rfl,_,_,rfl,_,_,rfl,rfl,?_⟩;refine⟨_,rfl,_,_,rfl,rfl,_,rfl,cY (λe=> ?_) λe=> ?_⟩
    ·refine⟨_,rfl,_,rfl,(by show 2<=sizeLine;decide),λq3 hq3=> ?_⟩;have s3:=aQ (o:=.tup [.int i,.int j]) hq3;have hlq:l2≠q3:=bH (s2 _ _ hl2') hq3;refine⟨_,s3 _ _ (s2 _ _ hl2'),bW (by rw[length_map];omega),⟨_,_,rfl⟩,λb' u e'=> ?_,zs++[q3],?_,?_,?_⟩
     ·rw[aY (bH e' hl2)];exact s3 _ _ (s2 _ _ (hs2 _ _ e'))
     ·rw[aJ,map_append];rfl
     ·have hne:∀b' u,(upd (upd H2 p2 (.tup [.int j,.int z])) q3 (.tup [.int i,.int j])) b'=some (.tup u)->(upd (upd (upd H2 p2 (.tup [.int j,.int z])) q3 (.tup [.int i,.int j])) l2 (.lst (zs.map V.ref++[.ref q3]))) b'=some (.tup u):=λb' u e'=>by
       rw[aY (λz'=> ?_)];exact e';rw[z',aY hlq,s2 _ _ hl2']at e';cases e'
      rw[Grd.rowF_succ pos i xs j _ hzj,if_pos (show pos z=true from e)];exact PlAt.snoc (Paired.mapP ((hP2.same s2).same s3) λ_ _ e'=>hne _ _ e') (hne _ _ aJ)
     ·rw[length_append];show zs.length+1<=_;omega
    ·refine⟨⟨_,_,rfl⟩,hs2.trans s2,zs,s2 _ _ hl2',?_,by omega⟩;rw[Grd.rowF_succ pos i xs j _ hzj,if_neg (by rw[show pos z=false from e];decide),append_nil];exact hP2.same s2
   ·rintro σ H2 ⟨⟨y1,y2,rfl⟩,hs2,zs,hl2',hP2,hn2⟩;rw[length_map]at hP2 hn2;rw[take_of_length_le (zjQ _)]at hP2;have hlH2:=hs2 _ _ (s1 _ _ hl');have hll:l2≠l:=λz=>by rw[z,s1 _ _ hl']at hl2;cases hl2
    refine⟨l,l2,_,_,rfl,rfl,hlH2,hl2',by rw[length_map,length_map,sizeLine_eq];omega,?_⟩;have keepT:∀b' u,H2 b'=some (.tup u)->(upd H2 l (.lst (ps.map V.ref++zs.map V.ref))) b'=some (.tup u):=λb' u e'=>by
     rw[aY (λz'=> ?_)];exact e';rw[z',hlH2]at e';cases e'
    refine⟨⟨_,_,rfl⟩,λb' u e'=> ?_,ps++zs,by rw[aJ,map_append],?_,by rw[length_append];omega⟩
    ·rw[aY (bH e' hl)];exact hs2 _ _ (s1 _ _ (hs _ _ e'))
    ·rw[Grd.gridF_succ pos g i _ hgi];have app:∀{as bs:List Addr}{cs ds:List (Int×Int)},PlAt (upd H2 l (.lst (ps.map V.ref++zs.map V.ref))) as cs->PlAt (upd H2 l (.lst (ps.map V.ref++zs.map V.ref))) bs ds->PlAt (upd H2 l (.lst (ps.map V.ref++zs.map V.ref))) (as++bs) (cs++ds):=by
      intro as bs cs ds h1 h2
      induction h1 with
      |nil=>exact h2
      |cons r t ih=>exact .cons r ih
     exact app (Paired.mapP ((hP.same s1).same hs2) λ_ _ e'=>keepT _ _ e') (Paired.mapP hP2 λ_ _ e'=>keepT _ _ e')
  ·rintro σ H' ⟨⟨o2,o3,rfl⟩,hs,ps,hl',hP,_⟩;rw[length_map,hbs,take_of_length_le (zjQ _)]at hP;exact⟨_,rfl,q H' l ps hl hs hl' hP⟩
noncomputable abbrev nLP:List Str:=["_law_land","_law_place","_law_line","_law_at"]
theorem A6b:(["_law_one","_law_line","_law_at"]:List Str).Nodup:=by decide +kernel
theorem B1z (F:D1 K mg "_law_piece" mZ ["_law_land","_law_place"])(T:Txt mg)(T2:eE mg)(a1:A1 P w K mg base 1 "_law_next" qP):A1 P w K mg base 2 "_law_piece" A05:=by
  refine F.k nLP ?_;ac_nf
  · obtain⟨t,pa,cs,c,rfl,hT,h10,hnd,hp,hc,q⟩:=h
    refine⟨_,aU (eO (dC (lI (cX (aG (pv 1) aB)) (bZ aV aB))) (bP rfl (bA (aK (i:=2) nd rfl (Or.inr rfl)) (bA (aK (i:=3) nd rfl (Or.inr rfl)) bR))))<|
      aU (tU PassesOwn.never (bV iQ (pv 3) (bE fF rfl T.len PySem.boot_len (aG (pv 2) aB)) (nomark _))
        (aU (cK (gI PySem.F.plainAttrs_list PySem.F.slot_list_extend PySem.F.type_list_extend qK (pv 2) (cO (bN (bB mZ).names nLP ["_law_one"] [("_law_line",2),("_law_at",3)] rfl (cR (pv 0)) rfl rfl rfl (by decide +kernel)
            (λZ=>nm1 0 A6b) (λZ=>eP (PW.pt (kU (bV (wY 1 (eL hr)) (pv 0) (pv 1) rfl) (lL (bM (a1.c hr (aG (pv 0) (eX (bJ eR (pv 1) (pv 2) (λ_ _=>rfl)) aB)))))))) (λZ=>pv 0)) aB)))<|
         aM (bX (i:=3) nd rfl (Or.inr rfl) (bG eT (pv 3) aV))))<|
      aM (bC (fC gD rfl T.tuple boot_tuple (cG (bE wE rfl T2.sorted boot_sorted (aG (pv 2) aB)) aB))),?_⟩
    obtain⟨ts,ht,hP⟩:=hT;have hts:ts.length=cs.length:=Paired.length hP;refine⟨_,rfl,by show 1<=sizeLine;decide,λlr hlr=> ?_⟩;have s0:=aQ (o:=.lst [.ref pa]) hlr;refine⟨by show 2<=sizeLine;decide,λtp htp=> ?_⟩;have s00:=aQ (o:=.tup [.ref lr,.int 0]) htp;refine⟨tp,_,rfl,SqT.of aJ,rfl,_,_,rfl,_,_,rfl,rfl,?_⟩;have sA:=s0.trans s00;refine⟨λm σ H'=> ∃k qs R,m+k=10/\σ=[some (.ref t),some (.ref pa),some (.ref lr),some (.int (k:Nat))]/\Same H H'/\H' lr=some (.lst ((qs:List Addr).map V.ref))/\PlAt H' qs R/\Rch cs c R k,
      ⟨10,0,[pa],[c],rfl,rfl,sA,s00 _ _ aJ,.cons (sA _ _ hp) .nil,Rch.start hc⟩,?_⟩
    rintro m σ H' ⟨k,qs,R,hm,rfl,hs,hlr',hR,rc⟩;have hqR:qs.length=R.length:=Paired.length hR;have hRl:=rc.len;refine⟨_,rfl,_,rfl,lr,_,rfl,.inl (SqL.of hlr'),_,_,rfl,rfl,_,rfl,dW (λz=> ?_) λz=> ?_⟩
    · rw[length_map,hqR]at z
      have hk:k<R.length:=by omega
      have hkq:k<qs.length:=by omega
      have hqk:qs[k]?=some (qs[k]):=getElem?_eq_getElem hkq;obtain⟨x,hx,he⟩:=hR.at hqk;have hnn:(nb2 cs R x).Nodup:=hnd.sublist filter_sublist;refine⟨λσ' H2=> ∃qs',σ'=[some (.ref t),some (.ref pa),some (.ref lr),some (.int ((k+1:Nat):Int))]/\Same H H2/\H2 lr=some (.lst ((qs':List Addr).map V.ref))/\PlAt H2 qs' (R++nb2 cs R x),
        λσ' H2 ⟨qs',h1,h2,h3,h4⟩=> ⟨m - 1,by omega,k+1,qs',_,by omega,h1,h2,h3,h4,rc.stepN hx hnn λy=>A5b⟩,?_⟩
      refine⟨_,rfl,.inl ⟨rfl,_,SqL.of hlr'⟩,?_⟩;have ht':=hs _ _ ht;have hP':=hP.same hs;refine⟨_,rfl,t,rfl,⟨_,SqT.of ht'⟩,λZ ln hln=> ?_⟩;refine gG (K:=K) (a:=t) (xs:=ts.map V.ref) (λj σ H3=>(∃o,σ=[o,some (.ref lr),some (.int (k:Nat))])/\Same H' H3/\∃ns,H3 ln=some (.lst ((ns:List Addr).map V.ref))/\PlAt H3 ns (nb2 (cs.take j) R x))
        ⟨⟨_,rfl⟩,aQ hln,[],by rw[aJ];rfl,.nil⟩ (λj σ H3 _ h=>SqT.of (h.2.1 _ _ ht')) ?_ ?_
      · rintro j y σ H3 hy ⟨⟨o',rfl⟩,hs3,ns,hn,hN⟩
        obtain⟨b,hbj,rfl⟩:=eI hy;obtain⟨d,hd,hbd⟩:=hP'.at hbj;have hj:j<cs.length:=(zjW.mp hd).1;have hbd3:=hs3 _ _ hbd;have hnl:ns.length<=10:=by
          have h1:ns.length=(nb2 (cs.take j) R x).length:=Paired.length hN;have h2:(nb2 (cs.take j) R x).length<=(cs.take j).length:=length_filter_le _ _;rw[length_take]at h2;omega
        have et:nb2 (cs.take (j+1)) R x=nb2 (cs.take j) R x++(if (!decide (d∈R)&&fH d x)=true then [d]else []):=by
          unfold nb2;rw[take_succ,hd,filter_append]
          congr 1
          cases e:(!decide (d∈R)&&fH d x)
          · simp[e]
          · simp[e]
        rw[et];show cZ _ _ _ [some (.ref b),some (.ref lr),some (.int (k:Nat))] H3;refine⟨_,rfl,_,rfl,lr,_,_,rfl,.inr (hs3 _ _ hlr'),jZ hbd3 (hR.same hs3),_,rfl,?_⟩;rw[qX];refine cY (λz1'=> ?_) λz1'=> ?_
        · have z1:d∉R:=by simpa using z1'
          rw[zjU z1];refine⟨_,rfl,_,rfl,_,rfl,lr,_,_,_,rfl,rfl,SqL.of (hs3 _ _ hlr'),cB (v:=V.ref qs[k]) (by rw[getElem?_map,hqk];rfl),?_⟩;refine⟨b,qs[k],d,x,rfl,hbd3,hs3 _ _ he,_,rfl,?_⟩;refine cY (λz2=> ?_) λz2=> ?_
          · rw[if_pos (by rw[z2];rfl)]
            refine⟨_,rfl,_,hn,bW (by rw[length_map];omega),⟨_,rfl⟩,λb' u e'=> ?_,ns++[b],?_,?_⟩
            · rw[aY (bH e' hln)];exact hs3 _ _ e'
            · rw[aJ,map_append];rfl
            · exact PlAt.snoc (Paired.mapP hN λ_ _ z=>PlA.put hn z) (PlA.put hn hbd3)
          · rw[if_neg (by rw[z2];decide),append_nil]
            exact⟨⟨_,rfl⟩,hs3,ns,hn,hN⟩
        · have z1:d∈R:=by simpa using z1'
          rw[if_neg (by rw[zjV z1];simp),append_nil];exact⟨⟨_,rfl⟩,hs3,ns,hn,hN⟩
      · rintro σ H3 ⟨⟨o',rfl⟩,hs3,ns,hn,hN⟩
        rw[length_map,hts,take_of_length_le (zjQ _)]at hN;have hnl:ns.length<=10:=by
          have h1:ns.length=(nb2 cs R x).length:=Paired.length hN;have h2:(nb2 cs R x).length<=cs.length:=length_filter_le _ _;omega
        have hlr3:=hs3 _ _ hlr';refine⟨lr,ln,_,_,rfl,rfl,hlr3,hn,by rw[length_map,length_map,sizeLine_eq];omega,?_⟩;refine⟨_,rfl,_,_,rfl,rfl,⟨qs++ns,rfl,λb' u e'=> ?_,by rw[aJ,map_append],?_⟩⟩
        · rw[aY (bH e' hlr)];exact hs3 _ _ (hs _ _ e')
        · exact A1q (Paired.mapP (hR.same hs3) λ_ _ z=>PlA.put hlr3 z) (Paired.mapP hN λ_ _ z=>PlA.put hlr3 z)
    · rw[length_map,hqR]at z
      refine⟨_,rfl,?_⟩;refine A1z (X:=(dJ CX0 P w K mg base nLP (Str.ofString "_law_piece") (bB mZ) f cdv A outer s H E).nox) (Q:=λv H1=> ∃p ys,[v]=[V.ref p]/\((SqL K H1 p ys/\∀l,H1 l=none->Q (.ref l) (upd H1 l (.tup ys)))\/(SqT K H1 p ys/\Q (.ref p) H1))) hlr' hR (by omega) λl9 qs' R' H9 h9 s9 hl9 hR9 pm up=> ?_;refine⟨l9,_,rfl,.inl ⟨SqL.of hl9,λt' ht'=> ?_⟩⟩;have s10:=aQ (o:=.tup (qs'.map V.ref)) ht';exact q t' R' _ ((hs.trans s9).trans s10) ⟨qs',aJ,hR9.same s10⟩ (rc.fin (by omega) pm up)
end
end M51
namespace L2
open PySem PyProof.Rows Wlk
theorem B11 {K:PySem.W.Frag}{J:It}{S:Hp->Prop}{l:Addr}{bs:List Addr}{cl:List C3}{te:TE}{tt:TT}{H0:Hp}{rest:St}{Q:St->Hp->Prop}(W:Wk J (bs.map V.ref) S)(hS:∀H',Same H0 H'->S H')(hC:ClP H0 bs cl)(hl:H0 l=none)(hz:bs.length<=999)(p:C3->Bool)(f:C3->V)
  (tst:∀c H' Q',c∈cl->Same H0 H'->Q' (p c) H'->tt (some (.int c.1)::some (.int c.2.1)::some (.int c.2.2)::rest) H' Q')
  (turn:∀c H' Q',c∈cl->Same H0 H'->(∀H2,Same H' H2->Q' (f c) H2)->te (some (.int c.1)::some (.int c.2.1)::some (.int c.2.2)::rest) H' Q')(hQ:∀σ H',Same H0 H'->H' l=some (.lst ((cl.filter p).map f))->Q σ H'):
  eA J (gN K 3 (eF (cT 0) (eF (cT 1) (eF (cT 2) gQ)))) (cZ tt (eJ l te)) (eC Q) (none::none::none::rest) (upd H0 l (.lst [])):=by
 have hlen:bs.length=cl.length:=Paired.length hC;refine W (λi σ H'=>(∃x y z,σ=x::y::z::rest)/\Same H0 H'/\H' l=some (.lst (((cl.take i).filter p).map f))) ⟨⟨_,_,_,rfl⟩,aQ hl,by rw[aJ];rfl⟩ (λi σ H' _ h=>hS _ h.2.1) ?_ ?_
 ·rintro i x σ H' hx ⟨⟨x0,y0,z0,rfl⟩,hs,hl'⟩;rw[getElem?_map]at hx;cases hb:bs[i]? with
  |none=>rw[hb]at hx;cases hx
  |some b=>
   rw[hb]at hx;cases hx;obtain⟨c,hc,he⟩:=hC.get hb;have hi:i<bs.length:=(zjW.mp hb).1;have et:(cl.take (i+1)).filter p=(cl.take i).filter p++(if p c=true then [c]else []):=by
    rw[take_succ,hc,filter_append]
    congr 1
    by_cases z:p c=true
    ·simp[z]
    ·simp[z]
   have hfl:=length_filter_le p (cl.take i);rw[length_take]at hfl;refine⟨b,_,rfl,SqT.of (hs _ _ he),rfl,_,_,rfl,_,_,rfl,_,_,rfl,rfl,?_⟩;refine tst c H' _ (mem_of_getElem? hc) hs ?_;refine cY (λhz'=> ?_) λhz'=> ?_
   ·refine turn c H' _ (mem_of_getElem? hc) hs λH2 h2=> ?_;refine⟨_,h2 _ _ hl',bW (by rw[length_map];omega),⟨_,_,_,rfl⟩,λb u e=> ?_,?_⟩
    ·rw[aY (bH e hl)];exact h2 _ _ (hs _ _ e)
    ·rw[aJ,et,if_pos hz',map_append];rfl
   ·refine⟨⟨_,_,_,rfl⟩,hs,?_⟩;rw[et,if_neg (by rw[hz'];decide),append_nil];exact hl'
 ·rintro σ H' ⟨_,hs,hl'⟩;rw[length_map,hlen,take_of_length_le (zjQ _)]at hl';exact hQ σ H' hs hl'
end L2
namespace M51
open PySem L2 PyProof.Rows Grd Wlk Cyc Srt Set4
theorem A10 {g:bI}{L:List Pl}(hin:∀c∈L,c∈aN pos g):jI g L=L.any λc=>decide (c∈(aN pos g).filter (fR g)):=by
 unfold jI iM fR;rw[Bool.eq_iff_iff,any_eq_true,any_eq_true];constructor
 ·rintro⟨d,hd,h⟩;obtain⟨c,hc,hn⟩:=any_eq_true.mp h;refine⟨c,hc,zjV (mem_filter.mpr ⟨hin c hc,any_eq_true.mpr ⟨d,kP (next_iff.mp hn),zjV hd⟩⟩)⟩
 ·rintro⟨c,hc,h⟩;have h1:=(mem_filter.mp (of_decide_eq_true h)).2;obtain⟨d,hd,he⟩:=any_eq_true.mp h1;exact⟨d,of_decide_eq_true he,any_eq_true.mpr ⟨c,hc,next_iff.mpr (kP hd)⟩⟩
theorem zB:ab x<=k↔ -k<=x/\x<=k:=by
 unfold ab
 split<;>constructor<;>intro h<;>(try constructor)<;>omega
theorem gU {b x y:Int}(hb:1<=b):b*x<=b*y↔x<=y:=
 ⟨λh=>Int.le_of_mul_le_mul_left h (by omega),λh=>Int.mul_le_mul_of_nonneg_left h (by omega)⟩
theorem A5a {W b t N D od:Int}(hb:1<=b)(hN:1<=N)(e:t*N=D*b):ab (W*b - t)<=od*b↔ab (W*N - D)<=od*N:=by
 rw[zB,zB];have k1:N*(W*b - t)=b*(W*N - D):=by
  rw[Int.mul_sub,Int.mul_sub,Int.mul_comm N t,e,Int.mul_comm D b]
  congr 1
  rw[←Int.mul_assoc,Int.mul_comm N W,Int.mul_comm (W*N) b]
 have k2:N*(od*b)=b*(od*N):=by rw[←Int.mul_assoc,Int.mul_comm N od,Int.mul_comm (od*N) b]
 have k3:N* -(od*b)=b* -(od*N):=by rw[Int.mul_neg,Int.mul_neg,k2]
 constructor
 ·rintro⟨h1,h2⟩;have h1':=(gU hN).mpr h1;have h2':=(gU hN).mpr h2;rw[k3,k1]at h1';rw[k1,k2]at h2';exact⟨(gU hb).mp h1',(gU hb).mp h2'⟩
 ·rintro⟨h1,h2⟩;have h1':=(gU hb).mpr h1;have h2':=(gU hb).mpr h2;rw[←k3,←k1]at h1';rw[←k1,←k2]at h2';exact⟨(gU hN).mp h1',(gU hN).mp h2'⟩
theorem B1c (hT:0<=bU g)(hC:0<=dA cs cl i)(hN:1<=bO cs cl):1<=kF g cs cl i/\nY g cs cl i*bO cs cl=(bU g*dA cs cl i)*kF g cs cl i:=by
 obtain⟨s0,s1,_,_,s4⟩:=qV hC hN;have hs0:0<=bU g*frTop (dA cs cl i) (bO cs cl):=Int.mul_nonneg hT s0;obtain⟨d0,d1,_,_,d4⟩:=qV hs0 s1;refine⟨d1,?_⟩;show frTop (bU g*frTop (dA cs cl i) (bO cs cl)) (frBot (dA cs cl i) (bO cs cl))*bO cs cl=bU g*dA cs cl i*frBot (bU g*frTop (dA cs cl i) (bO cs cl)) (frBot (dA cs cl i) (bO cs cl));generalize frTop (dA cs cl i) (bO cs cl)=sT at*;generalize frBot (dA cs cl i) (bO cs cl)=sB at*;generalize frTop (bU g*sT) sB=dT at*;generalize frBot (bU g*sT) sB=dB at*;have hne:sB≠0:=by omega
 refine Int.eq_of_mul_eq_mul_left hne ?_
 calc sB*(dT*bO cs cl)=dT*sB*bO cs cl:=by rw[←Int.mul_assoc,Int.mul_comm sB dT]
  _=bU g*sT*dB*bO cs cl:=by rw[d4]
  _=bU g*(sT*bO cs cl)*dB:=by rw[Int.mul_assoc (bU g*sT) dB,Int.mul_comm dB,←Int.mul_assoc,Int.mul_assoc (bU g)]
  _=bU g*(dA cs cl i*sB)*dB:=by rw[s4]
  _=sB*(bU g*dA cs cl i*dB):=by rw[←Int.mul_assoc (bU g),Int.mul_comm _ sB,Int.mul_assoc sB]
theorem B1d {g:bI}{cs:List Int}{cl:List C3}{od i:Int}{L:List Pl}(hT:0<=bU g)(hC:0<=dA cs cl i)(hN:1<=bO cs cl):hV g cs cl od i L= !decide (od*bO cs cl<ab (fE g L*bO cs cl - bU g*dA cs cl i)):=by obtain⟨h1,h2⟩:=B1c (g:=g) hT hC hN;have:=A5a (W:=fE g L) (od:=od) h1 hN h2;unfold hV;rw[Bool.eq_iff_iff,decide_eq_true_eq,this];simp
theorem B2p (g:bI):fE g (aN pos g)=bU g:=xA g
noncomputable def tN:Sp:=λvs H Q _=> ∃p t g w cs cl od i L,vs=[.ref p,.int i,.ref t]/\PleA H p g w cs cl od/\SqA H t L/\LandOf g L/\∀H',Same H H'->Q (.bl (dQ g cs cl od i L)) H'
noncomputable def sK:Sp:=λvs H Q _=> ∃p g w cs cl od i,vs=[.ref p,.int i]/\PleA H p g w cs cl od/\∀l qs H',H l=none->Same H H'->H' l=some (.lst ((qs:List Addr).map V.ref))->LansAt H' qs ((llG (aN pos g)).filter (dQ g cs cl od i))->Q (.ref l) H'
section
variable {P:Program}{w:World}{K:W.Frag}{mg:Str->Option Value}{base:Heap}
theorem A00 {K:PySem.W.Frag}{J:It}{S:Hp->Prop}{a l:Addr}{g:bI}{w':Nat}{cs:List Pl}{ps:List Addr}{H:Hp}{Q:VK}(W:Wk J (ps.map V.ref) S)(hS:∀H',Same H H'->S H')(hA:GridAt H a g)(G:cU g w')(hP:PlAt H ps cs)(hL:LandOf g cs)(hl:H l=none)(q:∀H',Same H H'->Q (.int (fE g cs)) H'):
  eA J (gN K 2 (eF (cT 0) (eF (cT 1) gQ))) (cZ gB (eJ l (tOp (iW K) (tOp (iW K) (dN 2) (dN 0)) (dN 1)))) (eC λ_ H'=> ∃(p:Addr)(ns:List Int),[V.ref l]=[.ref p]/\SqL K H' p (ns.map V.int)/\ns.length<=1000/\(∀n∈ns,-1000<=n/\n<=1000)/\Q (.int ns.sum) H') [none,none,some (.ref a)] (upd H l (.lst [])):=by
 have hpl:ps.length=cs.length:=Paired.length hP;have h10:=LandOf.len G hL;refine W (λi σ H'=>(∃o1 o2,σ=[o1,o2,some (.ref a)])/\Same H H'/\H' l=some (.lst (((cs.take i).map (atG g)).map V.int))) ⟨⟨_,_,rfl⟩,aQ hl,by rw[aJ];rfl⟩ (λi σ H' _ h=>hS _ h.2.1) ?_ ?_
 ·rintro i x σ H' hi ⟨⟨o1,o2,rfl⟩,hs,hl'⟩;obtain⟨p,hpi,rfl⟩:=eI hi;obtain⟨cc,hci,hpc⟩:=hP.at hpi;have hil:i<cs.length:=(zjW.mp hci).1;obtain⟨i',j',xs,n,rfl,hg,hx,hf⟩:=mem_gridF.mp (hL.subset (mem_of_getElem? hci));obtain⟨bs,b,h1,h2,h3,h4⟩:=(hA.same hs).ix hg hx;refine⟨p,_,rfl,SqT.of (hs _ _ hpc),rfl,_,_,rfl,_,_,rfl,rfl,?_⟩;refine gO ?_;refine⟨_,rfl,_,rfl,a,_,_,_,rfl,rfl,SqT.of h1,h2,_,rfl,b,_,_,_,rfl,rfl,SqT.of h3,h4,?_⟩;refine⟨_,hl',bW (by rw[length_map,length_map,length_take];omega),⟨_,_,rfl⟩,λb' u e'=> ?_,?_⟩
  ·rw[aY (bH e' hl)];exact hs _ _ e'
  ·rw[aJ,take_succ,hci,map_append,map_append];show some (HO.lst (_++[V.int n]))=some (HO.lst (_++[V.int (atG g ((i':Int),(j':Int)))]));rw[iZ hg hx]
 ·rintro σ H' ⟨_,hs,hl'⟩;rw[length_map,hpl,take_of_length_le (zjQ _)]at hl';refine⟨l,_,rfl,SqL.of hl',by rw[length_map];omega,λn hn=> ?_,q H' hs⟩;obtain⟨c,hc,rfl⟩:=mem_map.mp hn;obtain⟨i',j',xs,n,rfl,hg,hx,hf⟩:=mem_gridF.mp (hL.subset hc);rw[iZ hg hx];have:=G.num xs (mem_of_getElem? hg) n (mem_of_getElem? hx);omega
theorem A0a:(["_law_row","_law_column","_law_mead"]:List Str).Nodup:=by decide +kernel
theorem B1h (F:D1 K mg "_law_worth" pP ["_law_mead","_law_land"])(T2:eE mg):A1 P w K mg base 1 "_law_worth" xS:=by
 refine F.k ["_law_mead","_law_land"] ?_;ac_nf
 ·obtain⟨a,t,g,w',ps,cs,rfl,hA,G,ht,hP,hL,q⟩:=h;refine⟨_,aM (bC (bE (pH rfl) rfl T2.sum boot_sum (cO (bN (bB pP).names ["_law_mead","_law_land"] ["_law_row","_law_column"] [("_law_mead",0)] rfl (PI.or (cR (pv 1)) (cV (pv 1))) rfl rfl rfl (by decide +kernel)
    (λZ=>bP rfl (bA (nm1 0 A0a) (bA (nm1 1 A0a) bR))) (λZ=>cF) (λZ=>bJ cA (bJ cA (pv 2) (pv 0) (λ_ _=>rfl)) (pv 1) (λ_ _=>rfl))) aB))),?_⟩
  rcases ht with ht|ht
  ·exact .inl ⟨_,rfl,t,rfl,⟨_,SqT.of ht⟩,λZ l hl=>A00 gP (λH' hs=>SqT.of (hs _ _ ht)) hA G hP hL hl q⟩
  ·exact .inr ⟨_,rfl,t,rfl,⟨_,SqL.of ht⟩,λZ l hl=>A00 lC (λH' hs=>SqL.of (hs _ _ ht)) hA G hP hL hl q⟩
noncomputable abbrev nFi:List Str:=["_law_plea","_law_holder","_law_land","_law_mead","_law_custom","_law_claims","_law_odd","_law_own","_law_every","_law_total"]
theorem qB:(["_law_who","_law_sort","_law_many","_law_custom","_law_holder"]:List Str).Nodup:=by decide +kernel
theorem qY:(["_law_who","_law_sort","_law_many","_law_custom"]:List Str).Nodup:=by decide +kernel
theorem A3z (F:D1 K mg "_law_fits" mJ ["_law_plea","_law_holder","_law_land"])(TC:TxC mg)(T2:eE mg)(aW:A1 P w K mg base 1 "_law_worth" xS)(aC:A1 P w K mg base 1 "_law_cells" (eY pos))(aR:A1 P w K mg base 2 "_law_at_road" yS)(aP:A1 P w K mg base 2 "_law_piece" A05):A1 P w K mg base 3 "_law_fits" tN:=by
 refine F.k nFi ?_;ac_nf
 ·obtain⟨p,t,g,w',cs,cl,od,i,L,rfl,D,hT,hL,q⟩:=h;obtain⟨m,c,a,hp,hm,hc,bs,ha,hC⟩:=D.ex;refine⟨_,aU (eO (pv 0) (bP rfl (bA (nm1 3 nd) (bA (aK (i:=4) nd rfl (Or.inr rfl)) (bA (nm1 5 nd) (bA (nm1 6 nd) bR))))))<|
   aU (bX (i:=7) nd rfl (Or.inl rfl) (bE (rE rfl) rfl TC.sum boot_sum (cO (bN (bB mJ).names nFi ["_law_who","_law_sort","_law_many"] [("_law_custom",4),("_law_holder",1)] rfl (cR (pv 5)) rfl rfl rfl (by decide +kernel)
    (λZ=>bP rfl (bA (nm1 0 qB) (bA (nm1 1 qB) (bA (nm1 2 qB) bR)))) (λZ=>eP (bV eG (pv 0) (pv 4) (nomark _))) (λZ=>bG fT (bJ cA (pv 3) (pv 1) (λ_ _=>rfl)) (pv 2))) aB)))<|
   aU (bX (i:=8) nd rfl (Or.inl rfl) (bE (rE rfl) rfl TC.sum boot_sum (cO (bN (bB mJ).names nFi ["_law_who","_law_sort","_law_many"] [("_law_custom",4)] rfl (cR (pv 5)) rfl rfl rfl (by decide +kernel)
    (λZ=>bP rfl (bA (nm1 0 qY) (bA (nm1 1 qY) (bA (nm1 2 qY) bR)))) (λZ=>cF) (λZ=>bG fT (bJ cA (pv 3) (pv 1) (λ_ _=>rfl)) (pv 2))) aB)))<|
   aU (bX (i:=9) nd rfl (Or.inl rfl) (aW.c hr (aG (pv 3) (cG (aC.c hr (aG (pv 3) aB)) aB))))<|
   aU (bK (PW.pt (jA (bV (sP (eL hr)) (pv 2) (dC aB) (nomark _)) (jX (bV vH (bE iH rfl T2.abs iK (dF (bG fK (bG fT (aW.c hr (aG (pv 3) (aG (pv 2) aB))) (pv 8)) (bG fT (pv 9) (pv 7))) aB)) (bG fT (pv 6) (pv 8)) (nomark _))))) (aM (bC cQ)) bL)<|
   aM (bC (fS (aR.c hr (aG (pv 3) (aG (pv 2) aB))) (fX (eW (sP (eL hr)) (aP.c hr (aG (pv 2) (eX (bJ cA (pv 2) aV (λ_ _=>rfl)) aB))) (pv 2) (nomark _))))),?_⟩
  have hf:=nO D.ck D.un;have h12:=D.ck.l12;have hbl:bs.length=cl.length:=Paired.length hC;have hb:=pY D.cu D.ck D.un i;have tb:=yG D.G D.c6;have h10:=LandOf.len D.G hL;have wb:=uC D.G (λc hc=>hL.subset hc) h10;have turn:∀{rest:L2.St}(x:C3)(H':Hp)(Q':VK),x∈cl->Same H H'->(∀H2,Same H' H2->Q' (.int (cw cs x)) H2)->tOp (rI CMul λi j=> .int (i*j)) (tOp (iW K) (dN 3) (dN 1)) (dN 2) (some (.int x.1)::some (.int x.2.1)::some (.int x.2.2)::some (.ref c)::rest) H' Q':=λx H' Q' hm hs hq=>by
   have hx:=hf.2 x hm;have hsm:=jD D.cu hx;exact⟨_,rfl,_,rfl,c,_,x.2.1,.int (cs.getD x.2.1.toNat 0),rfl,rfl,SqT.of (hs _ _ hc),lO hx.1 hx.2.1,_,rfl,_,_,rfl,rfl,.inl ⟨by omega,by omega⟩,hq _ (Same.refl _)⟩
  refine⟨_,rfl,p,_,rfl,SqT.of hp,rfl,_,_,rfl,_,_,rfl,_,_,rfl,_,_,rfl,rfl,?_⟩;refine⟨_,rfl,a,rfl,⟨_,SqT.of ha⟩,λZ l1 hl1=> ?_⟩;refine B11 (rest:=[some (.ref c),some (.int i)]) gP (λH' hs=>SqT.of (hs _ _ ha)) hC hl1 (by omega) (λy=>decide (y.1=i)) (λx=> .int (cw cs x)) (λy H' Q' _ _ hq=> ?_) turn λσ H1 s1 hl1'=> ?_
  ·refine⟨_,rfl,_,rfl,rfl,_,rfl,?_⟩;have ed:decide (V.int y.1=V.int i)=decide (y.1=i):=decide_eq_decide.mpr ⟨λz=>V.int.inj z,λz=>by rw[z]⟩;rw[ed];exact hq
  refine⟨l1,(ofH cl i).map (cw cs),rfl,SqL.of (by rw[hl1',map_map];rfl),by rw[length_map];have:=(hf.sub i).1;omega,λn hn=> ?_,?_⟩
  ·obtain⟨x,hx,rfl⟩:=mem_map.mp hn;have:=jD D.cu ((hf.sub i).2 x hx);omega
  have hC1:ClP H1 bs cl:=Paired.mapP hC λ_ _ e=>s1 _ _ e;refine⟨_,rfl,a,rfl,⟨_,SqT.of (s1 _ _ ha)⟩,λZ l2 hl2=> ?_⟩;refine kN (rest:=[some (.ref c)]) gP (λH' hs=>SqT.of (hs _ _ (s1 _ _ ha))) hC1 hl2 (by omega) (λx=> .int (cw cs x)) (λx H' Q' hm hs hq=>turn x H' Q' hm (s1.trans hs) hq) λσ H2 s2 hl2'=> ?_;refine⟨l2,cl.map (cw cs),rfl,SqL.of (by rw[hl2',map_map];rfl),by rw[length_map];omega,λn hn=> ?_,?_⟩
  ·obtain⟨x,hx,rfl⟩:=mem_map.mp hn;have:=jD D.cu (hf.2 x hx);omega
  have s12:=s1.trans s2;refine⟨_,rfl,_,rfl,m,g,w',rfl,hm.same s12,D.G,λH3 lc pc hlc s3 elc hPc=> ?_⟩;have s13:=s12.trans s3;refine⟨m,lc,g,w',pc,aN pos g,rfl,hm.same s13,D.G,.inr elc,hPc,List.Sublist.refl _,λH4 s4=> ?_⟩;have s14:=s13.trans s4;rw[B2p];obtain⟨pt,ht,hpt⟩:=id hT;refine⟨_,rfl,by show 0<=sizeLine;decide,λz0 hz0=> ?_⟩;have u0:=aQ (o:=.tup []) hz0;have s15:=s14.trans u0;refine⟨t,z0,L,[],rfl,rfl,SqA.ext hT s15.ext,⟨[],aJ,.nil⟩,_,rfl,?_⟩;have fin:∀H',Same H H'->dQ g cs cl od i L=false->Q (.bl false) H':=λH' hs e=>by have:=q H' hs;rw[e]at this;exact this
  refine dW (λe0=> ?_) λe0=> ?_
  ·refine fin _ s15 ?_;rw[e0];unfold dQ iE;rfl
  refine⟨_,rfl,_,rfl,m,t,g,w',pt,L,rfl,hm.same s15,D.G,.inl (s15 _ _ ht),hpt.same s15,hL,λH6 s6=> ?_⟩;have s16:=s15.trans s6;have hd:=B1d (g:=g) (cs:=cs) (cl:=cl) (od:=od) (i:=i) (L:=L) tb.1 hb.1.1 hb.2.1;refine⟨_,rfl,_,_,rfl,rfl,.inl ⟨by omega,by have:=hb.2;omega⟩,_,rfl,_,rfl,_,_,rfl,rfl,.inl ⟨by omega,by have:=hb.1;omega⟩,_,_,rfl,rfl,_,rfl,_,rfl,_,rfl,_,_,rfl,rfl,.inl ⟨by have:=D.o9;omega,by have:=D.o9;omega⟩,_,_,rfl,rfl,_,rfl,?_⟩;refine dW (λe1=> ?_) λe1=> ?_
  ·refine fin _ s16 ?_;unfold dQ;rw[hd,zjV (show od*bO cs cl<ab (fE g L*bO cs cl - bU g*dA cs cl i)from e1)];simp
  ·rw[zjU (show¬od*bO cs cl<ab (fE g L*bO cs cl - bU g*dA cs cl i)from e1)]at hd;refine⟨_,rfl,_,rfl,m,t,g,w',L,rfl,hm.same s16,D.G,SqA.ext hT s16.ext,h10,λH7 s7=> ⟨_,rfl,cY (λe=> ?_) λe=> ?_⟩⟩
   ·have s17:=s16.trans s7;obtain⟨c0,tl,ec⟩:=List.exists_cons_of_ne_nil e0;have hnd:L.Nodup:=(LandOf.up hL).imp fun{x y} z e=>by
     have z:HT.lexLt [x.1,x.2] [y.1,y.2]=true:=z;rw[e,iL]at z;cases z
    rw[ec]at hpt;cases hpt with
    |cons r0 t0=>
     rename_i p0 ps0;refine⟨_,rfl,_,rfl,t,_,0,.ref p0,rfl,rfl,SqT.of (s17 _ _ ht),cB (j:=0) rfl,?_⟩;refine⟨t,p0,L,c0,rfl,SqA.ext hT s17.ext,h10,hnd,s17 _ _ r0,by rw[ec];exact zjR,λt' P0 H8 s8 hP0 pc=> ?_⟩;refine⟨_,rfl,t',t,P0,L,rfl,rfl,hP0,SqA.ext hT (s17.trans s8).ext,?_⟩;have hh:=vL (LandOf.up hL) (b:=decide (P0=L)) (.inr ⟨c0,tl,P0,ec,pc,rfl⟩);have:=q H8 (s17.trans s8);unfold dQ iE at this;rw[←A10 (λc hc=>hL.subset hc),e,hd,←hh,Bool.true_and]at this;simpa using this
   ·refine fin _ (s16.trans s7) ?_;unfold dQ iE;rw[←A10 (λc hc=>hL.subset hc),e];rfl
end
section
variable {P:Program}{w:World}{K:W.Frag}{mg:Str->Option Value}{base:Heap}
noncomputable abbrev nFL:List Str:=["_law_plea","_law_holder","_law_lands","_law_cell_here"]
theorem A77:(["_law_land","_law_cell_here"]:List Str).Nodup:=by decide +kernel
theorem A3n:(["_law_land","_law_plea","_law_holder"]:List Str).Nodup:=by decide +kernel
theorem A7s (F:D1 K mg "_law_fit_lands" nK ["_law_plea","_law_holder"])(a1:A1 P w K mg base 1 "_law_cells" (eY pos))(a2:A1 P w K mg base 3 "_law_fits" tN):A1 P w K mg base 4 "_law_fit_lands" sK:=by
 refine F.k nFL ?_;ac_nf
 ·obtain⟨p,g,w',cs,cl,od,i,rfl,D,q⟩:=h;obtain⟨m,c,a,hp,hm,hc,ha⟩:=D.ex;have c6:=D.c6;refine⟨_,aU (bX (i:=2) nd rfl (Or.inl rfl) (cX (gH (dC aB) aB)))<|
   aU (dX PassesOwn.never rfl (cV (a1.c hr (eX (bJ cA (pv 0) aV (λ_ _=>rfl)) aB))) (aK (i:=3) nd rfl (Or.inr rfl))
    (aM (bX (i:=2) nd rfl (Or.inl rfl) (bG mY (pv 2) (bN (bB nK).names nFL ["_law_land"] [("_law_cell_here",3)] rfl (cV (pv 2)) rfl rfl rfl (by decide +kernel)
     (λZ=>nm1 0 A77) (λZ=>cF) (λZ=>bG A2w (pv 0) (dC (aG (pv 1) aB))))))))<|
   aM (bC (bN (bB nK).names nFL ["_law_land"] [("_law_plea",0),("_law_holder",1)] rfl (cV (pv 2)) rfl rfl rfl (by decide +kernel)
    (λZ=>nm1 0 A3n) (λZ=>eP (bM (a2.c hr (aG (pv 1) (aG (pv 2) (aG (pv 0) aB)))))) (λZ=>pv 0))),?_⟩
  refine⟨by show 0<=sizeLine;decide,λt0 ht0=> ⟨by show 1<=sizeLine;decide,λl0 hl0=> ?_⟩⟩;have s0:=aQ (o:=.tup []) ht0;have s1:=aQ (o:=.lst [.ref t0]) hl0;have s01:=s0.trans s1;have el0:(upd (upd H t0 (.tup [])) l0 (.lst [.ref t0])) l0=some (.lst [.ref t0]):=aJ;have et0:(upd (upd H t0 (.tup [])) l0 (.lst [.ref t0])) t0=some (.tup []):=s1 _ _ aJ;have n0:H l0=none:=s0.free hl0;generalize upd (upd H t0 (.tup [])) l0 (.lst [.ref t0])=H1 at s01 el0 et0⊢;refine⟨_,rfl,p,_,0,_,rfl,rfl,SqT.of (s01 _ _ hp),rfl,m,g,w',rfl,hm.same s01,D.G,λH2 lc pc hlc s2 elc hP=> ?_⟩;have hpl:pc.length=(aN pos g).length:=Paired.length hP;have h6:pc.length<=6:=by rw[hpl,eU];exact c6
  refine⟨lc,rfl,⟨_,SqL.of elc⟩,?_⟩;refine dI (K:=K) (a:=lc) (xs:=pc.map V.ref) (λj σ H'=>Same H2 H'/\∃lt qs o,σ=[some (.ref p),some (.int i),some (.ref lt),o]/\H lt=none/\H' lt=some (.lst ((qs:List Addr).map V.ref))/\TusAt H' qs (llG ((pc.map V.ref).take j)))
   ⟨Same.refl _,l0,[t0],_,rfl,n0,s2 _ _ el0,.cons (s2 _ _ et0) .nil⟩ (λj σ H' _ h=>SqL.of (h.1 _ _ elc)) ?_ ?_
  ·rintro j x σ H' hx ⟨hs,lt,qs,o,rfl,nlt,elt,hT⟩;have hj:j<pc.length:=by
    have:=(zjW.mp hx).1;rw[length_map]at this;exact this
   have et:(pc.map V.ref).take (j+1)=(pc.map V.ref).take j++[x]:=by rw[take_succ,hx];rfl
   have hql:qs.length=_:=Paired.length hT;have hq64:qs.length<=64:=by
    rw[hql,nH,length_take,length_map];exact le_trans (pow_le_pow_right (by decide) (show min j pc.length<=6 by omega)) (by decide)
   rw[et,oZ];show kW _ _ _ [some (.ref p),some (.int i),some (.ref lt),some x] H';refine⟨_,rfl,_,rfl,lt,rfl,⟨_,SqL.of elt⟩,λZ l hl=> ?_⟩;refine B0h (rest:=[some x]) (λys=>ys++[x]) lC (λH3 s3=>SqL.of (s3 _ _ elt)) hT hl (by omega) (λqq ys H3 Q' hy hq s3 k=> ?_) λσ3 H3 qs' s3 hc3 hT3=> ?_
   ·refine⟨_,rfl,_,rfl,by show 1<=sizeLine;decide,λtx htx=> ?_⟩;have v1:=aQ (o:=.tup [x]) htx;refine⟨qq,tx,_,_,rfl,rfl,v1 _ _ hq,aJ,?_,λc H5 s5 e5=>k c H5 (v1.trans s5) e5⟩;have:=B00 hy;rw[length_take,length_map]at this;rw[sizeLine_eq];show _+1<=_;omega
   ·have hq3:qs'.length=_:=Paired.length hT3;rw[length_map]at hq3;refine⟨lt,l,_,_,rfl,rfl,s3 _ _ elt,hc3,?_,λla hla=> ?_⟩
    ·rw[length_map,length_map,sizeLine_eq];omega
    have v1:=aQ (o:=.lst (qs.map V.ref++qs'.map V.ref)) hla;refine⟨(hs.trans s3).trans v1,la,qs++qs',_,rfl,?_,?_,?_⟩
    ·exact((s01.trans s2).trans (hs.trans s3)).free hla
    ·rw[aJ,map_append]
    ·exact pR ((hT.same s3).same v1) (hT3.same v1)
  ·rintro σ H' ⟨hs,lt,qs,o,rfl,nlt,elt,hT⟩;rw[take_of_length_le (zjQ _)]at hT;have hL:=A9c hT (hP.same hs);have hql:qs.length=_:=Paired.length hL;have h64:qs.length<=64:=by
    rw[hql,nH,eU];exact le_trans (pow_le_pow_right (by decide) c6) (by decide)
   have sA:=(s01.trans s2).trans hs;refine⟨_,rfl,lt,rfl,⟨_,SqL.of elt⟩,λZ l hl=> ?_⟩;refine oO (R:=λH q cs=>SqA H q cs) (λe h=>SqA.ext h e) (rest:=[some (.ref p),some (.int i)]) (dQ g cs cl od i) lC (λH' hs=>SqL.of (hs _ _ elt)) hL hl (by omega) (λb L H3 Q' hc hb hs3 k=> ?_) λσ H3 qs' hs3 el' hP'=> ?_
   ·exact⟨_,rfl,_,rfl,_,rfl,p,b,g,w',cs,cl,od,i,L,rfl,(D.same sA).same hs3,hb,(lF _ rfl).mp hc,λH4 s4=> ⟨_,rfl,k H4 s4⟩⟩
   ·exact q l qs' H3 (sA.free hl) (sA.trans hs3) el' hP'
end
end M51
namespace PySem
open PyProof.Rows
section
variable {prog:Program}{w:World}{K:Type} [DecidableEq K]{knd:KeyKind prog w K}{A:Around}{E:Value->Shared->Prop}{s:Shared}
theorem A37 {l:List Int}(h:l.Nodup)(a:Int):(l.filter (λy=>y==a)).length<=1:=by
 have n:=h.sublist (filter_sublist (p:=λy=>y==a) (l:=l));have m:∀x∈l.filter (λy=>y==a),x=a:=λx hx=>by simpa using (mem_filter.mp hx).2
 generalize l.filter (λy=>y==a)=k at n m
 match k,n,m with
 | [],_,_=>simp
 | [x],_,_=>simp
 |x::y::t,n,m=>
  have hx:=m x zjR;have hy:=m y (zjS _ zjR);rw[hx,hy]at n;exact absurd zjR (nodup_cons.mp n).1
theorem B0z {id:String}{d:Addr}{o:Obj}{es ep}{xs:List (List K×Addr×Value)}{Q:Array DictEntry->Shared->Prop}(ho:s.heap.get? d=some o)(hd:o.data= .dict es ep)(he:es.toList=xs.map (entryOfKey (tupleKind knd)))(hk:∀x∈xs,IsTupleKey knd s.heap x.1 x.2.1)
  (hh:(xs.map λx=>tupleKeyHash knd x.1).Nodup)(h:Q es s):wpAny (model prog w) A (Builtin.Dict.entriesForEmpty id d) Q E s:=by
 unfold Builtin.Dict.entriesForEmpty;refine zjZ (wpAny_dictEntries ho hd ?_);refine zjZ (wpAny_mono (MeetsSeq2.wpAny_forIn_array _ (λrest _ s'=>s'=s/\∀e∈rest,e∈es.toList) (λ_ s'=>s'=s) ?_ (λb s' q=>q.1) es _ ⟨rfl,λe he=>he⟩) ?_ λ_ _ e=>e)
 ·rintro e rest b s' ⟨rfl,hm⟩;have hme:=hm e zjR;rw[he]at hme;obtain⟨x,hx,rfl⟩:=mem_map.mp hme;have hT:=(hk x hx).typeIs;show wpAny _ _ (Builtin.Dict.quietEq (.ref x.2.1)>>=_) _ _ _;unfold Builtin.Dict.quietEq;refine zjZ (zjZ (wpAny_specialOf hT F.slot_tuple_eq.lookup (zjY ?_)));have hone:¬(es.filter (λy=>y.hash==(entryOfKey (tupleKind knd) x).hash)).size>1:=by
   have e1:(es.filter (λy=>y.hash==(entryOfKey (tupleKind knd) x).hash)).size=((xs.map λx=>tupleKeyHash knd x.1).filter (λy=>y==tupleKeyHash knd x.1)).length:=by
    rw[←Array.length_toList,Array.toList_filter,he,filter_map,length_map,filter_map,length_map];rfl
   rw[e1];have e2:((xs.map λx=>tupleKeyHash knd x.1).filter (λy=>y==tupleKeyHash knd x.1)).length<=1:=by
    exact A37 hh _
   omega
  split
  ·exact zjY ⟨rfl,λe he=>hm e (zjS _ he)⟩
  ·exact zjY ⟨rfl,λe he=>hm e (zjS _ he)⟩
 ·rintro b s' rfl;exact zjY h
theorem B0b {o:Addr}{xs:List (List K×Addr×Value)}{Q:Value->Shared->Prop}(hoS:(o==sysModules)=false)(ho:s.heap.DictOfH (tupleKind knd) o xs)(hsz:xs.length<=sizeLine)(hh:(xs.map λx=>tupleKeyHash knd x.1).Nodup)
  (h:∀h',h'.DictOfH (tupleKind knd) s.heap.objs.size xs->Heap.SameBut s.heap.objs.size (s.heap.push {cls:=.type "dict",data:=.dict #[]}) h'->Q (.ref s.heap.objs.size) {s with heap:=h'}):
  wpAny (model prog w) A (call (.type "dict") [.ref o]) Q E s:=by
 refine callType_codes (Q₁:=λobj s₁=>obj= .ref s.heap.objs.size/\s₁={s with heap:=s.heap.push {cls:=.type "dict",data:=.dict #[]}}) F.kt_called_dict (F.kt_typeCall_dict_1 _) F.entry_dict_init (kt_code_dict_new _ ⟨rfl,rfl⟩) ?_;rintro obj s₁ ⟨rfl,rfl⟩;obtain⟨oo,eso,epo,hoo,hco,hdo',heo,hko,hno⟩:=ho;have hnew:(s.heap.push {cls:=.type "dict",data:=.dict #[]}).DictOfH (tupleKind knd) s.heap.objs.size []:=Heap.DictOfH.new s.heap;have hoo':=zjX (h:=s.heap) {cls:=.type "dict",data:=.dict #[]} hoo;have hdo:s.heap.objs.size≠o:=λe=>absurd (zjT hoo) (by rw[e];exact lt_irrefl _);have hTo:Shared.TypeIs {s with heap:=s.heap.push {cls:=.type "dict",data:=.dict #[]}} (.ref o) "dict":=⟨oo,hoo',hco.1⟩;have hkp:∀x∈xs,IsTupleKey knd (s.heap.push {cls:=.type "dict",data:=.dict #[]}) x.1 x.2.1:=λx hx=>by
  obtain⟨oq,it,n,h1,h2,h3,h4⟩:=hko x hx;exact⟨oq,it,n,zjX _ h1,h2,h3,h4⟩
 refine⟨hnew.typeIs,F.args_dict_init_2 _ _,?_⟩;unfold Builtin.«dict.__init__»;refine zjZ ?_;unfold Builtin.Dict.selfAndRest;refine zjZ (wpAny_notOrdered_dict hnew.typeIs ?_);show wpAny _ _ (pure (s.heap.objs.size,[Value.ref o])) _ _ _;refine zjY ?_;show wpAny _ _ (Builtin.Dict.updateFrom "dict.__init__" s.heap.objs.size (.ref o) [] .none) _ _ _;unfold Builtin.Dict.updateFrom;refine zjZ (wpAny_typeOf hTo ?_);rw[if_neg (by decide)];refine zjZ ?_;unfold Builtin.Dict.merge;refine zjZ ?_;unfold Builtin.Dict.readDirectly;refine zjZ (wpAny_isInstance hTo isSubtype_dict_dict ?_);simp only[Bool.not_true,Bool.false_eq_true,if_false];refine zjZ (wpAny_specialOf hTo F.slot_dict_iter.lookup (zjY ?_));simp only[beq_self_eq_true,if_true];refine zjZ (zjY ?_);unfold Builtin.Dict.mergeDict;rw[if_neg (by simpa using hdo)];unfold Builtin.Dict.showsAll;rw[if_neg (by rw[hoS];exact Bool.false_ne_true)];refine zjZ (zjY ?_);refine zjZ (wpAny_dictEntries hoo' hdo' ?_);dsimp only
 by_cases hx:xs=[]
 ·subst hx;have h0:eso= #[]:=by cases eso;simpa using heo
  subst h0;rw[if_neg (by simp)];refine zjZ (wpAny_dictEpoch hoo' hdo' ?_);refine zjZ (wpAny_dictEntries hoo' hdo' ?_);rw[Std.Legacy.Range.forIn_eq_forIn_range'];refine zjZ (zjY (zjY ?_));exact zjZ (zjY (zjY ⟨rfl,h _ hnew (Heap.SameBut.refl _ _)⟩))
 ·obtain⟨x0,xt,ex⟩:=List.exists_cons_of_ne_nil hx;have hall:(eso.all λe=>(keyPart e.key).isSome)=false:=by
   rw[←Array.all_toList,heo,ex];rfl
  have hemp:eso.isEmpty=false:=by
   cases h:eso.isEmpty with
   |false=>rfl
   |true=>
    have h0:eso= #[]:=Array.isEmpty_iff.mp h;rw[h0,ex]at heo;cases heo
  rw[hall,Bool.and_false,if_pos (by rfl)];obtain⟨on,esn,epn,hon,hcn,hdn,hen,_,_⟩:=id hnew;have he0:esn= #[]:=by cases esn;simpa using hen
  subst he0;refine zjZ (wpAny_dictEntries hon hdn ?_);rw[if_pos (by rfl)];refine zjZ (B0z hoo' hdo' heo hkp hh ?_);rw[hemp,if_pos (by rfl)];have hes:eso.size<=sizeLine+1:=by rw[size_of_entries heo];omega
  refine zjZ (wpAny_updateDictKeysTo hon hdn (zjY ?_) hes);exact zjZ (zjY (zjY ⟨rfl,h _ ⟨_,_,epn+1,get?_update_self _ hon (Obj.isFreed_of_dict (Obj.data_mapDictKeys hdn _)),hcn.mapDictKeys _,Obj.data_mapDictKeys hdn _,heo,λx hx=>(tupleKind knd).keeps (hkp x hx) hon hdn (Heap.SameBut.update ..),hno⟩ (Heap.SameBut.update ..)⟩))
theorem A2b (hd:(d==sysModules)=false):
  MeetsIn prog w (Builtin.«dict.__len__» ⟨[.ref d],[]⟩) (λ_ R s=> ∃o es ep,s.heap.get? d=some o/\o.data= .dict es ep/\R (.ok (.ret (.int es.size s.toks))) {s with toks:=s.toks+1}):=
 .of_wp λA R s ⟨o,es,ep,ho,hdat,h⟩=>by
  show wpAny _ _ (dictSize d>>=_) _ _ s;unfold dictSize;refine zjZ (zjZ (wpAny_dictEntries ho hdat (zjY ?_)));show wpAny _ _ (Builtin.Dict.pendingCount d>>=_) _ _ s;refine zjZ (wpAny_pendingCount_other hd ?_);refine wpAny_ret_mkInt ?_;rw[Nat.add_zero];exact h
theorem A4c (hd:(d==sysModules)=false)(ho:s.heap.get? d=some o)(hx:o.ExactDict)(hdt:o.data= .dict es ep)(hfit:(es.size:Int)<2^63)
  (h:Q (.int es.size (s.toks+1)) {s with toks:=s.toks+1+1}):wpAny (model prog w) A (call (.builtin "len") [.ref d]) Q E s:=by
 have hT:s.TypeIs (.ref d) "dict":=⟨o,ho,hx.1⟩;refine Calls.call_function_entry kind_len plain_len entry_len (args_len1 _) ?_;unfold Builtin.«len»;refine zjZ (m:=oneArg "len" _) (zjY ?_);refine zjZ (m:=callSpecial? (.ref d) (Str.ofString "__len__")) (wpAny_callSpecial?_slot (name:=Str.ofString "__len__") hT F.slot_dict_len (call_meetsIn F.slot_dict_len hT F.entry_dict_len (F.args_dict_len_1 _) (A2b hd) ⟨o,es,ep,ho,hdt,?_⟩));show wpAny _ _ _ _ _ {s with toks:=s.toks+1};refine zjZ (wpAny_holding (zjY ?_));refine zjZ (wpAny_letGo ?_);show wpAny _ _ (if ((es.size:Nat):Int)<0 then _ else _) _ _ _;rw[if_neg (by omega)];show wpAny _ _ (if ((es.size:Nat):Int)≥2^63 then _ else _) _ _ _;rw[if_neg (by omega)];exact zjZ (wpAny_mkInt (zjY ⟨_,rfl,h⟩))
end
end PySem
namespace L2
open PySem PySem.Spec PyProof.Rows
section
theorem A5t (z:kvs.length<=sizeLine)(hd:(a==sysModules)=false)(rel:KT H' kvs xs)(dd:h'.DictOfH (tupleKind (cS P w)) a xs):ObjOk P w H' h' a (.dT kvs):=by obtain⟨o,es,ep,h1,h2,h3,h4,_,h5⟩:=dd;exact⟨z,hd,xs,rel,o,es,ep,h1,h2,h3,h4,h5⟩
theorem KT.hash (r:KT H kvs xs):xs.map (·.1)=kvs.map (·.1):=by
 induction r with
 |nil=>rfl
 |cons h t ih=>rw[map_cons,map_cons,ih,h.1]
theorem A4f (I:Inv X pins σ H s)(e:H a=some (.dT kvs))(hh:(kvs.map λk=>tupleKeyHash (cS X.prog X.w) k.1).Nodup)(h:∀p s',H p=none->Inv X pins σ (upd H p (.dT kvs)) s'->Q (.ref p) s'):wpAny (model X.prog X.w) A (call (.type "dict") [.ref a]) Q E s:=by
 obtain⟨z,hd,xs,rel,dd⟩:=sX I.hok e;have hk:=rel.hash;have hl:xs.length=kvs.length:=by have:=congrArg List.length hk;simpa using this
 refine B0b hd dd (by rw[hl];exact z) ?_ λh' dd' hs=> ?_
 ·have e1:(xs.map λx=>tupleKeyHash (cS X.prog X.w) x.1)=(xs.map (·.1)).map (tupleKeyHash (cS X.prog X.w)):=by rw[map_map];rfl
  rw[e1,hk,map_map];exact hh
 ·have hn:H s.heap.objs.size=none:=I.hok.fresh (zjQ _);refine h _ _ hn (I.laid (a:=s.heap.objs.size) (o:=.dT kvs) (t':=s.toks) (λb q hq=> ?_) (zjQ _) (A5t z (beq_eq_false_iff_ne.mpr (Ne.symm (ne_of_lt I.big))) (rel.keeps λb ys hb=> ?_) dd'))
  ·exact(hs.2 b (ne_of_lt (zjT hq))).trans (zjX _ hq)
  ·rw[aY (bH hb hn)];exact hb
theorem B0l:eD X (.type "dict") (λxs H Q=> ∃a kvs,xs=[.ref a]/\H a=some (.dT kvs)/\(kvs.map λk=>tupleKeyHash (cS X.prog X.w) k.1).Nodup/\∀p,H p=none->Q (.ref p) (upd H p (.dT kvs))):=by intro pins s σ H xs us Q I r h;obtain⟨a,kvs,rfl,e,hh,q⟩:=h;obtain⟨u,rfl,rx⟩:=eZ r;cases rx;exact A4f I e hh λp s' hp I'=> ⟨.ref p,_,I',rfl,q p hp⟩
theorem A66:eD X (.builtin "len") (λxs H Q=> ∃a kvs,xs=[.ref a]/\H a=some (.dT kvs)/\Q (.int kvs.length) H):=by
 intro pins s σ H xs us Q I r h;obtain⟨a,kvs,rfl,e,q⟩:=h;obtain⟨u,rfl,rx⟩:=eZ r;cases rx;obtain⟨z,hd,xs,rel,dd⟩:=sX I.hok e;have hl:xs.length=kvs.length:=by have:=congrArg List.length rel.hash;simpa using this
 obtain⟨o,es,ep,h1,h2,h3,h4,_,_⟩:=dd;have hs:es.size=kvs.length:=(size_of_entries h4).trans hl;refine A4c hd h1 h2 h3 (by rw[hs];rw[sizeLine_eq]at z;omega) ?_;rw[hs];exact⟨.int _,H,I.tok _,⟨_,rfl⟩,q⟩
end
end L2
namespace M51
open PySem L2 PyProof.Rows Grd Wlk Cyc Srt Set4
noncomputable def djB (L:List Pl)(q:List (List Pl)):Bool:=L.all λc=> !decide (c∈q.flatten)
noncomputable def fD (Ls:List (List Pl))(cs:List (List (List Pl))):List (List (List Pl)):=Ls.flatMap λL=>(cs.filter (djB L)).map (· ++[L])
theorem A0b (h:q∈fD Ls cs):∃q0 L,q=q0++[L]/\q0∈cs/\L∈Ls/\djB L q0=true:=by obtain⟨L,hL,hq⟩:=List.mem_flatMap.mp h;obtain⟨q0,h0,rfl⟩:=mem_map.mp hq;exact⟨q0,L,rfl,(mem_filter.mp h0).1,hL,(mem_filter.mp h0).2⟩
theorem qF:∀(Ls:List (List Pl))(cs:List (List (List Pl))),(fD Ls cs).length<=Ls.length*cs.length
 | [],cs=>zero_le _
 |L::Ls,cs=>by
  have ih:=qF Ls cs;have e:fD (L::Ls) cs=(cs.filter (djB L)).map (· ++[L])++fD Ls cs:=rfl;have h:=length_filter_le (djB L) cs;rw[e,length_append,length_map,length_cons,Nat.succ_mul];omega
theorem yU:∀{Ls:List (List Pl)}{cs:List (List (List Pl))},Ls.Nodup->cs.Nodup->(fD Ls cs).Nodup
 | [],cs,_,_=>nodup_nil
 |L::Ls,cs,h1,h2=>by
  rw[nodup_cons]at h1;have ih:=yU h1.2 h2;have e:fD (L::Ls) cs=(cs.filter (djB L)).map (· ++[L])++fD Ls cs:=rfl;rw[e,nodup_append];refine⟨?_,ih,λa ha b hb e=> ?_⟩
  ·rw[nodup_iff_pairwise_ne,pairwise_map];exact(nodup_iff_pairwise_ne.mp (h2.sublist filter_sublist)).imp fun{a b} z e=>z (List.append_cancel_right e)
  ·obtain⟨q0,_,rfl⟩:=mem_map.mp ha;obtain⟨q1,L1,rfl,_,hL,_⟩:=A0b hb;have:=List.append_inj_right' e (by rfl);injection this with this _
   exact h1.1 (this▸hL)
structure Ln (Lfs:List (List (List Pl)))(q:List (List Pl)):Prop where
 p:Paired (λL Ls=>L∈Ls) q Lfs
 nd:q.flatten.Nodup
noncomputable def eV (Lfs:List (List (List Pl))):List (List (List Pl)):=Lfs.foldl (λcs Ls=>fD Ls cs) [[]]
theorem nB (Lfs:List (List (List Pl)))(Ls:List (List Pl)):eV (Lfs++[Ls])=fD Ls (eV Lfs):=by unfold eV;rw[List.foldl_append];rfl
theorem yF:∀(n:Nat){Lfs:List (List (List Pl))},Lfs.length=n->(∀Ls∈Lfs,∀L∈Ls,L.Nodup)->∀q∈eV Lfs,Ln Lfs q
 |0,Lfs,h,_,q,hq=>by
  have:Lfs=[]:=eq_nil_of_length_eq_zero h;subst this;rw[mem_singleton.mp hq];exact⟨.nil,nodup_nil⟩
 |n+1,Lfs,h,hn,q,hq=>by
  rcases eq_nil_or_concat Lfs with e| ⟨Ms,Ls,e⟩
  ·rw[e]at h;cases h
  ·rw[concat_eq_append]at e;subst e;rw[length_append,length_singleton]at h;rw[nB]at hq;obtain⟨q0,L,rfl,h0,hL,hd⟩:=A0b hq;have ih:=yF n (Lfs:=Ms) (by omega) (λLs h=>hn Ls (mem_append_left _ h)) q0 h0;refine⟨Paired.snoc ih.p hL,?_⟩;rw[List.flatten_append,nodup_append];refine⟨ih.nd,?_,λa ha b hb e=> ?_⟩
   ·rw[List.flatten_singleton];exact hn Ls (mem_append_right _ zjR) L hL
   ·rw[List.flatten_singleton]at hb;have:=all_eq_true.mp hd b hb;rw[←e]at this;simp[ha]at this
theorem xI:∀(n:Nat){Lfs:List (List (List Pl))},Lfs.length=n->(∀Ls∈Lfs,Ls.Nodup)->(eV Lfs).Nodup
 |0,Lfs,h,_=>by
  have:Lfs=[]:=eq_nil_of_length_eq_zero h;subst this;exact nodup_cons.mpr ⟨by simp,nodup_nil⟩
 |n+1,Lfs,h,hn=>by
  rcases eq_nil_or_concat Lfs with e| ⟨Ms,Ls,e⟩
  ·rw[e]at h;cases h
  ·rw[concat_eq_append]at e;subst e;rw[length_append,length_singleton]at h;rw[nB];exact yU (hn Ls (mem_append_right _ zjR)) (xI n (by omega) λLs h=>hn Ls (mem_append_left _ h))
theorem A0j:∀(n:Nat){Lfs:List (List (List Pl))},Lfs.length=n->(∀Ls∈Lfs,Ls.length<=64)->(eV Lfs).length<=64^n
 |0,Lfs,h,_=>by
  have:Lfs=[]:=eq_nil_of_length_eq_zero h;subst this;exact zjQ _
 |n+1,Lfs,h,hn=>by
  rcases eq_nil_or_concat Lfs with e| ⟨Ms,Ls,e⟩
  ·rw[e]at h;cases h
  ·rw[concat_eq_append]at e;subst e;rw[length_append,length_singleton]at h;have ih:=A0j n (Lfs:=Ms) (by omega) λLs h=>hn Ls (mem_append_left _ h);rw[nB];refine le_trans (qF _ _) ?_;rw[Nat.pow_succ,mul_comm (64^n)];exact Nat.mul_le_mul (hn Ls (mem_append_right _ zjR)) ih
noncomputable abbrev kp (c:Pl):List Key:=[Sum.inl c.1,Sum.inl c.2]
noncomputable def ents (hs:List Int)(q:List (List Pl)):List (List Key×V):=(hs.zip q).flatMap λz=>z.2.map λc=>(kp c,V.int z.1)
noncomputable def own (hs:List Int)(q:List (List Pl))(c:Pl):Option Int:=((hs.zip q).find? λz=>decide (c∈z.2)).map (·.1)
theorem uN (h:kp c=kp d):c=d:=by injection h with h1 h2;injection h2 with h2 _;exact Prod.ext (Sum.inl.inj h1) (Sum.inl.inj h2)
theorem yX (k:List Key):dD (l++m) k=(dD l k).or (dD m k):=by unfold dD;rw[List.find?_append];cases l.find? λkv=>decide (kv.1=k)<;>rfl
theorem xT {L:List Pl}{h:Int}{c:Pl}:dD (L.map λc=>(kp c,V.int h)) (kp c)=if c∈L then some (.int h)else none:=by
 induction L with
 |nil=>rfl
 |cons d L ih=>
  rw[map_cons];by_cases e:d=c
  ·rw[oP (by rw[e]),if_pos (by rw[e];exact zjR)]
  ·rw[mL (λz=>e (uN z)),ih];by_cases hc:c∈L
   ·rw[if_pos hc,if_pos (zjS _ hc)]
   ·rw[if_neg hc,if_neg (λz=>(mem_cons.mp z).elim (λz=>e z.symm) hc)]
theorem kZ:∀(hs:List Int)(q:List (List Pl))(c:Pl),dD (ents hs q) (kp c)=(own hs q c).map V.int
 | [],q,c=>by simp[ents,own,dD]
 |h::hs,[],c=>by simp[ents,own,dD]
 |h::hs,L::q,c=>by
  have ih:=kZ hs q c;have e:ents (h::hs) (L::q)=(L.map λc=>(kp c,V.int h))++ents hs q:=rfl;rw[e,yX,xT,ih];unfold own;rw[zip_cons_cons];by_cases hc:c∈L
  ·rw[if_pos hc,List.find?_cons_of_pos (by simpa using hc)];rfl
  ·rw[if_neg hc,List.find?_cons_of_neg (by simpa using hc)];rfl
theorem nU:∀(hs:List Int)(q:List (List Pl)),hs.length=q.length->(ents hs q).map (·.1)=q.flatten.map kp
 | [],[],_=>rfl
 | [],_::_,h=>by cases h
 |_::_,[],h=>by cases h
 |h::hs,L::q,hl=>by
  have ih:=nU hs q (by simpa using hl);have e:ents (h::hs) (L::q)=(L.map λc=>(kp c,V.int h))++ents hs q:=rfl;rw[e,map_append,ih,flatten_cons,map_append,map_map];rfl
theorem tY (h:hs.length=q.length):(ents hs q).length=q.flatten.length:=by
 have:=congrArg List.length (nU hs q h)
 rwa [length_map,length_map]at this
theorem mD (hl:hs.length=q.length):(own hs q c).isSome=decide (c∈q.flatten):=by
 have h1:=congrArg Option.isSome (kZ hs q c);rw[Option.isSome_map]at h1;rw[←h1,←nD,Bool.eq_iff_iff,any_eq_true,decide_eq_true_eq];have hk:=nU hs q hl;constructor
 ·rintro⟨kv,hkv,e⟩;have e:=of_decide_eq_true e;have:kv.1∈(ents hs q).map (·.1):=mem_map.mpr ⟨kv,hkv,rfl⟩;rw[hk,e]at this;obtain⟨d,hd,ed⟩:=mem_map.mp this;rw[←uN ed];exact hd
 ·intro hc;have:kp c∈(ents hs q).map (·.1):=by rw[hk];exact mem_map.mpr ⟨c,hc,rfl⟩
  obtain⟨kv,hkv,e⟩:=mem_map.mp this;exact⟨kv,hkv,zjV e⟩
theorem A2v {hs:List Int}{q:List (List Pl)}{h:Int}{L:List Pl}(hl:hs.length=q.length):ents (hs++[h]) (q++[L])=ents hs q++L.map λc=>(kp c,V.int h):=by unfold ents;rw[List.zip_append hl,List.flatMap_append];simp
noncomputable def fW (A:List Pl)(hs:List Int)(q:List (List Pl)):List Int:=A.map λc=>(own hs q c).getD 0
theorem A8v {A L:List Pl}(hA:A.Nodup)(h:L.Sublist A):A.filter (λc=>decide (c∈L))=L:=by
 induction h with
 |slnil=>rfl
 |cons a h ih=>
  rw[nodup_cons]at hA;rw[filter_cons_of_neg (by simpa using λz=>hA.1 (h.subset z))];exact ih hA.2
 |cons_cons a h ih=>
  rename_i L A;rw[nodup_cons]at hA;rw[filter_cons_of_pos (by simp)]
  congr 1
  rw[←ih hA.2];refine List.filter_congr λc hc=> ?_;rw[Bool.eq_iff_iff,decide_eq_true_eq,decide_eq_true_eq,ih hA.2];exact⟨λz=>(mem_cons.mp z).elim (λe=>absurd hc (e▸hA.1)) id,λz=>zjS _ z⟩
theorem vF:∀{hs:List Int}{q:List (List Pl)}{c:Pl},hs.Nodup->q.flatten.Nodup->hs.length=q.length->∀{h:Int}{L:List Pl}{j:Nat},hs[j]?=some h->q[j]?=some L->(own hs q c=some h↔c∈L)
 | [],_,c,_,_,_,h,L,j,e1,_=>by simp at e1
 |h0::hs,[],c,_,_,hl,_,_,_,_,_=>by cases hl
 |h0::hs,L0::q,c,n1,n2,hl,h,L,j,e1,e2=>by
  rw[nodup_cons]at n1;rw[flatten_cons,nodup_append]at n2;have hl':hs.length=q.length:=by simpa using hl
  unfold own;rw[zip_cons_cons];cases j with
  |zero=>
   cases e1;cases e2;by_cases hc:c∈L0
   ·rw[List.find?_cons_of_pos (by simpa using hc)];exact⟨λ_=>hc,λ_=>rfl⟩
   ·rw[List.find?_cons_of_neg (by simpa using hc)];refine⟨λz=> ?_,λz=>absurd z hc⟩;have hm:h0∈hs:=by
     cases e:(hs.zip q).find? λz=>decide (c∈z.2)with
     |none=>rw[e]at z;cases z
     |some y=>
      rw[e]at z;have:y.1=h0:=Option.some.inj z;rw[←this];exact(of_mem_zip (List.mem_of_find?_eq_some e)).1
    exact absurd hm n1.1
  |succ j=>
   have e1':hs[j]?=some h:=by simpa using e1
   have e2':q[j]?=some L:=by simpa using e2
   have hLq:∀c∈L,c∈q.flatten:=λc hc=>mem_flatten.mpr ⟨L,mem_of_getElem? e2',hc⟩;by_cases hc:c∈L0
   ·rw[List.find?_cons_of_pos (by simpa using hc)];refine⟨λz=> ?_,λz=>absurd rfl (n2.2.2 c hc c (hLq c z))⟩;have:h0=h:=Option.some.inj z;exact absurd (mem_of_getElem? e1') (this▸n1.1)
   ·rw[List.find?_cons_of_neg (by simpa using hc)];exact vF n1.2 n2.2.1 hl' e1' e2'
theorem yQ (f:Pl->Int):∀A:List Pl,A.zip (A.map f)=A.map λc=>(c,f c)
 | []=>rfl
 |c::A=>by rw[map_cons,zip_cons_cons,yQ f A];rfl
theorem A8y {g:bI}{hs:List Int}{q:List (List Pl)}(hn:hs.Nodup)(nd:q.flatten.Nodup)(hl:hs.length=q.length)(hsub:∀L∈q,L.Sublist (aN pos g))(hall:q.flatten.length=(aN pos g).length):q=hs.map (bT g (fW (aN pos g) hs q)):=by
 have hA:=(nN pos g).imp (S:=(· ≠ ·)) fun{a b} z e=>by
  have z:HT.lexLt [a.1,a.2] [b.1,b.2]=true:=z;rw[e,iL]at z;cases z
 have hA:(aN pos g).Nodup:=hA;have hin:∀c∈aN pos g,c∈q.flatten:=by
  have hs':∀c∈q.flatten,c∈aN pos g:=λc hc=>by
   obtain⟨L,hL,h⟩:=mem_flatten.mp hc;exact(hsub L hL).subset h
  intro c hc;by_cases z:c∈q.flatten
  ·exact z
  ·have:=jE (nodup_cons.mpr ⟨z,nd⟩) (λd hd=>(mem_cons.mp hd).elim (λe=>e▸hc) (hs' d));rw[length_cons]at this;omega
 have key:∀(j:Nat)(h:Int)(L:List Pl),hs[j]?=some h->q[j]?=some L->bT g (fW (aN pos g) hs q) h=L:=λj h L e1 e2=>by
  unfold bT fW;rw[yQ,filter_map,map_map];have ef:(filter ((λz:Pl×Int=>decide (z.2=h))∘λc=>(c,(own hs q c).getD 0)) (aN pos g))=(aN pos g).filter λc=>decide (c∈L):=by
   refine List.filter_congr λc hc=> ?_;have hi:=mD (c:=c) hl;rw[zjV (hin c hc)]at hi;obtain⟨h',eh⟩:=Option.isSome_iff_exists.mp hi;show decide ((own hs q c).getD 0=h)=_;rw[eh];rw[Bool.eq_iff_iff,decide_eq_true_eq,decide_eq_true_eq,←vF hn nd hl e1 e2,eh];exact⟨λz=>by rw[←z];rfl,λz=>Option.some.inj z⟩
  rw[ef,A8v hA (hsub _ (mem_of_getElem? e2))];show List.map id _=_;rw[map_id]
 refine ext_getElem (by rw[length_map,hl]) λj h1 h2=> ?_;rw[List.getElem_map];exact(key j _ _ (getElem?_eq_getElem (by omega)) (getElem?_eq_getElem h1)).symm
noncomputable def hp2 (c:Pl):Int:=reduceHash (Builtin.Tuple.tupleHashOf [hashInt c.1,hashInt c.2])
theorem A46:∀r r':Fin 4,∀c c':Fin 5,hp2 ((r:Nat),(c:Nat))=hp2 ((r':Nat),(c':Nat))->r=r'/\c=c':=by decide +kernel
theorem A5j {P:Program}{w:World}{C:List Pl}(nd:C.Nodup)(hb:∀c∈C,0<=c.1/\c.1<4/\0<=c.2/\c.2<5):(C.map λc=>tupleKeyHash (cS P w) (kp c)).Nodup:=by rw[nodup_iff_pairwise_ne,pairwise_map];refine(List.Pairwise.and_mem.mp (nodup_iff_pairwise_ne.mp nd)).imp fun{a b} z e=>z.2.2 ?_;have ha:=hb a z.1;have hb':=hb b z.2.1;have e:hp2 a=hp2 b:=e;obtain⟨a1,a2⟩:=a;obtain⟨b1,b2⟩:=b;obtain⟨r,rfl⟩:=Int.eq_ofNat_of_zero_le ha.1;obtain⟨c,rfl⟩:=Int.eq_ofNat_of_zero_le ha.2.2.1;obtain⟨r',rfl⟩:=Int.eq_ofNat_of_zero_le hb'.1;obtain⟨c',rfl⟩:=Int.eq_ofNat_of_zero_le hb'.2.2.1;simp only at ha hb';have:=A46 ⟨r,by omega⟩ ⟨r',by omega⟩ ⟨c,by omega⟩ ⟨c',by omega⟩ e;have h1:=congrArg Fin.val this.1;have h2:=congrArg Fin.val this.2;simp only at h1 h2;rw[h1,h2]
theorem B10 {P:Program}{w:World}{hs:List Int}{q:List (List Pl)}(hl:hs.length=q.length)(nd:q.flatten.Nodup)(hb:∀c∈q.flatten,0<=c.1/\c.1<4/\0<=c.2/\c.2<5):((ents hs q).map λk=>tupleKeyHash (cS P w) k.1).Nodup:=by
 have e:((ents hs q).map λk=>tupleKeyHash (cS P w) k.1)=q.flatten.map λc=>tupleKeyHash (cS P w) (kp c):=by
  have:((ents hs q).map λk=>tupleKeyHash (cS P w) k.1)=((ents hs q).map (·.1)).map (tupleKeyHash (cS P w)):=by rw[map_map];rfl
  rw[this,nU hs q hl,map_map];rfl
 rw[e];exact A5j nd hb
theorem wF (G:cU g w)(g3:g.length<=3)(w4:w<=4)(h:c∈aN pos g):0<=c.1/\c.1<4/\0<=c.2/\c.2<5:=by obtain⟨i,j,xs,n,rfl,hg,hx,hf⟩:=mem_gridF.mp h;have hi:=(zjW.mp hg).1;have hj:=(zjW.mp hx).1;have:=G.len xs (mem_of_getElem? hg);show 0<=(i:Int)/\(i:Int)<4/\0<=(j:Int)/\(j:Int)<5;omega
noncomputable def Sb (l:Addr)(H H':Hp):Prop:=∀b u,b≠l->H b=some u->H' b=some u
theorem Sb.refl (l:Addr)(H:Hp):Sb l H H:=λ_ _ _ e=>e
theorem Sb.trans (a:Sb l H H1)(b:Sb l H1 H2):Sb l H H2:=λc u n e=>b c u n (a c u n e)
theorem Sb.of (a:Same H H1):Sb l H H1:=λc u _ e=>a c u e
theorem Sb.ext (a:Sb l H H1)(e:H l=some (.lst xs))(e1:H1 l=some (.lst ys)):Ext H H1:=by
 have ne:∀{b u},H b=some u->(∀zs,u≠ .lst zs)->b≠l:=λh n z=>by rw[z,e]at h;exact n _ (Option.some.inj h).symm
 refine⟨λb zs h=>a b _ (ne h λ_ z=>by cases z) h,λb zs h=> ?_,λb kvs h=>a b _ (ne h λ_ z=>by cases z) h⟩;by_cases z:b=l
 ·exact⟨ys,by rw[z];exact e1⟩
 ·exact⟨zs,a b _ z h⟩
noncomputable abbrev nPs:List Str:=["_law_plea","_law_cells_here","_law_lines","_law_holder","_law_later","_law_land","_law_owners","_law_cell_here","_law_more","_law_found"]
theorem scPs:fN nPs ["_law_plea"] (bB iG):=by ac_rfl
noncomputable abbrev XP (P:Program)(w:World)(K:W.Frag)(mg:Str->Option Value)(base:Heap)(f:Addr)(cdv:Value)(A:Around)(outer:List Env)(s:Shared)(H0:Hp)(E:XK):Cx:=(dJ CX0 P w K mg base nPs "_law_partings" (bB iG) f cdv A outer s H0 E).nox
noncomputable abbrev pNo:Stmt:=.Pass ⟨0,0,0,0⟩
noncomputable abbrev bHold:List Stmt:=kG ((dG iG).getD 1 pNo)
noncomputable abbrev bLand:List Stmt:=kG (bHold.getD 1 pNo)
noncomputable abbrev A8i:List Stmt:=kG (bLand.getD 0 pNo)
section
variable {P:Program}{w:World}{K:W.Frag}{mg:Str->Option Value}{base:Heap}
theorem A0o:(["_law_cell_here","_law_owners"]:List Str).Nodup:=by decide +kernel
theorem B2l:bootBuiltins "dict" =some (.type "dict"):=by decide +kernel
variable {f:Addr}{cdv:Value}{A:Around}{outer:List Env}{s:Shared}{H0:Hp}{E:XK}
theorem A9e (T2:eE mg)(hr:Room 4 (XP P w K mg base f cdv A outer s H0 E).A):∃tt,PSs (XP P w K mg base f cdv A outer s H0 E) A8i tt/\
    ∀(D:dR)(o0 o1 o2 o7 o8 o9:Option V)(lt t d:Addr)(h:Int)(hs:List Int)(q:List (List Pl))(L:List Pl)(es:List Addr)(H:Hp),SqA H t L->L.Nodup->L.length<=10->H d=some (.dT (ents hs q))->hs.length=q.length->q.flatten.Nodup->q.flatten.length<=10->(∀c∈q.flatten,0<=c.1/\c.1<4/\0<=c.2/\c.2<5)->H lt=some (.lst (es.map V.ref))->es.length<16777216->
      (∀o7' o8' H',Same H H'->djB L q=false->D.nx [o0,o1,o2,some (.int h),some (.ref lt),some (.ref t),some (.ref d),o7',o8',o9] H')->
      (∀o7' o8' dn H',Sb lt H H'->H' lt=some (.lst (es.map V.ref++[.ref dn]))->H' dn=some (.dT (ents (hs++[h]) (q++[L])))->djB L q=true->D.nx [o0,o1,o2,some (.int h),some (.ref lt),some (.ref t),some (.ref d),o7',o8',o9] H')->
      tt D [o0,o1,o2,some (.int h),some (.ref lt),some (.ref t),some (.ref d),o7,o8,o9] H:=by
  have nd:=scPs.nd;refine⟨_,aM (bK (bV (A01 1 (eL hr)) (bN (bB iG).names nPs ["_law_cell_here"] [("_law_owners",6)] rfl (cR (pv 5)) rfl rfl rfl (by decide +kernel)
      (λZ=>nm1 0 A0o) (λZ=>eP (B2e (A2g (lt_of_succ_lt (eL hr)) (pv 0) (pv 1)) rfl)) (λZ=>pv 0)) (cX aB) (nomark _))
    (aU (bX (i:=8) nd rfl (Or.inl rfl) (fC B0l rfl T2.dict B2l (aG (pv 6) aB)))<|
     aU (dX PassesOwn.never rfl (cR (pv 5)) (nm1 7 nd) (aM (B2b (lt_of_succ_lt (eL hr)) (pv 8) (pv 7) (pv 3) rfl)))<|
     aM (cK (gI PySem.F.plainAttrs_list PySem.F.slot_list_append PySem.F.type_list_append iA (pv 4) (aG (pv 8) aB)))) bL),?_⟩
  intro D o0 o1 o2 o7 o8 o9 lt t d h hs q L es H hT hLn hL10 hd hl hqn hq10 hqb elt hes k0 k1;obtain⟨ps,ht,hP⟩:=id hT;have hpl:ps.length=L.length:=Paired.length hP;have neD:d≠lt:=λz=>by rw[z,elt]at hd;cases hd
  have neT:∀{b:Addr}{c:Pl},PlA H b c->b≠lt:=λh z=>by
    have h:H _=some (.tup _):=h;rw[z,elt]at h;cases h
  refine⟨_,rfl,t,rfl,⟨_,SqT.of ht⟩,λZ lr hlr=> ?_⟩;refine oO (R:=λH b c=>PlA H b c) (λe h=>e.tup _ _ h) (rest:=[some (.ref d)]) (λc=>decide (c∈q.flatten)) gP (λH' hs=>SqT.of (hs _ _ ht)) hP hlr (by omega) (λb c H' Q' hc hb hs' k=> ?_) λσ H1 qs s1 el1 hP1=> ?_
  · refine⟨_,rfl,_,rfl,d,_,rfl,DGet.t (k:=kp c) (hs' _ _ hd) hb,_,rfl,?_⟩
    rw[kZ,Option.isSome_map,mD hl];exact k H' (Same.refl _)
  refine⟨by show 0<=sizeLine;decide,λl0 hl0=> ?_⟩;have u0:=aQ (o:=.lst []) hl0;have s2:=s1.trans u0;refine⟨lr,l0,_,[],rfl,rfl,u0 _ _ el1,aJ,?_⟩;generalize upd H1 l0 (.lst [])=H2 at u0 s2⊢;have hq:qs.length=_:=Paired.length hP1;cases hdj:djB L q with
  |false=>
    left
    have hne:L.filter (λc=>decide (c∈q.flatten))≠[]:=λz=>by
      have:djB L q=true:=all_eq_true.mpr λc hc=>by
        have:=List.filter_eq_nil_iff.mp z c hc;simpa using this
      rw[this]at hdj;cases hdj
    refine⟨λz=>hne (eq_nil_of_length_eq_zero ?_),_,rfl,bQ (k0 _ _ H2 s2 hdj)⟩;rw[length_map]at z;rw[←hq,z];rfl
  |true=>
    right
    have hnil:L.filter (λc=>decide (c∈q.flatten))=[]:=List.filter_eq_nil_iff.mpr λc hc=>by
      have:=all_eq_true.mp hdj c hc;simpa using this
    rw[hnil]at hq;have:qs=[]:=eq_nil_of_length_eq_zero hq;subst this;refine⟨[],trivial,_,rfl,fM ?_⟩;refine⟨_,rfl,d,_,rfl,s2 _ _ hd,B10 hl hqn hqb,λdn hdn=> ?_⟩;refine⟨_,rfl,t,rfl,⟨_,SqT.of (aQ hdn _ _ (s2 _ _ ht))⟩,?_⟩;refine gG (K:=K) (a:=t) (xs:=ps.map V.ref) (λj σ H'=>(∃o7,σ=[o0,o1,o2,some (.int h),some (.ref lt),some (.ref t),some (.ref d),o7,some (.ref dn),o9])/\Same H2 H'/\H' dn=some (.dT (ents hs q++(L.take j).map λc=>(kp c,V.int h))))
      ⟨⟨_,rfl⟩,aQ hdn,by rw[aJ,take_zero,map_nil,append_nil]⟩ (λj σ H' _ h=>SqT.of (h.2.1 _ _ (s2 _ _ ht))) ?_ ?_
    · rintro j x σ H' hx ⟨⟨o7',rfl⟩,hs',hd'⟩
      obtain⟨b,hbj,rfl⟩:=eI hx;obtain⟨c,hc,he⟩:=hP.at hbj;have hj:j<L.length:=(zjW.mp hc).1;have hb':H' b=some (.tup ((kp c).map kV)):=hs' _ _ (s2 _ _ he);have hv:dD (ents hs q++(L.take j).map λc=>(kp c,V.int h)) (kp c)=none:=by
        rw[yX,kZ,xT];have h1:own hs q c=none:=by
          have:=mD (c:=c) hl;have hn:c∉q.flatten:=by
            have:=all_eq_true.mp hdj c (mem_of_getElem? hc);simpa using this
          rw[zjU hn]at this;cases e:own hs q c with
          |none=>rfl
          |some _=>rw[e]at this;cases this
        have h2:c∉L.take j:=λz=>by
          obtain⟨i,hi,e⟩:=mem_iff_getElem.mp z;rw[length_take]at hi;rw[getElem_take]at e;have hc':L[j]=c:=(zjW.mp hc).2;have:=pairwise_iff_getElem.mp (nodup_iff_pairwise_ne.mp hLn) i j (by omega) hj (by omega);exact this (by rw[e,hc'])
        rw[h1,if_neg h2];rfl
      refine⟨_,rfl,_,rfl,_,rfl,dn,_,rfl,DPut.t (k:=kp c) hd' hb' ?_,⟨_,rfl⟩,λb' u e'=> ?_,?_⟩
      · rw[length_append,tY hl,length_map,length_take,sizeLine_eq];omega
      · rw[aY (bH e' hdn)];exact hs' _ _ e'
      · rw[aJ,A9v _ hv,take_succ,hc,map_append,append_assoc];rfl
    · rintro σ H' ⟨⟨o7',rfl⟩,hs',hd'⟩
      rw[length_map,hpl,take_of_length_le (zjQ _),←A2v hl]at hd';have sA:=s2.trans hs';have elt':=sA _ _ elt;have hne:dn≠lt:=λz=>by rw[z,elt']at hd';cases hd'
      refine⟨_,rfl,.inl ⟨rfl,_,SqL.of elt'⟩,_,rfl,lt,_,_,rfl,rfl,elt',by rw[length_map,sizeLine_eq];exact hes,?_⟩;refine k1 _ _ dn _ (λb u n e=> ?_) aJ ?_ hdj
      · rw[aY n];exact sA _ _ e
      · rw[aY hne];exact hd'
end
noncomputable def DlA (H:Hp)(hs:List Int)(ds:List Addr)(CS:List (List (List Pl))):Prop:=Paired (λd q=>H d=some (.dT (ents hs q))) ds CS
theorem DlA.same (h:DlA H hs ds CS)(s:Same H H'):DlA H' hs ds CS:=Paired.mapP h λ_ _ e=>s _ _ e
theorem DlA.sb (h:DlA H hs ds CS)(s:Sb l H H')(e:H l=some (.lst xs)):DlA H' hs ds CS:=Paired.mapP h λ_ _ z=>s _ _ (λy=>by rw[y,e]at z;cases z) z
structure LnO (hs:List Int)(q:List (List Pl)):Prop where
 l:hs.length=q.length
 n:q.flatten.Nodup
 t:q.flatten.length<=10
 b:∀c∈q.flatten,0<=c.1/\c.1<4/\0<=c.2/\c.2<5
theorem A3h (Ls:List (List Pl))(L:List Pl)(cs:List (List (List Pl))):fD (Ls++[L]) cs=fD Ls cs++(cs.filter (djB L)).map (· ++[L]):=by unfold fD;rw[List.flatMap_append];simp
section
variable {P:Program}{w:World}{K:W.Frag}{mg:Str->Option Value}{base:Heap}
variable {f:Addr}{cdv:Value}{A:Around}{outer:List Env}{s:Shared}{H0:Hp}{E:XK}
theorem A9u (T2:eE mg)(hr:Room 4 (XP P w K mg base f cdv A outer s H0 E).A):∃tt,PSs (XP P w K mg base f cdv A outer s H0 E) bLand tt/\
  ∀(D:dR)(o0 o1 o6 o7 o8 o9:Option V)(ln lt t:Addr)(h:Int)(hs:List Int)(L:List Pl)(ds es:List Addr)(CS Ac:List (List (List Pl)))(H:Hp),SqA H t L->L.Nodup->L.length<=10->H ln=some (.lst (ds.map V.ref))->ln≠lt->DlA H hs ds CS->(∀q∈CS,LnO hs q)->H lt=some (.lst (es.map V.ref))->DlA H (hs++[h]) es Ac->Ac.length+CS.length<16777216->
   (∀o6' o7' o8' es' H',Sb lt H H'->H' lt=some (.lst ((es':List Addr).map V.ref))->DlA H' (hs++[h]) es' (Ac++(CS.filter (djB L)).map (· ++[L]))->D.nx [o0,o1,some (.ref ln),some (.int h),some (.ref lt),some (.ref t),o6',o7',o8',o9] H')->
   tt D [o0,o1,some (.ref ln),some (.int h),some (.ref lt),some (.ref t),o6,o7,o8,o9] H:=by
 have nd:=scPs.nd;obtain⟨tb,hb,rb⟩:=A9e (P:=P) (w:=w) (K:=K) (mg:=mg) (base:=base) (f:=f) (cdv:=cdv) (A:=A) (outer:=outer) (s:=s) (H0:=H0) (E:=E) T2 hr;refine⟨_,aM (dX PassesOwn.never rfl (cV (pv 2)) (aK (i:=6) nd rfl (Or.inr rfl)) hb),?_⟩;intro D o0 o1 o6 o7 o8 o9 ln lt t h hs L ds es CS Ac H hT hLn hL10 eln nl hD hO elt hE hz k;have hdl:ds.length=CS.length:=Paired.length hD;refine⟨_,rfl,ln,rfl,⟨_,SqL.of eln⟩,?_⟩;refine dI (K:=K) (a:=ln) (xs:=ds.map V.ref) (λj σ H'=>(∃o6 o7 o8,σ=[o0,o1,some (.ref ln),some (.int h),some (.ref lt),some (.ref t),o6,o7,o8,o9])/\Sb lt H H'/\∃es':List Addr,H' lt=some (.lst (es'.map V.ref))/\DlA H' (hs++[h]) es' (Ac++((CS.take j).filter (djB L)).map (· ++[L])))
  ⟨⟨_,_,_,rfl⟩,Sb.refl _ _,es,elt,by rw[take_zero];simpa using hE⟩ (λj σ H' _ h=>SqL.of (h.2.1 _ _ nl eln)) ?_ ?_
 ·rintro j x σ H' hx ⟨⟨o6',o7',o8',rfl⟩,hs',es',elt',hE'⟩;obtain⟨d,hdj,rfl⟩:=eI hx;obtain⟨q,hq,ed⟩:=gE hD hdj;have hj:j<CS.length:=(zjW.mp hq).1;have O:=hO q (mem_of_getElem? hq);have nd':d≠lt:=λz=>by rw[z,elt]at ed;cases ed
  have hel:es'.length=_:=Paired.length hE';have hfl:=length_filter_le (djB L) (CS.take j);rw[length_take]at hfl;rw[length_append,length_map]at hel;have et:(CS.take (j+1)).filter (djB L)=(CS.take j).filter (djB L)++(if djB L q=true then [q]else []):=by
   rw[take_succ,hq,filter_append]
   congr 1
   by_cases z:djB L q=true
   ·simp[z]
   ·simp[z]
  refine rb _ o0 o1 (some (.ref ln)) o7' o8' o9 lt t d h hs q L es' H' (SqA.ext hT (hs'.ext elt elt')) hLn hL10 (hs' _ _ nd' ed) O.l O.n O.t O.b elt' (by omega) (λo7'' o8'' H2 s2 hz'=> ?_) λo7'' o8'' dn H2 s2 e2 en hz'=> ?_
  ·refine⟨⟨_,_,_,rfl⟩,hs'.trans (Sb.of s2),es',s2 _ _ elt',?_⟩;rw[et,if_neg (by rw[hz'];decide),append_nil];exact hE'.same s2
  ·refine⟨⟨_,_,_,rfl⟩,hs'.trans s2,es'++[dn],by rw[e2,map_append];rfl,?_⟩;rw[et,if_pos hz',map_append,←append_assoc];exact Paired.snoc (hE'.sb s2 elt') en
 ·rintro σ H' ⟨⟨o6',o7',o8',rfl⟩,hs',es',elt',hE'⟩;rw[length_map,hdl,take_of_length_le (zjQ _)]at hE';exact k _ _ _ es' H' hs' elt' hE'
theorem A4i (T2:eE mg)(hr:Room 4 (XP P w K mg base f cdv A outer s H0 E).A)(aF:A1 P w K mg base 4 "_law_fit_lands" sK):∃tt,PSs (XP P w K mg base f cdv A outer s H0 E) bHold tt/\
  ∀(D:dR)(o1 o4 o5 o6 o7 o8 o9:Option V)(p ln:Addr)(g:bI)(w:Nat)(cs:List Int)(cl:List C3)(od h:Int)(hs:List Int)(ds:List Addr)(CS:List (List (List Pl)))(H:Hp),PleA H p g w cs cl od->H ln=some (.lst (ds.map V.ref))->DlA H hs ds CS->(∀q∈CS,LnO hs q)->65*CS.length<16777216->
   (∀o4' o5' o6' o7' o8' ln' ds' H',Same H H'->H' ln'=some (.lst ((ds':List Addr).map V.ref))->DlA H' (hs++[h]) ds' (fD ((llG (aN pos g)).filter (dQ g cs cl od h)) CS)->D.nx [some (.ref p),o1,some (.ref ln'),some (.int h),o4',o5',o6',o7',o8',o9] H')->
   tt D [some (.ref p),o1,some (.ref ln),some (.int h),o4,o5,o6,o7,o8,o9] H:=by
 have nd:=scPs.nd;obtain⟨tb,hb,rb⟩:=A9u (P:=P) (w:=w) (K:=K) (mg:=mg) (base:=base) (f:=f) (cdv:=cdv) (A:=A) (outer:=outer) (s:=s) (H0:=H0) (E:=E) T2 hr;refine⟨_,aU (bX (i:=4) nd rfl (Or.inl rfl) (cX aB))<|
  aU (dX PassesOwn.never rfl (cV (aF.c hr (aG (pv 0) (aG (pv 3) aB)))) (nm1 5 nd) hb)<|
  aM (bX (i:=2) nd rfl (Or.inl rfl) (pv 4)),?_⟩
 intro D o1 o4 o5 o6 o7 o8 o9 p ln g w' cs cl od h hs ds CS H hP eln hD hO hz k;have hdl:ds.length=CS.length:=Paired.length hD;refine⟨by show 0<=sizeLine;decide,λlt hlt=> ?_⟩;have u1:=aQ (o:=.lst []) hlt;refine⟨_,rfl,_,rfl,p,g,w',cs,cl,od,h,rfl,hP.same u1,λlf qs H2 hlf s2 elf hL=> ?_⟩;have elt2:=s2 _ _ (aJ (H:=H) (a:=lt) (o:=.lst []));have s12:=u1.trans s2;have nlf:lf≠lt:=λz=>by rw[z,aJ]at hlf;cases hlf
 have nln:ln≠lt:=λz=>by rw[z,hlt]at eln;cases eln
 generalize hLs:(llG (aN pos g)).filter (dQ g cs cl od h)=Ls at hL k;have hql:qs.length=Ls.length:=Paired.length hL;have h64:Ls.length<=64:=by
  rw[←hLs];refine le_trans (length_filter_le _ _) ?_;rw[nH,eU];exact le_trans (pow_le_pow_right (by decide) hP.c6) (by decide)
 have hsub:∀L∈Ls,L.Sublist (aN pos g):=λL hL=>by rw[←hLs]at hL;exact(lF _ rfl).mp (mem_filter.mp hL).1
 refine⟨lf,rfl,⟨_,SqL.of elf⟩,?_⟩;refine dI (K:=K) (a:=lf) (xs:=qs.map V.ref) (λj σ H'=>(∃o5 o6 o7 o8,σ=[some (.ref p),o1,some (.ref ln),some (.int h),some (.ref lt),o5,o6,o7,o8,o9])/\Sb lt H2 H'/\∃es:List Addr,H' lt=some (.lst (es.map V.ref))/\DlA H' (hs++[h]) es (fD (Ls.take j) CS))
  ⟨⟨_,_,_,_,rfl⟩,Sb.refl _ _,[],elt2,.nil⟩ (λj σ H' _ h=>SqL.of (h.2.1 _ _ nlf elf)) ?_ ?_
 ·rintro j x σ H' hx ⟨⟨o5',o6',o7',o8',rfl⟩,hs',es,elt',hE⟩;obtain⟨t,htj,rfl⟩:=eI hx;obtain⟨L,hLj,hT⟩:=gE hL htj;have hj:j<Ls.length:=(zjW.mp hLj).1;have hLs':=hsub L (mem_of_getElem? hLj);have hsl:=qF (Ls.take j) CS;have hsl2:(Ls.take j).length*CS.length<=64*CS.length:=Nat.mul_le_mul_right _ (by rw[length_take];omega);have hLn:L.Nodup:=((nN pos g).sublist hLs').imp fun{a b} z e=>by
   have z:HT.lexLt [a.1,a.2] [b.1,b.2]=true:=z;rw[e,iL]at z;cases z
  refine rb _ (some (.ref p)) o1 o6' o7' o8' o9 ln lt t h hs L ds es CS (fD (Ls.take j) CS) H' (SqA.ext hT (hs'.ext elt2 elt')) hLn (LandOf.len hP.G hLs') (hs' _ _ nln (s12 _ _ eln)) nln ((hD.same s12).sb hs' elt2) hO elt' hE (by omega) λo6'' o7'' o8'' es' H3 s3 e3 hE3=> ?_;refine⟨⟨_,_,_,_,rfl⟩,hs'.trans s3,es',e3,?_⟩;have et:Ls.take (j+1)=Ls.take j++[L]:=by rw[take_succ,hLj];rfl
  rw[et,A3h];exact hE3
 ·rintro σ H' ⟨⟨o5',o6',o7',o8',rfl⟩,hs',es,elt',hE⟩;rw[length_map,hql,take_of_length_le (zjQ _)]at hE;exact⟨_,rfl,k _ _ _ _ _ lt es H' (λb u e=>hs' b u (bH e hlt) (s12 _ _ e)) elt' hE⟩
end
theorem A7m (S:Nat->Bool):(aX S).Nodup:=by
 unfold aX;have key:∀b0 b1 b2 b3:Bool,(L b0 b1 b2 b3).Nodup:=by decide
 exact key _ _ _ _
noncomputable def hI (cl:List C3):List Int:=(aX (cD cl)).map λk:Nat=>(k:Int)
theorem zZ (cl:List C3):(hI cl).Nodup:=by unfold hI;rw[nodup_iff_pairwise_ne,pairwise_map];exact(nodup_iff_pairwise_ne.mp (A7m _)).imp fun{a b} z e=>z (by omega)
theorem iD (hm:h∈hI cl):cM cl h=true:=by obtain⟨k,hk,rfl⟩:=mem_map.mp hm;exact(mem_mem4.mp hk).2
theorem A8o (cl:List C3):(hI cl).length<=cl.length:=by
 have:=jE (ys:=cl.map (·.1)) (zZ cl) λh hm=>by
  obtain⟨c,hc,e⟩:=any_eq_true.mp (iD hm);exact mem_map.mpr ⟨c,hc,of_decide_eq_true e⟩
 rwa [length_map]at this
noncomputable def lfs (g:bI)(cs:List Int)(cl:List C3)(od:Int)(hs:List Int):List (List (List Pl)):=hs.map λh=>(llG (aN pos g)).filter (dQ g cs cl od h)
structure PkO (g:bI)(cs:List Int)(cl:List C3)(od:Int)(ks:List Int):Prop where
 l:ks.length=(aN pos g).length
 h:∀k∈ks,cM cl k=true
 b:eQ g cs cl od ks=true
theorem A04 (h:Ls∈lfs g cs cl od hs):∀L∈Ls,L.Sublist (aN pos g):=λL hL=>by
 obtain⟨h',_,rfl⟩:=mem_map.mp h;exact(lF _ rfl).mp (mem_filter.mp hL).1
theorem xC (g:bI):(aN pos g).Nodup:=(nN pos g).imp fun{a b} z e=>by
 have z:HT.lexLt [a.1,a.2] [b.1,b.2]=true:=z;rw[e,iL]at z;cases z
theorem A17:∀(n:Nat){xs:List Pl},xs.length=n->xs.Nodup->(llG xs).Nodup
 |0,xs,h,_=>by
  have:xs=[]:=eq_nil_of_length_eq_zero h;subst this;exact nodup_cons.mpr ⟨by simp,nodup_nil⟩
 |n+1,xs,h,hn=>by
  rcases eq_nil_or_concat xs with e| ⟨zs,x,e⟩
  ·rw[e]at h;cases h
  ·rw[concat_eq_append]at e;subst e;rw[length_append,length_singleton]at h;rw[nodup_append]at hn;have ih:=A17 n (xs:=zs) (by omega) hn.1;rw[oZ,nodup_append];refine⟨ih,?_,λa ha b hb e=> ?_⟩
   ·rw[nodup_iff_pairwise_ne,pairwise_map];exact(nodup_iff_pairwise_ne.mp ih).imp fun{a b} z e=>z (List.append_cancel_right e)
   ·obtain⟨c,_,rfl⟩:=mem_map.mp hb;have hx:x∈a:=by rw[e];exact mem_append_right _ zjR
    exact hn.2.2 x (((lF _ rfl).mp ha).subset hx) x zjR rfl
section
theorem sQ (G:cU g w)(g3:g.length<=3)(w4:w<=4)(hq:q∈eV (lfs g cs cl od hs)):Ln (lfs g cs cl od hs) q/\LnO hs q/\∀L∈q,L.Sublist (aN pos g):=by
 have ln:=yF _ rfl (λLs hLs L hL=>(xC g).sublist (A04 hLs L hL)) q hq;have hsub:∀L∈q,L.Sublist (aN pos g):=λL hL=>by
  obtain⟨i,hi⟩:=mem_iff_getElem?.mp hL;obtain⟨Ls,hLs,hm⟩:=gE ln.p hi;exact A04 (mem_of_getElem? hLs) L hm
 have hin:∀c∈q.flatten,c∈aN pos g:=λc hc=>by
  obtain⟨M,hM,h⟩:=mem_flatten.mp hc;exact(hsub M hM).subset h
 have hl:q.length=(lfs g cs cl od hs).length:=Paired.length ln.p;have h10:=jE ln.nd hin;rw[eU]at h10;have:=G.c10;refine⟨ln,⟨?_,ln.nd,by omega,λc hc=>wF G g3 w4 (hin c hc)⟩,hsub⟩;unfold lfs at hl;rw[length_map]at hl;exact hl.symm
theorem nE (G:cU g w)(g3:g.length<=3)(w4:w<=4)(hq:q∈eV (lfs g cs cl od (hI cl)))(hf:q.flatten.length=(aN pos g).length):PkO g cs cl od (fW (aN pos g) (hI cl) q)/\q=(hI cl).map (bT g (fW (aN pos g) (hI cl) q))/\∀c∈aN pos g,∃h,own (hI cl) q c=some h:=by
 obtain⟨ln,O,hsub⟩:=sQ G g3 w4 hq;have e:=A8y (zZ cl) O.n O.l hsub hf;have hin:∀c∈aN pos g,c∈q.flatten:=by
  intro c hc;by_cases z:c∈q.flatten
  ·exact z
  ·have:=jE (ys:=aN pos g) (nodup_cons.mpr ⟨z,O.n⟩) (λd hd=>(mem_cons.mp hd).elim (λe=>e▸hc) λhd=>by
    obtain⟨M,hM,h⟩:=mem_flatten.mp hd;exact(hsub M hM).subset h)
   rw[length_cons]at this;omega
 have how:∀c∈aN pos g,∃h,own (hI cl) q c=some h:=λc hc=>by
  have hi:=mD (c:=c) O.l;rw[zjV (hin c hc)]at hi;exact Option.isSome_iff_exists.mp hi
 refine⟨⟨by unfold fW;rw[length_map],λk hk=> ?_,?_⟩,e,how⟩
 ·obtain⟨c,hc,rfl⟩:=mem_map.mp hk;obtain⟨h,eh⟩:=how c hc;rw[eh];refine iD ?_;unfold own at eh;cases ef:((hI cl).zip q).find? λz=>decide (c∈z.2)with
  |none=>rw[ef]at eh;cases eh
  |some y=>
   rw[ef]at eh;have:y.1=h:=Option.some.inj eh;show h∈hI cl;rw[←this];exact(of_mem_zip (List.mem_of_find?_eq_some ef)).1
 ·unfold eQ;rw[all_eq_true];intro k hk;have hm:(k:Int)∈hI cl:=mem_map.mpr ⟨k,hk,rfl⟩;obtain⟨j,hj⟩:=mem_iff_getElem?.mp hm;have hqj:q[j]?=some (bT g (fW (aN pos g) (hI cl) q) k):=by
   conv=>lhs;rw[e]
   rw[getElem?_map,hj];rfl
  obtain⟨Ls,hLs,hmem⟩:=gE ln.p hqj;unfold lfs at hLs;rw[getElem?_map,hj]at hLs;cases hLs;exact(mem_filter.mp hmem).2
theorem yJ (h3:hs.length<=3)(c6:dE g<=6):(eV (lfs g cs cl od hs)).length<=64^hs.length:=by
 have:=A0j hs.length (Lfs:=lfs g cs cl od hs) (by unfold lfs;rw[length_map]) λLs hLs=>by
  obtain⟨h',_,rfl⟩:=mem_map.mp hLs;refine le_trans (length_filter_le _ _) ?_;rw[nH,eU];exact le_trans (pow_le_pow_right (by decide) c6) (by decide)
 exact this
theorem A3l:(eV (lfs g cs cl od hs)).Nodup:=xI _ rfl λLs hLs=>by
 obtain⟨h',_,rfl⟩:=mem_map.mp hLs;exact(A17 _ rfl (xC g)).sublist filter_sublist
theorem A9w (G:cU g w)(g3:g.length<=3)(w4:w<=4):(((eV (lfs g cs cl od (hI cl))).filter λq=>decide (q.flatten.length=(aN pos g).length)).map (fW (aN pos g) (hI cl))).Pairwise (· ≠ ·):=by rw[pairwise_map];refine(List.Pairwise.and_mem.mp ((nodup_iff_pairwise_ne.mp (A3l (g:=g) (cs:=cs) (cl:=cl) (od:=od) (hs:=hI cl))).sublist filter_sublist)).imp fun{a b} z e=>z.2.2 ?_;obtain⟨ha,hb⟩:=mem_filter.mp z.1;obtain⟨ha',hb'⟩:=mem_filter.mp z.2.1;rw[(nE G g3 w4 ha (of_decide_eq_true hb)).2.1,(nE G g3 w4 ha' (of_decide_eq_true hb')).2.1,e]
end
noncomputable def sW:Sp:=λvs H Q _=> ∃p g w cs cl od,vs=[.ref p]/\PleA H p g w cs cl od/\cl.length<=3/\∀l zs H',H l=none->Same H H'->H' l=some (.lst ((zs:List (Addr×List Int)).map λz=>V.ref z.1))->zs.length<=262144->(∀z∈zs,H' z.1=some (.tup (z.2.map V.int))/\PkO g cs cl od z.2)->Q (.ref l) H'
noncomputable abbrev B1m:List Stmt:=kG ((dG iG).getD 3 pNo)
section
variable {P:Program}{w:World}{K:W.Frag}{mg:Str->Option Value}{base:Heap}
section
variable {f:Addr}{cdv:Value}{A:Around}{outer:List Env}{s:Shared}{H0:Hp}{E:XK}
theorem A4o (T:Txt mg)(hr:Room 4 (XP P w K mg base f cdv A outer s H0 E).A):∃tt,PSs (XP P w K mg base f cdv A outer s H0 E) B1m tt/\
  ∀(D:dR)(o0 o2 o3 o4 o5 o7 o8:Option V)(lc lf d:Addr)(hs:List Int)(q:List (List Pl))(C:List Pl)(pc:List Addr)(xs:List V)(H:Hp),H lc=some (.lst (pc.map V.ref))->PlAt H pc C->C.length<=10->H d=some (.dT (ents hs q))->hs.length=q.length->(q.flatten.length=C.length->∀c∈C,∃h,own hs q c=some h)->H lf=some (.lst xs)->lc≠lf->xs.length<16777216->
   (q.flatten.length≠C.length->D.nx [o0,some (.ref lc),o2,o3,o4,o5,some (.ref d),o7,o8,some (.ref lf)] H)->
   (∀t H',q.flatten.length=C.length->Sb lf H H'->H' lf=some (.lst (xs++[.ref t]))->H' t=some (.tup ((fW C hs q).map V.int))->D.nx [o0,some (.ref lc),o2,o3,o4,o5,some (.ref d),o7,o8,some (.ref lf)] H')->
   tt D [o0,some (.ref lc),o2,o3,o4,o5,some (.ref d),o7,o8,some (.ref lf)] H:=by
 have nd:=scPs.nd;refine⟨_,aM (bK (bV eG (bE A66 rfl T.len PySem.boot_len (aG (pv 6) aB)) (bE fF rfl T.len PySem.boot_len (aG (pv 1) aB)) (nomark _))
  (aM (cK (gI PySem.F.plainAttrs_list PySem.F.slot_list_append PySem.F.type_list_append iA (pv 9) (cG (fC gD rfl T.tuple boot_tuple (cO (bN (bB iG).names nPs ["_law_cell_here"] [("_law_owners",6)] rfl (cV (pv 1)) rfl rfl rfl (by decide +kernel)
   (λZ=>nm1 0 A0o) (λZ=>cF) (λZ=>A5w (lt_of_succ_lt (eL hr)) (pv 1) (pv 0) (λ_ _=>rfl))) aB)) aB)))) bL),?_⟩
 intro D o0 o2 o3 o4 o5 o7 o8 lc lf d hs q C pc xs H elc hPc hC10 hd hl how elf nlc hz k0 k1;have hpl:pc.length=C.length:=Paired.length hPc;refine⟨_,rfl,d,_,rfl,hd,_,rfl,lc,_,rfl,.inl (SqL.of elc),rfl,_,rfl,?_⟩;have ed:decide (V.int ((ents hs q).length:Int)=V.int ((pc.map V.ref).length:Int))=decide (q.flatten.length=C.length):=by
  rw[tY hl,length_map,hpl];exact decide_eq_decide.mpr ⟨λz=>by have:=V.int.inj z;omega,λz=>by rw[z]⟩
 rw[ed];refine dW (λe=> ?_) λe=>k0 e;have how:=how e;refine⟨_,rfl,.inl ⟨rfl,_,SqL.of elf⟩,_,rfl,lc,rfl,⟨_,SqL.of elc⟩,λZ l hl'=> ?_⟩;refine dI (K:=K) (a:=lc) (xs:=pc.map V.ref) (λj σ H'=>(∃o,σ=[o,some (.ref d)])/\Same H H'/\H' l=some (.lst (((C.take j).map λc=>(own hs q c).getD 0).map V.int)))
  ⟨⟨_,rfl⟩,aQ hl',aJ⟩ (λj σ H' _ h=>SqL.of (h.2.1 _ _ elc)) ?_ ?_
 ·rintro j x σ H' hx ⟨⟨o,rfl⟩,hs',hl2⟩;obtain⟨b,hbj,rfl⟩:=eI hx;obtain⟨c,hc,he⟩:=hPc.at hbj;have hj:j<C.length:=(zjW.mp hc).1;obtain⟨h,eh⟩:=how c (mem_of_getElem? hc);have hv:dD (ents hs q) (kp c)=some (.int h):=by rw[kZ,eh];rfl
  have hb':H' b=some (.tup ((kp c).map kV)):=hs' _ _ he;have dg:DGet H' d (.ref b) (some (.int h)):=by rw[←hv];exact DGet.t (hs' _ _ hd) hb'
  refine iX ?_;refine⟨_,rfl,_,rfl,d,.int h,rfl,dg,?_⟩;refine⟨_,hl2,bW (by rw[length_map,length_map,length_take];omega),⟨_,rfl⟩,λb' u e'=> ?_,?_⟩
  ·rw[aY (bH e' hl')];exact hs' _ _ e'
  ·rw[aJ,take_succ,hc,map_append,map_append];show some (HO.lst (_++[V.int h]))=some (HO.lst (_++[V.int ((own hs q c).getD 0)]));rw[eh];rfl
 ·rintro σ H' ⟨_,hs',hl2⟩;rw[length_map,hpl,take_of_length_le (zjQ _)]at hl2;refine⟨l,_,rfl,.inl ⟨SqL.of hl2,λt ht=> ?_⟩⟩;have u:=aQ (o:=.tup ((fW C hs q).map V.int)) ht;have sA:=hs'.trans u;have ntl:t≠lf:=λz=>by rw[z,hs' _ _ elf]at ht;cases ht
  refine⟨lf,_,_,rfl,rfl,sA _ _ elf,by rw[sizeLine_eq];exact hz,?_⟩;refine k1 t _ e (λb u' n e'=> ?_) aJ ?_
  ·rw[aY n];exact sA _ _ e'
  ·rw[aY ntl];exact aJ
end
theorem B1w (F:D1 K mg "_law_partings" iG ["_law_plea"])(T:Txt mg)(T2:eE mg)(a1:A1 P w K mg base 1 "_law_cells" (eY pos))(aH:A1 P w K mg base 1 "_law_holders" kQ)(aF:A1 P w K mg base 4 "_law_fit_lands" sK):A1 P w K mg base 5 "_law_partings" sW:=by
 refine F.k nPs ?_;ac_nf
 ·obtain⟨p,g,w',cs,cl,od,rfl,D,hc3,q⟩:=h;obtain⟨m,c,a,hp,hm,hc,ha⟩:=D.ex;obtain⟨tb,hb,rb⟩:=A4i (P:=P) (w:=w) (K:=K) (mg:=mg) (base:=base) (f:=f) (cdv:=cdv) (A:=A) (outer:=outer) (s:=s) (H0:=H) (E:=E) T2 hr aF;obtain⟨tf,hf,rf⟩:=A4o (P:=P) (w:=w) (K:=K) (mg:=mg) (base:=base) (f:=f) (cdv:=cdv) (A:=A) (outer:=outer) (s:=s) (H0:=H) (E:=E) T hr;refine⟨_,aU (iF (i:=1) (j:=2) rfl nd rfl rfl (by decide) rfl rfl (cG (a1.c hr (eX (bJ cA (pv 0) aV (λ_ _=>rfl)) aB)) (lI (cX (B0f A7k aB)) aB)) rfl)<|
   aU (dX PassesOwn.never rfl (cV (aH.c hr (aG (pv 0) aB))) (nm1 3 nd) hb)<|
   aU (bX (i:=9) nd rfl (Or.inl rfl) (cX aB))<|
   aU (dX PassesOwn.never rfl (cV (pv 2)) (aK (i:=6) nd rfl (Or.inr rfl)) hf)<|
   aM (bC (bE wH rfl T2.sorted boot_sorted (aG (pv 9) aB))),?_⟩
  have hlen3:(hI cl).length<=3:=le_trans (A8o cl) hc3;refine⟨_,rfl,p,_,0,_,rfl,rfl,SqT.of hp,rfl,m,g,w',rfl,hm,D.G,λH1 lc pc hlc s1 elc hPc=> ?_⟩;refine λd0 hd0=> ⟨by show 1<=sizeLine;decide,λln hln=> ?_⟩;have u1:=aQ (o:=.dT []) hd0;have u2:=aQ (o:=.lst [.ref d0]) hln;have e0:(upd (upd H1 d0 (.dT [])) ln (.lst [.ref d0])) d0=some (.dT (ents [] [])):=u2 _ _ aJ;have eln:(upd (upd H1 d0 (.dT [])) ln (.lst [.ref d0])) ln=some (.lst [.ref d0]):=aJ;have s3:=s1.trans (u1.trans u2);have s13:=u1.trans u2;generalize upd (upd H1 d0 (.dT [])) ln (.lst [.ref d0])=H3 at e0 eln s3 s13⊢;refine⟨_,_,rfl,?_⟩;refine⟨_,rfl,p,g,w',cs,cl,od,rfl,D.same s3,λlh H4 hlh s4 elh=> ?_⟩;have s14:=s3.trans s4;have hpl:pc.length=(aN pos g).length:=Paired.length hPc;have elc4:=s4 _ _ (s13 _ _ elc);have hPc4:=(hPc.same s13).same s4;have eh:((aX (cD cl)).map λk:Nat=>V.int (k:Int))=(hI cl).map V.int:=by unfold hI;rw[map_map];rfl
  rw[eh]at elh;refine⟨lh,rfl,⟨_,SqL.of elh⟩,?_⟩;refine dI (K:=K) (a:=lh) (xs:=(hI cl).map V.int) (λj σ H'=>Same H4 H'/\∃ln ds,(∃o3 o4 o5 o6 o7 o8 o9,σ=[some (.ref p),some (.ref lc),some (.ref ln),o3,o4,o5,o6,o7,o8,o9])/\H' ln=some (.lst ((ds:List Addr).map V.ref))/\DlA H' ((hI cl).take j) ds (eV (lfs g cs cl od ((hI cl).take j))))
   ⟨Same.refl _,ln,[d0],⟨_,_,_,_,_,_,_,rfl⟩,s4 _ _ eln,.cons (s4 _ _ e0) .nil⟩ (λj σ H' _ h=>SqL.of (h.1 _ _ elh)) ?_ ?_
  ·rintro j x σ H' hx ⟨hs,ln,ds,⟨o3,o4,o5,o6,o7,o8,o9,rfl⟩,eln,hD⟩;rw[getElem?_map]at hx;cases hb:(hI cl)[j]? with
   |none=>rw[hb]at hx;cases hx
   |some h=>
    rw[hb]at hx;cases hx;have hj:j<(hI cl).length:=(zjW.mp hb).1;have hl2:((hI cl).take j).length=j:=by rw[length_take];omega
    have hrl:=yJ (g:=g) (cs:=cs) (cl:=cl) (od:=od) (hs:=(hI cl).take j) (by omega) D.c6;rw[hl2]at hrl;have h2:(64:Nat)^j<=64^2:=pow_le_pow_right (by decide) (by omega);refine rb _ (some (.ref lc)) o4 o5 o6 o7 o8 o9 p ln g w' cs cl od h ((hI cl).take j) ds _ H' ((D.same s14).same hs) eln hD (λq hq=>(sQ D.G D.g3 D.w4 hq).2.1) (by omega) λo4' o5' o6' o7' o8' ln' ds' H2 s2 e2 hD2=> ?_;refine⟨hs.trans s2,ln',ds',⟨_,_,_,_,_,_,_,rfl⟩,e2,?_⟩;have et:(hI cl).take (j+1)=(hI cl).take j++[h]:=by rw[take_succ,hb];rfl
    have el:lfs g cs cl od ((hI cl).take j++[h])=lfs g cs cl od ((hI cl).take j)++[(llG (aN pos g)).filter (dQ g cs cl od h)]:=by unfold lfs;rw[map_append];rfl
    rw[et,el,nB];exact hD2
  ·rintro σ H' ⟨hs,ln,ds,⟨o3,o4,o5,o6,o7,o8,o9,rfl⟩,eln,hD⟩;rw[length_map,take_of_length_le (zjQ _)]at hD;have hdl:ds.length=_:=Paired.length hD;have hrl:=yJ (g:=g) (cs:=cs) (cl:=cl) (od:=od) (hs:=hI cl) hlen3 D.c6;have h3:(64:Nat)^(hI cl).length<=64^3:=pow_le_pow_right (by decide) hlen3;refine⟨by show 0<=sizeLine;decide,λlf hlf=> ?_⟩;have uf:=aQ (o:=.lst []) hlf;have sF:=hs.trans uf;have elf:(upd H' lf (.lst [])) lf=some (.lst []):=aJ;have nln:ln≠lf:=λz=>by rw[z,hlf]at eln;cases eln
   have nlc:lc≠lf:=bH (hs _ _ elc4) hlf;have nmem:∀{b u},H' b=some u->b≠lf:=λh=>bH h hlf;generalize hG:upd H' lf (.lst [])=H5 at uf sF elf⊢;have eln5:=uf _ _ eln;have hD5:=hD.same uf;refine⟨_,rfl,ln,rfl,⟨_,SqL.of eln5⟩,?_⟩;refine dI (K:=K) (a:=ln) (xs:=ds.map V.ref) (λj σ H2=>(∃o6,σ=[some (.ref p),some (.ref lc),some (.ref ln),o3,o4,o5,o6,o7,o8,some (.ref lf)])/\Sb lf H5 H2/\∃zs:List (Addr×List Int),H2 lf=some (.lst (zs.map λz=>V.ref z.1))/\(∀z∈zs,H2 z.1=some (.tup (z.2.map V.int)))/\zs.map (·.2)=(((eV (lfs g cs cl od (hI cl))).take j).filter λq=>decide (q.flatten.length=(aN pos g).length)).map (fW (aN pos g) (hI cl)))
    ⟨⟨_,rfl⟩,Sb.refl _ _,[],elf,(λz hz=>by cases hz),rfl⟩ (λj σ H2 _ h=>SqL.of (h.2.1 _ _ nln eln5)) ?_ ?_
   ·rintro j x σ H2 hx ⟨⟨o6',rfl⟩,hs2,zs,e2,hz2,hm2⟩;obtain⟨d,hdj,rfl⟩:=eI hx;obtain⟨qq,hqj,ed⟩:=gE hD5 hdj;have hmq:=mem_of_getElem? hqj;obtain⟨_,O,_⟩:=sQ D.G D.g3 D.w4 hmq;have nd':d≠lf:=λz=>by rw[z,elf]at ed;cases ed
    have x2:=hs2.ext elf e2;have hzl:zs.length<=262144:=by
     have h1:=congrArg List.length hm2;rw[length_map,length_map]at h1;have h2:=length_filter_le (λq=>decide (q.flatten.length=(aN pos g).length)) ((eV (lfs g cs cl od (hI cl))).take j);rw[length_take]at h2;omega
    have hPc5:PlAt H2 pc (aN pos g):=Paired.mapP ((hPc4.same hs).same uf) λ_ _ e=>x2.tup _ _ e;have et:((eV (lfs g cs cl od (hI cl))).take (j+1)).filter (λq=>decide (q.flatten.length=(aN pos g).length))=((eV (lfs g cs cl od (hI cl))).take j).filter (λq=>decide (q.flatten.length=(aN pos g).length))++(if decide (qq.flatten.length=(aN pos g).length)=true then [qq]else []):=by
     rw[take_succ,hqj,filter_append]
     congr 1
     by_cases z:decide (qq.flatten.length=(aN pos g).length)=true
     ·simp only[Option.toList,filter_cons,filter_nil,z,if_true]
     ·simp only[Option.toList,filter_cons,filter_nil,if_neg z]
    refine rf _ (some (.ref p)) (some (.ref ln)) o3 o4 o5 o7 o8 lc lf d (hI cl) qq (aN pos g) pc _ H2 (hs2 _ _ nlc (uf _ _ (hs _ _ elc4))) hPc5 (by rw[eU];exact D.G.c10) (hs2 _ _ nd' ed) O.l (λe=>(nE D.G D.g3 D.w4 hmq e).2.2) e2 nlc (by rw[length_map];omega) (λe=> ?_) λt H3 e s3 e3 et3=> ?_
    ·refine⟨⟨_,rfl⟩,hs2,zs,e2,hz2,?_⟩;rw[et,if_neg (by rw[zjU e];decide),append_nil];exact hm2
    ·refine⟨⟨_,rfl⟩,hs2.trans s3,zs++[(t,fW (aN pos g) (hI cl) qq)],by rw[e3,map_append];rfl,λz hz=> ?_,?_⟩
     ·rcases mem_append.mp hz with hz|hz
      ·exact s3 _ _ (λy=>by have:=hz2 z hz;rw[y,e2]at this;cases this) (hz2 z hz)
      ·rw[mem_singleton.mp hz];exact et3
     ·rw[et,if_pos (zjV e),map_append,map_append,hm2];rfl
   ·rintro σ H2 ⟨⟨o6',rfl⟩,hs2,zs,e2,hz2,hm2⟩;rw[length_map,hdl,take_of_length_le (zjQ _)]at hm2;have hzl:zs.length<=262144:=by
     have h1:=congrArg List.length hm2;rw[length_map,length_map]at h1;have h2:=length_filter_le (λq=>decide (q.flatten.length=(aN pos g).length)) (eV (lfs g cs cl od (hI cl)));omega
    have hok:∀z∈zs,PkO g cs cl od z.2:=λz hz=>by
     have:z.2∈zs.map (·.2):=mem_map.mpr ⟨z,hz,rfl⟩;rw[hm2]at this;obtain⟨qq,hq,e⟩:=mem_map.mp this;obtain⟨h1,h2⟩:=mem_filter.mp hq;rw[←e];exact(nE D.G D.g3 D.w4 h1 (of_decide_eq_true h2)).1
    refine⟨_,rfl,lf,zs,rfl,SqL.of e2,λz hz=> ⟨hz2 z hz,λe=> ?_⟩,by omega,λ_=>by rw[hm2];exact A9w D.G D.g3 D.w4,λlz zs' hlz hS=> ?_⟩
    ·have h1:=(hok z hz).l;rw[e,eU]at h1;have:=D.G.c1;simp at h1;omega
    ·have uz:=aQ (o:=.lst (zs'.map λz=>V.ref z.1)) hlz;have sE:Same H H2:=λb u e=>hs2 b u (nmem (hs _ _ (s14 _ _ e))) (sF _ _ (s14 _ _ e));refine q lz zs' _ (sE.free hlz) (sE.trans uz) aJ (by rw[hS.1.length_eq];exact hzl) λz hz=> ?_;have hz':=hS.1.mem_iff.mp hz;exact⟨uz _ _ (hz2 z hz'),hok z hz'⟩
end
noncomputable def bY (w:Nat)(vs:List Int)(k:Nat):List Int:=(List.range w).map λi=>vs.getD (k*w+i) (-2)
noncomputable def bF (w:Nat)(vs:List Int):List (List Int):=replicate w (-1)::(List.range ((vs.length+w - 1)/w)).map (bY w vs)
theorem A5u (hw:w=3\/w=4)(hn:vs.length<6):∃pre last,(if vs.length%w=0 then bF w vs++[replicate w (-2)]else bF w vs)=pre++[last]/\last.length=w/\∀v,bF w (vs++[v])=pre++[last.set (vs.length%w) v]:=by
 rcases hw with rfl|rfl
 ·match vs,hn with
  | [],_=>exact⟨[[-1,-1,-1]],[-2,-2,-2],by simp[bF,bY,List.range,List.range.loop],rfl,λv=>by simp[bF,bY,List.range,List.range.loop]⟩
  | [a],_=>exact⟨[[-1,-1,-1]],[a,-2,-2],by simp[bF,bY,List.range,List.range.loop],rfl,λv=>by simp[bF,bY,List.range,List.range.loop]⟩
  | [a,b],_=>exact⟨[[-1,-1,-1]],[a,b,-2],by simp[bF,bY,List.range,List.range.loop],rfl,λv=>by simp[bF,bY,List.range,List.range.loop]⟩
  | [a,b,c],_=>exact⟨[[-1,-1,-1],[a,b,c]],[-2,-2,-2],by simp[bF,bY,List.range,List.range.loop],rfl,λv=>by simp[bF,bY,List.range,List.range.loop]⟩
  | [a,b,c,d],_=>exact⟨[[-1,-1,-1],[a,b,c]],[d,-2,-2],by simp[bF,bY,List.range,List.range.loop],rfl,λv=>by simp[bF,bY,List.range,List.range.loop]⟩
  | [a,b,c,d,e],_=>exact⟨[[-1,-1,-1],[a,b,c]],[d,e,-2],by simp[bF,bY,List.range,List.range.loop],rfl,λv=>by simp[bF,bY,List.range,List.range.loop]⟩
  |_::_::_::_::_::_::_,h=>simp at h;omega
 ·match vs,hn with
  | [],_=>exact⟨[[-1,-1,-1,-1]],[-2,-2,-2,-2],by simp[bF,bY,List.range,List.range.loop],rfl,λv=>by simp[bF,bY,List.range,List.range.loop]⟩
  | [a],_=>exact⟨[[-1,-1,-1,-1]],[a,-2,-2,-2],by simp[bF,bY,List.range,List.range.loop],rfl,λv=>by simp[bF,bY,List.range,List.range.loop]⟩
  | [a,b],_=>exact⟨[[-1,-1,-1,-1]],[a,b,-2,-2],by simp[bF,bY,List.range,List.range.loop],rfl,λv=>by simp[bF,bY,List.range,List.range.loop]⟩
  | [a,b,c],_=>exact⟨[[-1,-1,-1,-1]],[a,b,c,-2],by simp[bF,bY,List.range,List.range.loop],rfl,λv=>by simp[bF,bY,List.range,List.range.loop]⟩
  | [a,b,c,d],_=>exact⟨[[-1,-1,-1,-1],[a,b,c,d]],[-2,-2,-2,-2],by simp[bF,bY,List.range,List.range.loop],rfl,λv=>by simp[bF,bY,List.range,List.range.loop]⟩
  | [a,b,c,d,e],_=>exact⟨[[-1,-1,-1,-1],[a,b,c,d]],[e,-2,-2,-2],by simp[bF,bY,List.range,List.range.loop],rfl,λv=>by simp[bF,bY,List.range,List.range.loop]⟩
  |_::_::_::_::_::_::_,h=>simp at h;omega
noncomputable def cJ (w:Nat)(vs:List Int):bI:=match bF w vs with
 | [a,b,c]=> [b,a,c]
 |g=>g
theorem A3j (hw:w=3\/w=4)(h2:2<=vs.length)(h6:vs.length<=6)(hv:∀v∈vs,0<=v/\v<=99):cU (cJ w vs) w/\(cJ w vs).length<=3/\dE (cJ w vs)<=6/\((bF w vs).length=2\/(bF w vs).length=3):=by
 have key:∀g:bI,1<=g.length->g.length<=3->(∀xs∈g,xs.length=w)->(∀xs∈g,∀n∈xs,n= -1\/n= -2\/n∈vs)->1<=dE g->dE g<=6->cU g w/\g.length<=3/\dE g<=6:=λg h1 h3 hl hn c1 c6=>
  ⟨⟨h1,by omega,by omega,by omega,hl,λxs hx n hm=>by
   rcases hn xs hx n hm with e|e|e
   ·omega
   ·omega
   ·have:=hv n e;omega,c1,by omega⟩,h3,c6⟩
 have c0:pos (-1)=false:=by decide
 have c2:pos (-2)=false:=by decide
 have cv:∀v∈vs,pos v=true:=λv h=>zjV (hv v h).1;rcases hw with rfl|rfl
 ·match vs,h2,h6 with
  | [a,b],_,_=>
   have e:cJ 3 [a,b]=[[-1,-1,-1],[a,b,-2]]:=by simp[cJ,bF,bY,List.range,List.range.loop,replicate]
   rw[e];refine⟨(key _ (by simp) (by simp) (by simp) (by simp) ?_ ?_).1,by simp,?_,.inl (by simp[bF])⟩<;>simp[dE,fG,c0,c2,cv a (by simp),cv b (by simp)]
  | [a,b,c],_,_=>
   have e:cJ 3 [a,b,c]=[[-1,-1,-1],[a,b,c]]:=by simp[cJ,bF,bY,List.range,List.range.loop,replicate]
   rw[e];refine⟨(key _ (by simp) (by simp) (by simp) (by simp) ?_ ?_).1,by simp,?_,.inl (by simp[bF])⟩<;>simp[dE,fG,c0,c2,cv a (by simp),cv b (by simp),cv c (by simp)]
  | [a,b,c,d],_,_=>
   have e:cJ 3 [a,b,c,d]=[[a,b,c],[-1,-1,-1],[d,-2,-2]]:=by simp[cJ,bF,bY,List.range,List.range.loop,replicate]
   rw[e];refine⟨(key _ (by simp) (by simp) (by simp) (by simp) ?_ ?_).1,by simp,?_,.inr (by simp[bF])⟩<;>simp[dE,fG,c0,c2,cv a (by simp),cv b (by simp),cv c (by simp),cv d (by simp)]
  | [a,b,c,d,f],_,_=>
   have e:cJ 3 [a,b,c,d,f]=[[a,b,c],[-1,-1,-1],[d,f,-2]]:=by simp[cJ,bF,bY,List.range,List.range.loop,replicate]
   rw[e];refine⟨(key _ (by simp) (by simp) (by simp) (by simp) ?_ ?_).1,by simp,?_,.inr (by simp[bF])⟩<;>simp[dE,fG,c0,c2,cv a (by simp),cv b (by simp),cv c (by simp),cv d (by simp),cv f (by simp)]
  | [a,b,c,d,f,h],_,_=>
   have e:cJ 3 [a,b,c,d,f,h]=[[a,b,c],[-1,-1,-1],[d,f,h]]:=by simp[cJ,bF,bY,List.range,List.range.loop,replicate]
   rw[e];refine⟨(key _ (by simp) (by simp) (by simp) (by simp) ?_ ?_).1,by simp,?_,.inr (by simp[bF])⟩<;>simp[dE,fG,c0,c2,cv a (by simp),cv b (by simp),cv c (by simp),cv d (by simp),cv f (by simp),cv h (by simp)]
  | [],h,_=>simp at h
  | [_],h,_=>simp at h
  |_::_::_::_::_::_::_::_,_,h=>simp at h
 ·match vs,h2,h6 with
  | [a,b],_,_=>
   have e:cJ 4 [a,b]=[[-1,-1,-1,-1],[a,b,-2,-2]]:=by simp[cJ,bF,bY,List.range,List.range.loop,replicate]
   rw[e];refine⟨(key _ (by simp) (by simp) (by simp) (by simp) ?_ ?_).1,by simp,?_,.inl (by simp[bF])⟩<;>simp[dE,fG,c0,c2,cv a (by simp),cv b (by simp)]
  | [a,b,c],_,_=>
   have e:cJ 4 [a,b,c]=[[-1,-1,-1,-1],[a,b,c,-2]]:=by simp[cJ,bF,bY,List.range,List.range.loop,replicate]
   rw[e];refine⟨(key _ (by simp) (by simp) (by simp) (by simp) ?_ ?_).1,by simp,?_,.inl (by simp[bF])⟩<;>simp[dE,fG,c0,c2,cv a (by simp),cv b (by simp),cv c (by simp)]
  | [a,b,c,d],_,_=>
   have e:cJ 4 [a,b,c,d]=[[-1,-1,-1,-1],[a,b,c,d]]:=by simp[cJ,bF,bY,List.range,List.range.loop,replicate]
   rw[e];refine⟨(key _ (by simp) (by simp) (by simp) (by simp) ?_ ?_).1,by simp,?_,.inl (by simp[bF])⟩<;>simp[dE,fG,c0,c2,cv a (by simp),cv b (by simp),cv c (by simp),cv d (by simp)]
  | [a,b,c,d,f],_,_=>
   have e:cJ 4 [a,b,c,d,f]=[[a,b,c,d],[-1,-1,-1,-1],[f,-2,-2,-2]]:=by simp[cJ,bF,bY,List.range,List.range.loop,replicate]
   rw[e];refine⟨(key _ (by simp) (by simp) (by simp) (by simp) ?_ ?_).1,by simp,?_,.inr (by simp[bF])⟩<;>simp[dE,fG,c0,c2,cv a (by simp),cv b (by simp),cv c (by simp),cv d (by simp),cv f (by simp)]
  | [a,b,c,d,f,h],_,_=>
   have e:cJ 4 [a,b,c,d,f,h]=[[a,b,c,d],[-1,-1,-1,-1],[f,h,-2,-2]]:=by simp[cJ,bF,bY,List.range,List.range.loop,replicate]
   rw[e];refine⟨(key _ (by simp) (by simp) (by simp) (by simp) ?_ ?_).1,by simp,?_,.inr (by simp[bF])⟩<;>simp[dE,fG,c0,c2,cv a (by simp),cv b (by simp),cv c (by simp),cv d (by simp),cv f (by simp),cv h (by simp)]
  | [],h,_=>simp at h
  | [_],h,_=>simp at h
  |_::_::_::_::_::_::_::_,_,h=>simp at h
noncomputable def LsA (H:Hp)(rs:List Addr)(Rs:List (List Int)):Prop:=Paired (λr row=>H r=some (.lst ((row:List Int).map V.int))) rs Rs
theorem A1x:∀{pre:List β}{last:β}{rs:List α},Paired F rs (pre++[last])->∃rp rl,rs=rp++[rl]/\Paired F rp pre/\F rl last
 | [],last,_,.cons r .nil=> ⟨[],_,rfl,.nil,r⟩
 |x::pre,last,_,.cons r t=>by
  obtain⟨rp,rl,e,h1,h2⟩:=A1x t;exact⟨_::rp,rl,by rw[e];rfl,.cons r h1,h2⟩
structure LwA (p lr:Addr)(H H':Hp)(rs:List Addr)(Rs:List (List Int)):Prop where
 st:Stp p H H'
 l:H' lr=some (.lst (rs.map V.ref))
 r:LsA H' rs Rs
 n:rs.Nodup
 f:∀r∈rs,H r=none/\r≠lr/\r≠p
theorem LwA.stp (x:LwA p lr H H' rs Rs)(hl:lr≠p)(s:Stp p H' H2):LwA p lr H H2 rs Rs:=by
 refine⟨x.st.trans s,s.keep _ _ hl x.l,?_,x.n,x.f⟩;have key:∀{rs:List Addr}{Rs:List (List Int)},LsA H' rs Rs->(∀r∈rs,r≠p)->LsA H2 rs Rs:=by
  intro rs Rs h
  induction h with
  |nil=>intro _;exact .nil
  |cons r t ih=>intro hn;exact .cons (s.keep _ _ (hn _ zjR) r) (ih λr hr=>hn r (zjS _ hr))
 exact key x.r λr hr=>(x.f r hr).2.2
theorem LwA.same (x:LwA p lr H H' rs Rs)(s:Same H' H2):LwA p lr H H2 rs Rs:=⟨x.st.same s,s _ _ x.l,Paired.mapP x.r λ_ _ e=>s _ _ e,x.n,x.f⟩
noncomputable abbrev nLo:List Str:=["_law_pen_here","_law_many","_law_wide","_law_rows","_law_at","_law_worths","_law_claims","_law_mead","_law_odd"]
theorem scLo:fN nLo ["_law_pen_here"] (bB fJ):=by ac_rfl
noncomputable abbrev XO (P:Program)(w:World)(K:W.Frag)(mg:Str->Option Value)(base:Heap)(f:Addr)(cdv:Value)(A:Around)(outer:List Env)(s:Shared)(H0:Hp)(E:XK):Cx:=(dJ CX0 P w K mg base nLo "_law_loose" (bB fJ) f cdv A outer s H0 E).nox
noncomputable abbrev bFill:List Stmt:=kG ((dG fJ).getD 2 pNo)
section
variable {P:Program}{w:World}{K:W.Frag}{mg:Str->Option Value}{base:Heap}
variable {f:Addr}{cdv:Value}{A:Around}{outer:List Env}{s:Shared}{H0:Hp}{E:XK}
theorem A9g:atI ((rp++[rl]).map V.ref) (-1)=some (V.ref rl):=by
 unfold atI ixN;rw[if_neg (by decide),if_pos (by rw[length_map,length_append,length_singleton];omega)];show((rp++[rl]).map V.ref)[((-1:Int)+(((rp++[rl]).map V.ref).length:Nat)).toNat]?=_;have e:((-1:Int)+(((rp++[rl]).map V.ref).length:Nat)).toNat=rp.length:=by rw[length_map,length_append,length_singleton];omega
 rw[e,getElem?_map,getElem?_append_right (zjQ _),Nat.sub_self];rfl
theorem A2l (TC:TxC mg)(hr:Room 1 (XO P w K mg base f cdv A outer s H0 E).A)(aD:A1 P w K mg base 1 "_law_draw" gL):∃tt,PSs (XO P w K mg base f cdv A outer s H0 E) (bFill.drop 1) tt/\
  ∀(D:dR)(o5 o6 o7 o8:Option V)(p lr:Addr)(m:Int)(w n:Nat)(pre:List (List Int))(last:List Int)(rs:List Addr)(H H':Hp),PenAt H p->H lr=none->lr≠p->0<w->last.length=w->LwA p lr H H' rs (pre++[last])->
   (∀o5' v rs' H2,0<=v->v<=99->LwA p lr H H2 rs' (pre++[last.set (n%w) v])->D.nx [some (.ref p),some (.int m),some (.int w),some (.ref lr),some (.int (n:Nat)),o5',o6,o7,o8] H2)->
   tt D [some (.ref p),some (.int m),some (.int w),some (.ref lr),some (.int (n:Nat)),o5,o6,o7,o8] H':=by
 have nd:=scLo.nd;refine⟨_,aU (bX (i:=5) nd rfl (Or.inl rfl) (cX (dF (bG eT aV (aD.c hr (aG (pv 0) (bZ aV aB)))) (cG (aD.c hr (aG (pv 0) (bZ aV aB))) aB))))<|
  aM (eO (bJ eR (pv 5) (fC vN rfl TC.int boot_int (A97 (eW eG (aD.c hr (aG (pv 0) (bZ aV aB))) aV (nomark _)) aB)) (λ_ _=>rfl)) (tO (bJ eR (pv 3) (jW jL aV) (λ_ _=>rfl)) (bG gX (pv 4) (pv 2)) rG)),?_⟩
 intro D o5 o6 o7 o8 p lr m w' n pre last rs H H' pen hlr nlr hw hll X k;refine⟨_,rfl,p,3,rfl,X.st.pen,by decide,by decide,λd1 H1 a1 a2 st1=> ?_⟩;have X1:=X.stp nlr st1;refine⟨_,_,rfl,rfl,_,rfl,p,30,rfl,X1.st.pen,by decide,by decide,λd2 H2 b1 b2 st2=> ?_⟩;have X2:=X1.stp nlr st2;refine⟨by show 2<=sizeLine;decide,λlw hlw=> ?_⟩;have X3:=X2.same (aQ (o:=.lst [.int (1+d1),.int d2]) hlw);have elw:(upd H2 lw (.lst [.int (1+d1),.int d2])) lw=some (.lst [.int (1+d1),.int d2]):=aJ;have nlw:lw≠p:=X2.st.pen.fresh hlw;generalize upd H2 lw (.lst [.int (1+d1),.int d2])=H3 at X3 elw⊢;refine⟨_,rfl,_,rfl,p,4,rfl,X3.st.pen,by decide,by decide,λd3 H4 c1 c2 st4=> ?_⟩;have X4:=X3.stp nlr st4;have elw4:=st4.keep _ _ nlw elw;obtain⟨rp,rl,ers,hrp,hrl⟩:=A1x X4.r;have fin:∀v:Int,0<=v->v<=99->LwA p lr H (upd H4 rl (.lst ((last.map V.int).set (n%w') (.int v)))) rs (pre++[last.set (n%w') v]):=λv v0 v1=>by
  have hmem:rl∈rs:=by rw[ers];exact mem_append_right _ zjR
  obtain⟨f1,f2,f3⟩:=X4.f rl hmem;refine⟨X4.st.updO f1 pen,by rw[aY (Ne.symm f2)];exact X4.l,?_,X4.n,X4.f⟩;have hn:=X4.n;rw[ers,nodup_append]at hn;rw[ers];refine Paired.snoc ?_ (by rw[aJ,List.map_set]);have key:∀{rp:List Addr}{pre:List (List Int)},LsA H4 rp pre->(∀r∈rp,r≠rl)->LsA (upd H4 rl (.lst ((last.map V.int).set (n%w') (.int v)))) rp pre:=by
   intro rp pre h
   induction h with
   |nil=>intro _;exact .nil
   |cons r t ih=>intro hn;exact .cons (by rw[aY (hn _ zjR)];exact r) (ih λr hr=>hn r (zjS _ hr))
  exact key hrp λr hr=>hn.2.2 r hr rl zjR
 have hmod:((n:Int)%(w':Int))=((n%w':Nat):Int):=(Int.natCast_emod n w').symm;have hlt:n%w'<w':=mod_lt _ hw;have put:∀v:Int,0<=v->v<=99->∃(pp:Addr)(xs:List V)(kk:Int)(j:Nat),V.ref rl= .ref pp/\V.int ((n:Int)%(w':Int))= .int kk/\H4 pp=some (.lst xs)/\ixN xs.length kk=some j/\D.nx [some (.ref p),some (.int m),some (.int w'),some (.ref lr),some (.int (n:Nat)),some (.ref lw),o6,o7,o8] (upd H4 pp (.lst (xs.set j (.int v)))):=λv v0 v1=>by
  refine⟨rl,last.map V.int,_,n%w',rfl,rfl,hrl,?_,k _ v rs _ v0 v1 (fin v v0 v1)⟩;unfold ixN;rw[hmod,if_pos (by omega),if_pos (by rw[length_map,hll];omega)];rfl
 have hrows:atI (rs.map V.ref) (-1)=some (V.ref rl):=by rw[ers];exact A9g
 refine⟨rfl,.inr ⟨_,rfl,?_⟩⟩;have hd:decide (V.int d3=V.int 0)=decide (d3=0):=decide_eq_decide.mpr ⟨λz=>V.int.inj z,λz=>by rw[z]⟩;rw[hd];by_cases z:d3=0
 ·rw[zjV z];refine⟨lw,_,1,.int d2,rfl,rfl,SqL.of elw4,cB (j:=1) rfl,?_⟩;exact⟨_,rfl,_,rfl,lr,_,-1,.ref rl,rfl,rfl,SqL.of X4.l,hrows,_,rfl,_,rfl,_,_,rfl,rfl,by omega,put d2 b1 (by omega)⟩
 ·rw[zjU z];refine⟨lw,_,0,.int (1+d1),rfl,rfl,SqL.of elw4,cB (j:=0) rfl,?_⟩;exact⟨_,rfl,_,rfl,lr,_,-1,.ref rl,rfl,rfl,SqL.of X4.l,hrows,_,rfl,_,rfl,_,_,rfl,rfl,by omega,put (1+d1) (by omega) (by omega)⟩
end
theorem yZ (n:Nat)(x:Int):(replicate n [V.int x]).flatten=(replicate n x).map V.int:=by
 induction n with
 |zero=>rfl
 |succ n ih=>rw[replicate_succ,flatten_cons,ih,replicate_succ];rfl
section
variable {P:Program}{w:World}{K:W.Frag}{mg:Str->Option Value}{base:Heap}
section
variable {f:Addr}{cdv:Value}{A:Around}{outer:List Env}{s:Shared}{H0:Hp}{E:XK}
theorem B01 (TC:TxC mg)(hr:Room 1 (XO P w K mg base f cdv A outer s H0 E).A)(aD:A1 P w K mg base 1 "_law_draw" gL):∃tt,PSs (XO P w K mg base f cdv A outer s H0 E) bFill tt/\
  ∀(D:dR)(o5 o6 o7 o8:Option V)(p lr:Addr)(m:Int)(w:Nat)(vs:List Int)(rs:List Addr)(H H':Hp),PenAt H p->H lr=none->lr≠p->(w=3\/w=4)->vs.length<6->LwA p lr H H' rs (bF w vs)->
   (∀o5' v rs' H2,0<=v->v<=99->LwA p lr H H2 rs' (bF w (vs++[v]))->D.nx [some (.ref p),some (.int m),some (.int w),some (.ref lr),some (.int (vs.length:Nat)),o5',o6,o7,o8] H2)->
   tt D [some (.ref p),some (.int m),some (.int w),some (.ref lr),some (.int (vs.length:Nat)),o5,o6,o7,o8] H':=by
 have nd:=scLo.nd;obtain⟨tb,hb,rb⟩:=A2l (P:=P) (w:=w) (K:=K) (mg:=mg) (base:=base) (f:=f) (cdv:=cdv) (A:=A) (outer:=outer) (s:=s) (H0:=H0) (E:=E) TC hr aD;have eb:bFill=bFill.getD 0 pNo::bFill.drop 1:=rfl;rw[eb];generalize bFill.drop 1=S1 at hb;refine⟨_,aU (bK (bV eG (bG gX (pv 4) (pv 2)) aV (nomark _)) (aM (cK (gI PySem.F.plainAttrs_list PySem.F.slot_list_append PySem.F.type_list_append iA (pv 3) (dF (bG xN (cX (rP (jW jL aV) aB)) (pv 2)) aB)))) bL) hb,?_⟩;intro D o5 o6 o7 o8 p lr m w' vs rs H H' pen hlr nlr hw hn X k;obtain⟨pre,last,eB,hll,eN⟩:=A5u hw hn;have hwp:0<w':=by omega
 have hmod:((vs.length:Int)%(w':Int))=((vs.length%w':Nat):Int):=(Int.natCast_emod _ _).symm;have go:∀(rs:List Addr)(H1:Hp),LwA p lr H H1 rs (pre++[last])->tb D [some (.ref p),some (.int m),some (.int w'),some (.ref lr),some (.int (vs.length:Nat)),o5,o6,o7,o8] H1:=λrs H1 X1=>
  rb D o5 o6 o7 o8 p lr m w' vs.length pre last rs H H1 pen hlr nlr hwp hll X1 λo5' v rs' H2 v0 v1 X2=>k o5' v rs' H2 v0 v1 (by rw[eN];exact X2)
 refine⟨_,rfl,_,rfl,_,_,rfl,rfl,by omega,rfl,_,rfl,?_⟩;have ed:decide (V.int ((vs.length:Int)%(w':Int))=V.int 0)=decide (vs.length%w'=0):=by
  rw[hmod];exact decide_eq_decide.mpr ⟨λz=>by have:=V.int.inj z;omega,λz=>by rw[z];rfl⟩
 rw[ed];refine dW (λe=> ?_) λe=> ?_
 ·rw[if_pos e]at eB;refine⟨_,rfl,.inl ⟨rfl,_,SqL.of X.l⟩,_,rfl,by show 1<=sizeLine;decide,λl1 hl1=> ?_⟩;have X1:=X.same (aQ (o:=.lst [.int (-1*2)]) hl1);have s1:Same H' (upd H' l1 (.lst [V.int (-2)])):=aQ hl1;refine⟨_,rfl,l1,(w':Int),_,rfl,rfl,aJ,by omega,by omega,by rw[sizeLine_eq,Int.toNat_natCast];show 1*w'<=_;omega,λr0 hr0=> ?_⟩;have X2:=(X.same s1).same (aQ (o:=.lst (replicate ((w':Int)).toNat [V.int (-2)]).flatten) hr0);have er0:(upd (upd H' l1 (.lst [V.int (-2)])) r0 (.lst (replicate ((w':Int)).toNat [V.int (-2)]).flatten)) r0=some (.lst ((replicate w' (-2)).map V.int)):=by rw[aJ,Int.toNat_natCast,yZ]
  have hfr:H r0=none/\r0≠p:=(X.st.same s1).none hr0;have nr0:r0≠lr:=λz=>by rw[z,s1 _ _ X.l]at hr0;cases hr0
  have nmem:∀r∈rs,r≠r0:=λr hr z=>by
   obtain⟨i,hi⟩:=mem_iff_getElem?.mp hr;obtain⟨row,_,er⟩:=gE X.r hi;rw[z]at er;rw[s1 _ _ er]at hr0;cases hr0
  have hrl:rs.length<=1000:=by
   have h1:rs.length=_:=Paired.length X.r;have h2:=congrArg List.length eB;unfold bF at h1;rw[length_cons,length_map,length_range]at h1;have:(vs.length+w' - 1)/w'<=vs.length+w' - 1:=Nat.div_le_self _ _;omega
  generalize upd (upd H' l1 (.lst [V.int (-2)])) r0 (.lst (replicate ((w':Int)).toNat [V.int (-2)]).flatten)=H2 at X2 er0⊢;refine⟨lr,_,_,rfl,rfl,X2.l,bW (by rw[length_map];exact hrl),?_⟩;refine go (rs++[r0]) _ ⟨X2.st.updO hlr pen,by rw[aJ,map_append];rfl,?_,?_,λr hr=> ?_⟩
  ·rw[←eB];have ne:∀{b u},H2 b=some (.lst u)->b≠lr->(upd H2 lr (.lst (rs.map V.ref++[.ref r0]))) b=some (.lst u):=λh n=>by rw[aY n];exact h
   refine Paired.snoc ?_ (ne er0 nr0);have key:∀{rp:List Addr}{pre:List (List Int)},LsA H2 rp pre->(∀r∈rp,r≠lr)->LsA (upd H2 lr (.lst (rs.map V.ref++[.ref r0]))) rp pre:=by
    intro rp pre h
    induction h with
    |nil=>intro _;exact .nil
    |cons r t ih=>intro hn;exact .cons (ne r (hn _ zjR)) (ih λr hr=>hn r (zjS _ hr))
   exact key X2.r λr hr=>(X2.f r hr).2.1
  ·rw[nodup_append];exact⟨X2.n,by simp,λa ha b hb e=>nmem a ha (by rw[e,mem_singleton.mp hb])⟩
  ·rcases mem_append.mp hr with h|h
   ·exact X2.f r h
   ·rw[mem_singleton.mp h];exact⟨hfr.1,nr0,hfr.2⟩
 ·rw[if_neg e]at eB;refine go rs H' ?_;rw[←eB];exact X
end
end
noncomputable abbrev bEnd:List Stmt:=(dG fJ).drop 6
theorem A5e:(["_law_row"]:List Str).Nodup:=by decide +kernel
structure Cl0 (n:Nat)(cl:List C3):Prop where
 l:cl.length<=n
 b:∀c∈cl,0<=c.1/\c.1<n/\c.2.1=0/\1<=c.2.2/\c.2.2<=3
 up:cl.Pairwise λa b=>a.1<b.1
theorem Cl0.ok (h:Cl0 4 cl)(h1:1<=cl.length):gJ (cl.take 3)/\(∀c∈cl.take 3,c.2.1=0)/\(cl.take 3).length<=3:=by
 have hl:(cl.take 3).length=min 3 cl.length:=length_take;have hm:∀c∈cl.take 3,c∈cl:=λc hc=>mem_of_mem_take hc;have hp:(cl.take 3).Pairwise λa b=>a.1<b.1:=h.up.sublist (take_sublist 3 cl);refine⟨⟨by omega,by omega,λc hc=> ?_,?_⟩,λc hc=>(h.b c (hm c hc)).2.2.1,by omega⟩
 ·have:=h.b c (hm c hc);omega
 ·rw[pairwise_map];refine hp.imp fun{a b} z=> ?_;unfold lt2 nS;rw[HT.lexLt_cons,if_neg (by show a.1≠b.1;omega)];exact zjV z
theorem B16 (xs:List V):cutV xs none (some 3)=xs.take 3:=by
 have e1:HT.sIx xs.length xs.length (some 3)=min 3 xs.length:=HT.sIx_nat _ _ 3;have e2:HT.sIx xs.length 0 none=0:=rfl;unfold cutV;rw[e1,e2,drop_zero,Nat.sub_zero];by_cases h:3<=xs.length
 ·rw[Nat.min_eq_left h]
 ·rw[take_of_length_le (by omega),take_of_length_le (by omega)]
theorem wK:∀{n:Nat}{xs:List α}{ys:List β},Paired F xs ys->Paired F (xs.take n) (ys.take n)
 |0,_,_,_=>by rw[take_zero,take_zero];exact .nil
 |_+1,_,_,.nil=> .nil
 |n+1,_,_,.cons r t=> .cons r (wK (n:=n) t)
section
variable {P:Program}{w:World}{K:W.Frag}{mg:Str->Option Value}{base:Heap}
variable {f:Addr}{cdv:Value}{A:Around}{outer:List Env}{s:Shared}{H0:Hp}{E:XK}
theorem B08 (TC:TxC mg)(hr:Room 1 (XO P w K mg base f cdv A outer s H0 E).A)(aD:A1 P w K mg base 1 "_law_draw" gL):∃tt,PSs (XO P w K mg base f cdv A outer s H0 E) bEnd tt/\
  ∀(D:dR)(o1 o2 o4 o5 o7 o8:Option V)(p lr lc:Addr)(w:Nat)(g:bI)(rs bs:List Addr)(cl:List C3)(H H':Hp),Stp p H H'->H' lr=some (.lst (rs.map V.ref))->LsA H' rs g->H' lc=some (.lst (bs.map V.ref))->lc≠p->ClP H' bs cl->Cl0 4 cl->1<=cl.length->cU g w->w<=4->g.length<=3->dE g<=6->
   (∀t cs cl od H2,Stp p H H2->PleA H2 t g w cs cl od->cl.length<=3->D.rt (.ref t) H2)->
   tt D [some (.ref p),o1,o2,some (.ref lr),o4,o5,some (.ref lc),o7,o8] H':=by
 have nd:=scLo.nd;refine⟨_,aU (iF (i:=7) (j:=8) rfl nd rfl rfl (by decide) rfl rfl (cG (fC gD rfl TC.tuple boot_tuple (cO (bN (bB fJ).names nLo ["_law_row"] [] rfl (cV (pv 3)) rfl rfl rfl (by decide +kernel)
   (λZ=>nm1 0 A5e) (λZ=>cF) (λZ=>fC gD rfl TC.tuple boot_tuple (aG (pv 0) aB))) aB)) (eX (bJ eR (cX (bZ aV (bZ aV (bZ aV aB)))) (aD.c hr (aG (pv 0) (bZ aV aB))) (λ_ _=>rfl)) aB)) rfl)<|
  aM (bC (dC (aG (pv 7) (gH (dC (dF (bG eT aV (aD.c hr (aG (pv 0) (bZ aV aB)))) aB)) (cG (fC gD rfl TC.tuple boot_tuple (eX (jV jY (pv 6) nL (gZ aV)) aB)) (aG (pv 8) aB)))))),?_⟩
 intro D o1 o2 o4 o5 o7 o8 p lr lc w' g rs bs cl H H' st elr hLs elc nlc hC C0 hc1 G w4 g3 c6 k;have hrl:rs.length=g.length:=Paired.length hLs;refine⟨_,rfl,lr,rfl,⟨_,SqL.of elr⟩,λZ l hl=> ?_⟩;refine dI (K:=K) (a:=lr) (xs:=rs.map V.ref) (λi σ H2=>(∃o,σ=[o])/\Same H' H2/\∃ts:List Addr,H2 l=some (.lst (ts.map V.ref))/\RowsG H2 ts (g.take i)) ⟨⟨_,rfl⟩,aQ hl,[],by rw[aJ];rfl,.nil⟩ (λi σ H2 _ h=>SqL.of (h.2.1 _ _ elr)) ?_ ?_
 ·rintro i x σ H2 hx ⟨⟨o,rfl⟩,s2,ts,el2,hG⟩;obtain⟨r,hri,rfl⟩:=eI hx;obtain⟨row,hgi,er⟩:=gE hLs hri;have hi:i<g.length:=(zjW.mp hgi).1;have htl:ts.length=_:=Paired.length hG;rw[length_take]at htl;refine iX ⟨_,rfl,r,row.map V.int,rfl,.inl ⟨SqL.of (s2 _ _ er),λt ht=> ?_⟩⟩;have u:=aQ (o:=.tup (row.map V.int)) ht;have ntl:t≠l:=λz=>by rw[z,el2]at ht;cases ht
  refine⟨_,u _ _ el2,bW (by rw[length_map];omega),⟨_,rfl⟩,λb' u' e'=> ?_,ts++[t],by rw[aJ,map_append];rfl,?_⟩
  ·rw[aY (bH e' hl)];exact u _ _ (s2 _ _ e')
  ·rw[take_succ,hgi];exact Paired.snoc (hG.ext (u.ext.trans (Ext.updL (u _ _ el2)))) (by rw[aY ntl,aJ])
 ·rintro σ H2 ⟨⟨o,rfl⟩,s2,ts,el2,hG⟩;rw[length_map,hrl,take_of_length_le (zjQ _)]at hG;refine⟨l,_,rfl,.inl ⟨SqL.of el2,λm hm=> ?_⟩⟩;have u3:=aQ (o:=.tup (ts.map V.ref)) hm;have hM:GridAt (upd H2 m (.tup (ts.map V.ref))) m g:=⟨ts,aJ,hG.ext u3.ext⟩;have s3:=s2.trans u3;generalize upd H2 m (.tup (ts.map V.ref))=H3 at hM s3⊢;refine⟨by show 3<=sizeLine;decide,λlo hlo=> ?_⟩;have u4:=aQ (o:=.lst [.int 4,.int 9,.int 999]) hlo;have e4:(upd H3 lo (.lst [.int 4,.int 9,.int 999])) lo=some (.lst [.int 4,.int 9,.int 999]):=aJ;have nlo:lo≠p:=(st.same s3).pen.fresh hlo;have s4:=s3.trans u4;have hM4:=hM.ext u4.ext;generalize upd H3 lo (.lst [.int 4,.int 9,.int 999])=H4 at e4 s4 hM4⊢;have st4:=st.same s4;refine⟨_,rfl,p,3,rfl,st4.pen,by decide,by decide,λd1 H5 a1 a2 st5=> ?_⟩;obtain⟨od,hod,od0,od9⟩:∃od:Int,atI [V.int 4,.int 9,.int 999] d1=some (.int od)/\0<=od/\od<=999:=by
   have:d1=((0:Nat):Int)\/d1=((1:Nat):Int)\/d1=((2:Nat):Int):=by omega
   rcases this with z|z|z
   ·exact⟨4,by rw[z];exact cB (j:=0) rfl,by decide,by decide⟩
   ·exact⟨9,by rw[z];exact cB (j:=1) rfl,by decide,by decide⟩
   ·exact⟨999,by rw[z];exact cB (j:=2) rfl,by decide,by decide⟩
  refine⟨lo,_,d1,.int od,rfl,rfl,SqL.of (st5.keep _ _ nlo e4),hod,?_⟩;have x5:=st5.ext st4.pen;have hM5:=hM4.ext x5;have st45:=st4.trans st5;have elc5:=st5.keep _ _ nlc (s4 _ _ elc);have hC5:=hC.ext (s4.ext.trans x5);refine⟨_,_,rfl,?_⟩;refine⟨_,rfl,_,rfl,p,3,rfl,st45.pen,by decide,by decide,λd2 H6 b1 b2 st6=> ?_⟩;have x6:=st6.ext st45.pen;have st46:=st45.trans st6;refine⟨_,_,rfl,rfl,by show 1<=sizeLine;decide,λc hc=> ?_⟩;have u7:=aQ (o:=.tup [.int (1+d2)]) hc;have ec:(upd H6 c (.tup [.int (1+d2)])) c=some (.tup [.int (1+d2)]):=aJ;have elc7:=u7 _ _ (st6.keep _ _ nlc elc5);have hM7:=(hM5.ext x6).ext u7.ext;have hC7:=(hC5.ext x6).ext u7.ext;have st7:=st46.same u7;generalize upd H6 c (.tup [.int (1+d2)])=H7 at ec elc7 hM7 hC7 st7⊢;refine⟨_,rfl,_,rfl,lc,_,rfl,SqL.of elc7,λl8 hl8=> ?_⟩;rw[B16,←List.map_take];have u8:=aQ (o:=.lst ((bs.take 3).map V.ref)) hl8;refine⟨l8,_,rfl,.inl ⟨SqL.of aJ,λa ha=> ?_⟩⟩;have u9:=aQ (o:=.tup ((bs.take 3).map V.ref)) ha;have ea:(upd (upd H7 l8 (.lst ((bs.take 3).map V.ref))) a (.tup ((bs.take 3).map V.ref))) a=some (.tup ((bs.take 3).map V.ref)):=aJ;have s9:=u8.trans u9;generalize upd (upd H7 l8 (.lst ((bs.take 3).map V.ref))) a (.tup ((bs.take 3).map V.ref))=H9 at ea s9⊢;refine⟨_,rfl,by show 4<=sizeLine;decide,λt ht=> ?_⟩;have ut:=aQ (o:=.tup [.ref m,.ref c,.ref a,.int od]) ht;obtain⟨ok1,ok2,ok3⟩:=C0.ok hc1;refine k t [1+d2] (cl.take 3) od _ ((st7.same s9).same ut) ⟨G,w4,g3,c6,⟨by show 1<=1;decide,by show 1<=6;decide,λx hx=> ?_⟩,ok1,λc hc=> ?_,⟨od0,od9⟩,m,c,a,aJ,(hM7.ext s9.ext).ext ut.ext,ut _ _ (s9 _ _ ec),bs.take 3,ut _ _ ea,ClP.ext (ClP.ext (wK hC7) s9.ext) ut.ext⟩ ok3
  ·rw[mem_singleton.mp hx];omega
  ·rw[ok2 c hc];show(0:Int)<((1:Nat):Int);decide
end
noncomputable abbrev bTail:List Stmt:=(dG fJ).drop 4
theorem A80:(["_law_holder","_law_pen_here"]:List Str).Nodup:=by decide +kernel
theorem Cl0.snoc (h:Cl0 n cl)(m1:1<=m)(m3:m<=3):Cl0 (n+1) (cl++[((n:Int),0,m)]):=by
 refine⟨by rw[length_append,length_singleton];have:=h.l;omega,λc hc=> ?_,?_⟩
 ·rcases mem_append.mp hc with z|z
  ·have:=h.b c z;omega
  ·rw[mem_singleton.mp z];show(0:Int)<=(n:Int)/\(n:Int)<((n+1:Nat):Int)/\(0:Int)=0/\1<=m/\m<=3;omega
 ·rw[pairwise_append];refine⟨h.up,pairwise_singleton _ _,λa ha b hb=> ?_⟩;rw[mem_singleton.mp hb];exact(h.b a ha).2.1
theorem Cl0.up1 (h:Cl0 n cl):Cl0 (n+1) cl:=⟨Nat.le_succ_of_le h.l,λc hc=>by have:=h.b c hc;omega,h.up⟩
section
variable {P:Program}{w:World}{K:W.Frag}{mg:Str->Option Value}{base:Heap}
variable {f:Addr}{cdv:Value}{A:Around}{outer:List Env}{s:Shared}{H0:Hp}{E:XK}
theorem B1x (TC:TxC mg)(hr:Room 1 (XO P w K mg base f cdv A outer s H0 E).A)(aD:A1 P w K mg base 1 "_law_draw" gL):∃tt,PSs (XO P w K mg base f cdv A outer s H0 E) bTail tt/\
  ∀(D:dR)(o1 o2 o4 o5 o6 o7 o8:Option V)(p lr:Addr)(w:Nat)(g:bI)(rs:List Addr)(H H':Hp),PenAt H p->Stp p H H'->H' lr=some (.lst (rs.map V.ref))->lr≠p->LsA H' rs g->(∀r∈rs,r≠p)->cU g w->w<=4->g.length<=3->dE g<=6->
   (∀t cs cl od H2,Stp p H H2->PleA H2 t g w cs cl od->cl.length<=3->D.rt (.ref t) H2)->
   tt D [some (.ref p),o1,o2,some (.ref lr),o4,o5,o6,o7,o8] H':=by
 have nd:=scLo.nd;obtain⟨tb,hb,rb⟩:=B08 (P:=P) (w:=w) (K:=K) (mg:=mg) (base:=base) (f:=f) (cdv:=cdv) (A:=A) (outer:=outer) (s:=s) (H0:=H0) (E:=E) TC hr aD;have eb:bTail=bTail.getD 0 pNo::bTail.getD 1 pNo::bEnd:=rfl;rw[eb];generalize bEnd=S1 at hb;refine⟨_,aU (rR (i:=6) (bB fJ).names nLo ["_law_holder"] [("_law_pen_here",0)] rfl nd rfl rfl (kX rfl TC.range (bZ aV aB)) rfl rfl rfl (by decide +kernel)
   (λZ=>nm1 0 A80) (λZ=>eP (bV eG (aD.c hr (aG (pv 1) (bZ aV aB))) aV (nomark _))) (λZ=>dC (aG (pv 0) (bZ aV (dF (bG eT aV (aD.c hr (aG (pv 1) (bZ aV aB)))) aB)))))<|
  aU (bK (bV (A01 1 (eL hr)) (pv 6) (cX aB) (nomark _))
   (aM (bX (i:=6) nd rfl (Or.inl rfl) (cX (gH (dC (cG (aD.c hr (aG (pv 0) (bZ aV aB))) (bZ aV (bZ aV aB)))) aB)))) bL) hb,?_⟩
 intro D o1 o2 o4 o5 o6 o7 o8 p lr w' g rs H H' pen st elr nlr hLs hrs G w4 g3 c6 k;refine⟨4,rfl,by decide,by decide,λZ l hl=> ?_⟩;obtain⟨hHl,nlp⟩:=st.none hl;have keepL:∀{H2:Hp}{rs:List Addr}{g:List (List Int)},Stp p H' H2->LsA H' rs g->(∀r∈rs,r≠p)->LsA H2 rs g:=by
  intro H2 rs g sx h
  induction h with
  |nil=>intro _;exact .nil
  |cons r t ih=>intro hn;exact .cons (sx.keep _ _ (hn _ zjR) r) (ih λr hr=>hn r (zjS _ hr))
 refine lQ (lo:=0) (n:=4) (λi σ H2=>(∃o,σ=[o,some (.ref p)])/\Stp p H' H2/\∃(bs:List Addr)(cl:List C3),H2 l=some (.lst (bs.map V.ref))/\ClP H2 bs cl/\Cl0 i cl) ⟨⟨_,rfl⟩,(Stp.refl st.pen).same (aQ hl),[],[],by rw[aJ];rfl,.nil,⟨zjQ _,(λc hc=>by cases hc),.nil⟩⟩ ?_ ?_
 ·rintro i σ H2 hi ⟨⟨o,rfl⟩,st2,bs,cl,el,hC,C0⟩;refine⟨_,rfl,p,2,rfl,st2.pen,by decide,by decide,λd H3 a1 a2 st3=> ?_⟩;have x3:=st3.ext st2.pen;have el3:=st3.keep _ _ nlp el;have st23:=st2.trans st3;have hbl:bs.length=cl.length:=Paired.length hC;have hcl:=C0.l;refine⟨rfl,_,rfl,dW (λe=> ?_) λe=> ?_⟩
  ·refine⟨_,rfl,_,rfl,p,3,rfl,st23.pen,by decide,by decide,λd2 H4 b1 b2 st4=> ?_⟩;have x4:=st4.ext st23.pen;refine⟨_,_,rfl,rfl,by show 3<=sizeLine;decide,λt ht=> ?_⟩;have u:=aQ (o:=.tup [.int (0+(i:Int)),.int 0,.int (1+d2)]) ht;have el4:=u _ _ (st4.keep _ _ nlp el3);have ntl:t≠l:=λz=>by rw[z,st4.keep _ _ nlp el3]at ht;cases ht
   refine⟨_,el4,bW (by rw[length_map];omega),⟨_,rfl⟩,((st23.trans st4).same u).updO hl st.pen,bs++[t],cl++[((i:Int),0,1+d2)],by rw[aJ,map_append];rfl,?_,C0.snoc (by omega) (by omega)⟩;refine Paired.snoc (hC.ext (((x3.trans x4).trans u.ext).trans (Ext.updL el4))) ?_;rw[aY ntl,aJ,Int.zero_add]
  ·exact⟨⟨_,rfl⟩,st23,bs,cl,el3,hC.ext x3,C0.up1⟩
 ·rintro σ H2 ⟨⟨o,rfl⟩,st2,bs,cl,el,hC,C0⟩;have hbl:bs.length=cl.length:=Paired.length hC;refine⟨_,rfl,by show 0<=sizeLine;decide,λl0 hl0=> ?_⟩;have u0:=aQ (o:=.lst []) hl0;refine⟨l,l0,_,[],rfl,rfl,u0 _ _ el,aJ,?_⟩;have st3:=st2.same u0;have el3:=u0 _ _ el;have hC3:=hC.ext u0.ext;generalize upd H2 l0 (.lst [])=H3 at st3 el3 hC3⊢;cases cl with
  |nil=>
   obtain rfl:bs=[]:=eq_nil_of_length_eq_zero hbl
   right
   refine⟨[],trivial,_,rfl,fM ?_⟩;refine⟨_,rfl,p,4,rfl,st3.pen,by decide,by decide,λd H4 a1 a2 st4=> ?_⟩;have st34:=st3.trans st4;refine⟨by show 3<=sizeLine;decide,λt ht=> ?_⟩;have u1:=aQ (o:=.tup [.int d,.int 0,.int 2]) ht;have et:(upd H4 t (.tup [.int d,.int 0,.int 2])) t=some (.tup [.int d,.int 0,.int 2]):=aJ;generalize upd H4 t (.tup [.int d,.int 0,.int 2])=H5 at u1 et⊢;refine⟨by show 1<=sizeLine;decide,λl2 hl2=> ?_⟩;have u2:=aQ (o:=.lst [.ref t]) hl2;have sA:=st34.same (u1.trans u2);refine rb _ _ _ _ _ _ _ p lr l2 w' g rs [t] [(d,0,2)] H _ (st.trans sA) (sA.keep _ _ nlr elr) (keepL sA hLs hrs) aJ ((st34.same u1).pen.fresh hl2) (.cons (u2 _ _ et) .nil) ⟨by show 1<=4;decide,λc hc=> ?_,pairwise_singleton _ _⟩ (by show 1<=1;decide) G w4 g3 c6 k;rw[mem_singleton.mp hc];show 0<=d/\d<((4:Nat):Int)/\(0:Int)=0/\(1:Int)<=2/\(2:Int)<=3;omega
  |cons c0 cl=>
   left
   refine⟨λz=> ?_,_,rfl,bQ ?_⟩
   ·rw[length_map,hbl]at z;cases z
   ·exact rb _ _ _ _ _ _ _ p lr l w' g rs bs (c0::cl) H _ (st.trans st3) (st3.keep _ _ nlr elr) (keepL st3 hLs hrs) el3 nlp hC3 C0 (by rw[length_cons];omega) G w4 g3 c6 k
end
noncomputable def tM:Sp:=λvs H Q _=> ∃p,vs=[.ref p]/\PenAt H p/\∀t g w cs cl od H',Stp p H H'->PleA H' t g w cs cl od->cl.length<=3->Q (.ref t) H'
theorem A6j:∀{xs:List α},xs.length=3->∃a b c,xs=[a,b,c]
 | [a,b,c],_=> ⟨a,b,c,rfl⟩
 | [],h=>by cases h
 | [_],h=>by cases h
 | [_,_],h=>by cases h
 |_::_::_::_::_,h=>by simp at h
theorem A5n (h:(bF w vs).length=2):cJ w vs=bF w vs:=by
 unfold cJ
 split
 ·rename_i e;rw[e]at h;cases h
 ·rfl
section
variable {P:Program}{w:World}{K:W.Frag}{mg:Str->Option Value}{base:Heap}
theorem A9j (F:D1 K mg "_law_loose" fJ ["_law_pen_here"])(TC:TxC mg)(aD:A1 P w K mg base 1 "_law_draw" gL):A1 P w K mg base 2 "_law_loose" tM:=by
 refine F.k nLo ?_;ac_nf
 ·obtain⟨p,rfl,pen,q⟩:=h;obtain⟨tf,hf,rf⟩:=B01 (P:=P) (w:=w) (K:=K) (mg:=mg) (base:=base) (f:=f) (cdv:=cdv) (A:=A) (outer:=outer) (s:=s) (H0:=H) (E:=E) TC hr aD;obtain⟨tb,hb,rb⟩:=B1x (P:=P) (w:=w) (K:=K) (mg:=mg) (base:=base) (f:=f) (cdv:=cdv) (A:=A) (outer:=outer) (s:=s) (H0:=H) (E:=E) TC hr aD;have eb:dG fJ=(dG fJ).getD 0 pNo::(dG fJ).getD 1 pNo::(dG fJ).getD 2 pNo::(dG fJ).getD 3 pNo::bTail:=rfl;rw[eb];generalize bTail=S1 at hb;refine⟨_,aU (iF (i:=1) (j:=2) rfl nd rfl rfl (by decide) rfl rfl (dF (bG eT aV (aD.c hr (aG (pv 0) (bZ aV aB)))) (dF (bG eT aV (aD.c hr (aG (pv 0) (bZ aV aB)))) aB)) rfl)<|
   aU (bX (i:=3) nd rfl (Or.inl rfl) (cX (dF (bG xN (cX (rP (jW jL aV) aB)) (pv 2)) aB)))<|
   aU (dX PassesOwn.never rfl (kX rfl TC.range (aG (pv 1) aB)) (nm1 4 nd) hf)<|
   aU (bK (bV eG (bE fF rfl TC.len PySem.boot_len (aG (pv 3) aB)) aV (nomark _)) (aM (bX (i:=3) nd rfl (Or.inl rfl) (cX (eX (bJ eR (pv 3) aV (λ_ _=>rfl)) (eX (bJ eR (pv 3) aV (λ_ _=>rfl)) (eX (bJ eR (pv 3) aV (λ_ _=>rfl)) aB)))))) bL) hb,?_⟩
  refine⟨_,rfl,p,5,rfl,pen,by decide,by decide,λd1 H1 a1 a2 st1=> ⟨_,_,rfl,rfl,?_⟩⟩;refine⟨_,rfl,p,2,rfl,st1.pen,by decide,by decide,λd2 H2 b1 b2 st2=> ⟨_,_,rfl,rfl,?_⟩⟩;obtain⟨w',hw',hw⟩:∃w':Nat,3+d2=(w':Int)/\(w'=3\/w'=4):=⟨(3+d2).toNat,by omega,by omega⟩;obtain⟨m,hm,m2,m6⟩:∃m:Nat,2+d1=(m:Int)/\2<=m/\m<=6:=⟨(2+d1).toNat,by omega,by omega,by omega⟩;have st12:=st1.trans st2;refine⟨.int (m:Int),.int (w':Int),by show [V.int (2+d1),V.int (3+d2)]=_;rw[hw',hm],?_⟩;refine⟨_,rfl,by show 1<=sizeLine;decide,λl1 hl1=> ?_⟩;have s1:Same H2 (upd H2 l1 (.lst [V.int (-1)])):=aQ hl1;refine⟨_,rfl,l1,(w':Int),_,rfl,rfl,aJ,by omega,by omega,by rw[sizeLine_eq,Int.toNat_natCast];show 1*w'<=_;omega,λr0 hr0=> ?_⟩;have u2:Same _ (upd (upd H2 l1 (.lst [V.int (-1)])) r0 (.lst (replicate ((w':Int)).toNat [V.int (-1)]).flatten)):=aQ hr0;have er0:(upd (upd H2 l1 (.lst [V.int (-1)])) r0 (.lst (replicate ((w':Int)).toNat [V.int (-1)]).flatten)) r0=some (.lst ((replicate w' (-1)).map V.int)):=by rw[aJ,Int.toNat_natCast,yZ]
  obtain⟨hr0H,nr0⟩:=(st12.same s1).none hr0;have st3:=(st12.same s1).same u2;generalize upd (upd H2 l1 (.lst [V.int (-1)])) r0 (.lst (replicate ((w':Int)).toNat [V.int (-1)]).flatten)=H3 at er0 st3⊢;refine⟨by show 1<=sizeLine;decide,λlr hlr=> ?_⟩;have u4:=aQ (o:=.lst [.ref r0]) hlr;obtain⟨hlrH,nlr⟩:=st3.none hlr;have nr0l:r0≠lr:=bH er0 hlr;have X0:LwA p lr H (upd H3 lr (.lst [.ref r0])) [r0] (bF w' []):=by
   have e0:bF w' []=[replicate w' (-1)]:=by rcases hw with z|z<;>rw[z]<;>simp[bF]
   rw[e0];refine⟨st3.same u4,aJ,.cons (u4 _ _ er0) .nil,(by simp),λr hr=> ?_⟩;rw[mem_singleton.mp hr];exact⟨hr0H,nr0l,nr0⟩
  generalize upd H3 lr (.lst [.ref r0])=H4 at X0⊢;refine⟨_,rfl,(m:Int),rfl,by omega,by omega,?_⟩;refine lQ (lo:=0) (n:=((m:Int)).toNat) (λi σ H'=> ∃(vs:List Int)(rs:List Addr),(∃o4 o5,σ=[some (.ref p),some (.int (m:Int)),some (.int w'),some (.ref lr),o4,o5,none,none,none])/\vs.length=i/\LwA p lr H H' rs (bF w' vs)/\∀v∈vs,0<=v/\v<=99)
   ⟨[],[r0],⟨_,_,rfl⟩,rfl,X0,λv hv=>by cases hv⟩ ?_ ?_
  ·rintro i σ H' hi ⟨vs,rs,⟨o4,o5,rfl⟩,hvl,X,hv⟩;rw[Int.toNat_natCast]at hi;refine(?_:tf _ [some (.ref p),some (.int (m:Int)),some (.int w'),some (.ref lr),some (.int (0+(i:Int))),o5,none,none,none] H');rw[show(0:Int)+(i:Int)=((vs.length:Nat):Int) by omega];refine rf _ _ _ _ _ p lr m w' vs rs H H' pen hlrH nlr hw (by omega) X λo5' v rs' H5 v0 v1 X5=> ?_;refine⟨vs++[v],rs',⟨_,_,rfl⟩,by rw[length_append,hvl];rfl,X5,λx hx=> ?_⟩;rcases mem_append.mp hx with z|z
   ·exact hv x z
   ·rw[mem_singleton.mp z];exact⟨v0,v1⟩
  ·rintro σ H' ⟨vs,rs,⟨o4,o5,rfl⟩,hvl,X,hv⟩;rw[Int.toNat_natCast]at hvl;obtain⟨G,g3,c6,hl23⟩:=A3j hw (by omega) (by omega) hv;have hrl:rs.length=(bF w' vs).length:=Paired.length X.r;have w4:w'<=4:=by omega
   refine⟨_,rfl,lr,_,rfl,.inl (SqL.of X.l),rfl,_,rfl,dW (λe=> ?_) λe=> ?_⟩
   ·have e3:rs.length=3:=by have:=V.int.inj e;rw[length_map]at this;omega
    match rs,e3,X with
    | [ra,rc,rd],_,X=>
    obtain⟨a,b,c,e3'⟩:∃a b c,bF w' vs=[a,b,c]:=A6j (by rw[←hrl];rfl);have eg:cJ w' vs=[b,a,c]:=by unfold cJ;rw[e3']
    have hR:=X.r;rw[e3']at hR;obtain⟨ea,ec,ed⟩:H' ra=some (.lst (a.map V.int))/\H' rc=some (.lst (b.map V.int))/\H' rd=some (.lst (c.map V.int)):=by
     cases hR with
     |cons x1 t1=>cases t1 with
      |cons x2 t2=>cases t2 with
       |cons x3 t3=>exact⟨x1,x2,x3⟩
    refine⟨_,rfl,lr,_,1,.ref rc,rfl,rfl,SqL.of X.l,cB (j:=1) rfl,_,rfl,lr,_,0,.ref ra,rfl,rfl,SqL.of X.l,cB (j:=0) rfl,_,rfl,lr,_,2,.ref rd,rfl,rfl,SqL.of X.l,cB (j:=2) rfl,by show 3<=sizeLine;decide,λl2 hl2=> ?_⟩;have u5:=aQ (o:=.lst [.ref rc,.ref ra,.ref rd]) hl2;refine rb _ _ _ _ _ _ _ _ p l2 w' (cJ w' vs) [rc,ra,rd] H _ pen (X.st.same u5) aJ (X.st.pen.fresh hl2) ?_ (λr hr=> ?_) G w4 g3 c6 λt cs cl od H2 st pl c3=>q t _ _ cs cl od H2 st pl c3
    ·rw[eg];exact .cons (u5 _ _ ec) (.cons (u5 _ _ ea) (.cons (u5 _ _ ed) .nil))
    ·refine(X.f r ?_).2.2;simp only[mem_cons,not_mem_nil,or_false]at hr⊢;rcases hr with z|z|z<;>simp[z]
   ·have e2:(bF w' vs).length=2:=by
     rcases hl23 with z|z
     ·exact z
     ·exact absurd (by rw[length_map,hrl,z];rfl) e
    have eg:cJ w' vs=bF w' vs:=A5n e2;refine rb _ _ _ _ _ _ _ _ p lr w' (cJ w' vs) rs H _ pen X.st X.l nlr ?_ (λr hr=>(X.f r hr).2.2) G w4 g3 c6 λt cs cl od H2 st pl c3=>q t _ _ cs cl od H2 st pl c3;rw[eg];exact X.r
end
noncomputable def uU:Sp:=λvs H Q _=> ∃p h t g w cs cl od hs ks i,vs=[.ref p,.ref h,.ref t,.int i]/\PleA H p g w cs cl od/\SqA H h hs/\hs.length=4/\H t=some (.tup ((ks:List Int).map V.int))/\ks.length=(aN pos g).length/\0<=i/\i<=3/\bT g ks i≠[]/\∀H',Same H H'->Q (.int (dP g hs ks i)) H'
noncomputable abbrev nWy:List Str:=["_law_plea","_law_houses","_law_parting","_law_holder","_law_row","_law_column","_law_some","_law_cell_here","_law_own"]
theorem A2y (c d:Pl):fY c d=fY d c:=by unfold fY ab;omega
section
variable {P:Program}{w:World}{K:W.Frag}{mg:Str->Option Value}{base:Heap}
theorem A74 (F:D1 K mg "_law_way" zT ["_law_plea","_law_houses","_law_parting","_law_holder"])(T2:eE mg)(TH:TxH mg)(a1:A1 P w K mg base 1 "_law_cells" (eY pos)):A1 P w K mg base 2 "_law_way" uU:=by
 refine F.k nWy ?_;ac_nf
 ·obtain⟨p,h,t,g,w',cs,cl,od,hs,ks,i,rfl,D,hh,h4,ht,hl,i0,i3,hne,q⟩:=h;refine⟨_,aU (eO (bJ cA (pv 1) (pv 3) (λ_ _=>rfl)) (bP rfl (bA (nm1 4 nd) (bA (nm1 5 nd) bR))))<|
   aU (bX (i:=6) nd rfl (Or.inl rfl) (cX aB))<|
   aU (dX PassesOwn.never rfl (pL rfl T2.zip (cG (a1.c hr (eX (bJ cA (pv 0) aV (λ_ _=>rfl)) aB)) (aG (pv 2) aB))) (bP rfl (bA (nm1 7 nd) (bA (nm1 8 nd) bR)))
    (aM (bK (bV eG (pv 8) (pv 3) (nomark _)) (aM (cK (gI PySem.F.plainAttrs_list PySem.F.slot_list_append PySem.F.type_list_append iA (pv 6) (dF (bG eT (bE iH rfl T2.abs iK (dF (bG fK (bJ cA (pv 7) aV (λ_ _=>rfl)) (pv 4)) aB)) (bE iH rfl T2.abs iK (dF (bG fK (bJ cA (pv 7) aV (λ_ _=>rfl)) (pv 5)) aB))) aB)))) bL)))<|
   aM (bC (bE (xL rfl) rfl TH.min xB (aG (pv 6) aB))),?_⟩
  obtain⟨bs,hb,hB⟩:=id hh;have hbl:bs.length=hs.length:=Paired.length hB;obtain⟨n,rfl⟩:=Int.eq_ofNat_of_zero_le i0;have hnb:bs[n]?=some (bs[n]'(by omega)):=getElem?_eq_getElem (by omega);obtain⟨hc,ehc,ehb⟩:=hB.at hnb;have eg:hs.getD ((n:Nat):Int).toNat (0,0)=hc:=by rw[Int.toNat_natCast,getD_eq_getElem?_getD,ehc];rfl
  obtain⟨m,c,a,hp,hm,_,_⟩:=D.ex;have h10:(aN pos g).length<=10:=by rw[eU];exact D.G.c10
  refine⟨_,rfl,_,rfl,h,_,(n:Int),.ref (bs[n]'(by omega)),rfl,rfl,SqT.of hb,cB (by rw[getElem?_map,hnb];rfl),_,_,rfl,SqT.of ehb,rfl,_,_,rfl,_,_,rfl,rfl,?_⟩;refine⟨by show 0<=sizeLine;decide,λls hls=> ?_⟩;have u0:=aQ (o:=.lst []) hls;have els:(upd H ls (.lst [])) ls=some (.lst []):=aJ;generalize upd H ls (.lst [])=H1 at u0 els⊢;refine⟨_,rfl,p,_,0,_,rfl,rfl,SqT.of (u0 _ _ hp),rfl,m,g,w',rfl,hm.same u0,D.G,λH2 lc ps hlc s2 hlc2 hP=> ?_⟩;have hpl:ps.length=(aN pos g).length:=Paired.length hP;have sH:=u0.trans s2;have ht2:=sH _ _ ht;have els2:=s2 _ _ els;refine⟨_,rfl,lc,t,_,_,rfl,SqL.of hlc2,SqT.of ht2,?_⟩;refine lT (xs:=ps.map V.ref) (ys:=ks.map V.int) (by rw[length_map,length_map];omega)
   (λj σ H'=>(∃o7 o8,σ=[some (.ref p),some (.ref h),some (.ref t),some (.int (n:Int)),some (.int hc.1),some (.int hc.2),some (.ref ls),o7,o8])/\Sb ls H2 H'/\Same H H'/\H' ls=some (.lst (((((((aN pos g).zip ks).take j).filter λz=>decide (z.2=(n:Int))).map (·.1)).map λc=>fY c hc).map V.int)))
   ⟨⟨_,_,rfl⟩,Sb.refl _ _,sH,els2⟩ (λj σ H' h=> ⟨SqL.of (h.2.1 _ _ (λz=>by rw[z,els]at hlc;cases hlc) hlc2),SqT.of (h.2.2.1 _ _ ht)⟩) ?_ ?_
  ·rintro j x y pz σ H3 hx hy ⟨⟨o7,o8,rfl⟩,sb3,hs3,hl3⟩ hpz;obtain⟨b,hb,rfl⟩:=eI hx;obtain⟨c,hc',he⟩:=hP.at hb;obtain⟨k,hk,rfl⟩:∃m,ks[j]?=some m/\V.int m=y:=by
    rw[getElem?_map]at hy;cases e:ks[j]? with
    |none=>rw[e]at hy;cases hy
    |some m=>rw[e]at hy;exact⟨m,rfl,Option.some.inj hy⟩
   have s4:=aQ (o:=.tup [.ref b,.int k]) hpz;have ez:((aN pos g).zip ks)[j]?=some (c,k):=List.getElem?_zip_eq_some.mpr ⟨hc',hk⟩;have hjl:j<(aN pos g).length:=(zjW.mp hc').1;have hfl:((((aN pos g).zip ks).take j).filter λz=>decide (z.2=(n:Int))).length<=j:=le_trans (length_filter_le _ _) (by rw[length_take];omega);have et:(((((aN pos g).zip ks).take (j+1)).filter λz=>decide (z.2=(n:Int))).map (·.1))=(((((aN pos g).zip ks).take j).filter λz=>decide (z.2=(n:Int))).map (·.1))++(if k=(n:Int)then [c]else []):=by
    rw[take_succ,ez,filter_append,map_append]
    congr 1
    by_cases z:k=(n:Int)
    ·simp[z]
    ·simp only[Option.toList,filter_cons,filter_nil,zjU z,if_neg z];rfl
   rw[et];have hl4:=s4 _ _ hl3;have nb:b≠ls:=λz=>by rw[z,els2]at he;cases he
   have he4:=s4 _ _ (sb3 _ _ nb he);refine⟨pz,_,rfl,SqT.of aJ,rfl,_,_,rfl,_,_,rfl,rfl,?_⟩;refine⟨_,rfl,_,rfl,rfl,_,rfl,dW (λz=> ?_) λz=> ?_⟩
   ·rw[if_pos (V.int.inj z)];refine⟨_,rfl,.inl ⟨rfl,_,SqL.of hl4⟩,_,rfl,b,_,0,_,rfl,rfl,SqT.of he4,rfl,_,rfl,_,_,rfl,rfl,_,rfl,?_⟩;refine⟨_,rfl,b,_,1,_,rfl,rfl,SqT.of he4,rfl,_,rfl,_,_,rfl,rfl,_,rfl,_,_,rfl,rfl,?_⟩;refine⟨ls,_,_,rfl,rfl,hl4,bW (by simp only[length_map];omega),⟨_,_,rfl⟩,?_,λb' u e'=> ?_,?_⟩
    ·exact λb2 u2 n2 e2=>by rw[aY n2];exact s4 _ _ (sb3 _ _ n2 e2)
    ·rw[aY (bH e' hls)];exact s4 _ _ (hs3 _ _ e')
    ·rw[aJ,map_append,map_append];rfl
   ·rw[if_neg (λy=>z (by rw[y])),append_nil];exact⟨⟨_,_,rfl⟩,sb3.trans (Sb.of s4),hs3.trans s4,hl4⟩
  ·rintro σ H3 ⟨⟨o7,o8,rfl⟩,sb3,hs3,hl3⟩;have el:(ks.map V.int).length=((aN pos g).zip ks).length:=by rw[length_map,length_zip];omega
   rw[el,take_of_length_le (zjQ _)]at hl3;have hl3':H3 ls=some (.lst (((bT g ks n).map λc=>fY c hc).map V.int)):=hl3;refine⟨_,rfl,ls,(bT g ks n).map (λc=>fY c hc),rfl,SqL.of hl3',?_,λM m1 m2=> ?_⟩
   ·rw[length_map];exact List.length_pos_iff.mpr hne
   ·have e:M=dP g hs ks n:=by
     unfold dP;rw[eg];have e1:((bT g ks n).map λc=>fY c hc)=(bT g ks n).map (fY hc):=map_congr_left λc _=>A2y c hc;rw[e1]at m1 m2;exact wN m1 m2
    rw[e];exact q H3 hs3
end
noncomputable def swN (a b k:Int):Int:=if k=a then b else if k=b then a else k
noncomputable def swK (a b:Int)(ks:List Int):List Int:=ks.map (swN a b)
theorem kY (a b:Int)(ks:List Int):(swK a b ks).length=ks.length:=length_map ..
theorem uH (h:∀k,swN a b k=i↔k=j):bT g (swK a b ks) i=bT g ks j:=by unfold bT swK;rw[List.zip_map_right,filter_map,map_map];have e:((λz:Pl×Int=>decide (z.2=i))∘Prod.map id (swN a b))=λz:Pl×Int=>decide (z.2=j):=funext λz=>decide_eq_decide.mpr (h z.2);rw[e];rfl
theorem A16 (h:a≠b):bT g (swK a b ks) a=bT g ks b:=uH λk=>by unfold swN;split<;>(try split)<;>omega
theorem wM (h:a≠b):bT g (swK a b ks) b=bT g ks a:=uH λk=>by unfold swN;split<;>(try split)<;>omega
noncomputable def cN (g:bI)(cs:List Int)(cl:List C3)(od:Int)(hs:List Pl)(ks:List Int)(a b:Int):Bool:=([decide (dP g hs (swK a b ks) a<dP g hs ks a),decide (dP g hs (swK a b ks) b<dP g hs ks b)].all id)&&eQ g cs cl od (swK a b ks)
noncomputable def prs (hs:List Int):List Pl:=hs.flatMap λi=>(hs.filter λj=>decide (i<j)).map λj=>(i,j)
theorem A4e (h:c∈prs hs):c.1∈hs/\c.2∈hs/\c.1<c.2:=by obtain⟨i,hi,h⟩:=List.mem_flatMap.mp h;obtain⟨j,hj,rfl⟩:=mem_map.mp h;obtain⟨h1,h2⟩:=mem_filter.mp hj;exact⟨hi,h1,of_decide_eq_true h2⟩
noncomputable def pS (g:bI)(cs:List Int)(cl:List C3)(od:Int)(hs:List Pl)(ks:List Int):List Pl:=(prs (hI cl)).filter λc=>cN g cs cl od hs ks c.1 c.2
theorem A40 (h:cN g cs cl od hs ks a b=true):dP g hs (swK a b ks) a<dP g hs ks a/\dP g hs (swK a b ks) b<dP g hs ks b/\eQ g cs cl od (swK a b ks)=true:=by unfold cN at h;simp only[all_cons,all_nil,id,Bool.and_true,Bool.and_eq_true,decide_eq_true_eq]at h;exact⟨h.1.1,h.1.2,h.2⟩
end M51
namespace L2
open PySem PySem.Spec PyProof.Rows
section
theorem B06 (ns:List (Str×NameKind))(N:List Str)(loc:List Str)(frees:List (Str×Nat))(hc:X.calm=true)(hND:X.N.Nodup)(hix:X.N[i]?=some x)(hxl:X.env.scope.names.lookup x=some .local)(hi:PI X tg iter wi)
  (hns:X.env.scope.names=ns)(hN:X.N=N)(hk:scope.kind= .function)(ok:iJ ns N scope frees)
  (hg:∀Z,PG (cL X (loc++frees.map (·.1)) scope Z) tg (g Z))(ht:∀Z,PTs (cL X (loc++frees.map (·.1)) scope Z) ifs (tt Z))
  (hi2:∀Z,PI (cL X (loc++frees.map (·.1)) scope Z) tg2 iter2 (wi2 Z))(hg2:∀Z,PG (cL X (loc++frees.map (·.1)) scope Z) tg2 (g2 Z))(ht2:∀Z,PTs (cL X (loc++frees.map (·.1)) scope Z) ifs2 (tt2 Z))
  (he:∀Z,PE (cL X (loc++frees.map (·.1)) scope Z) elt (te Z))
  (hsw:swapsWith (.ListComp elt [⟨tg,iter,ifs,0⟩,⟨tg2,iter2,ifs2,0⟩] scope pos) (some (.Name x pos')) apos.line X.env=pure true:=by rfl)
  (hs:∀x,foldedSetIterable iter X.env x=pure x:=by intro _;rfl)(hs2:∀(Z:dZ) x,foldedSetIterable iter2 (cL X (loc++frees.map (·.1)) scope Z).env x=pure x:=by intro _ _;rfl):PS X (.Assign [.Name x pos'] (.ListComp elt [⟨tg,iter,ifs,0⟩,⟨tg2,iter2,ifs2,0⟩] scope pos) apos) (kW (uM wi g tt wi2 g2 tt2 te loc.length frees) (cT i)):=by
 intro pins s σ H D I h;rw[exec_Assign_Name_used _ _ _ _ hsw];refine zjZ (wpAny_standAt (zjZ ?_))
 show wpAny _ X.A (do let _←comprehension (.ListComp elt [⟨tg,iter,ifs,0⟩,⟨tg2,iter2,ifs2,0⟩] scope pos) scope X.env _ (newList []) false (eval iter X.env) (some (assign (.Name x pos') X.env))) _ _ s;refine zjZ ?_;have key:=nI (X:=X) (nac:=newList []) (oa:={cls:=.type "list",dict:=none,data:=.seq ([]:List Value).toArray}) (u:=.lst []) (λE s Q h=>wpAny_newObj_type h) rfl (λH h a _ e=> ⟨by simp,[],_,.nil,e⟩) (e:=.ListComp elt [⟨tg,iter,ifs,0⟩,⟨tg2,iter2,ifs2,0⟩] scope pos) (g0:=⟨tg,iter,ifs,0⟩) (gs:=[⟨tg2,iter2,ifs2,0⟩]) (tg:=tg) (iter:=iter) (newPos:=firstIterPos [⟨tg,iter,ifs,0⟩,⟨tg2,iter2,ifs2,0⟩] pos) (loc:=loc) (R:=λZ l J σ H QH=>eA J (g Z) (cZ (tt Z) (kK (wi2 Z) (g2 Z) (tt2 Z) (eJ l (te Z)))) (eC λ_ H'=>QH H') σ H) (use:=some (assign (.Name x pos') X.env)) (QH:=λl H'=>D.nx (σ.set i (some (.ref l))) H') (Q:=λ_ s'=>SP X pins D .next s') rfl rfl hi hns hN hk ok hs I h ?_ ?_
 ·exact thn key λ_ s' hq=>zjY (zjY hq)
 ·intro Z l it fp tn J H4 s4 σ4 hfp I4 T st4 f4 q4;have L:=kR (Y:=cL X (loc++frees.map (·.1)) scope Z) rfl hc (xM elt tg iter tg2 iter2 ifs ifs2 scope pos (.ref it) (.ref l) _) (hg Z) (ht Z) (zI rfl hc (hi2 Z) (hg2 Z) (ht2 Z) (he Z) (hs2 Z)) I4 T st4 f4 q4;refine codeAny_mono (codeAny_compStart_list L (T.self _ _ _ _ _ st4 L)) λr s' hr=> ?_;exact hr
 ·intro l C H' s' hm J' hn h1 h2 h3 h4 h5 q';obtain⟨m,hm⟩:=hm;show wpAny _ X.A (assign (.Name x pos') X.env (.ref l)) _ _ _;refine wpAny_assign_Name (qJ J' hND hix (.inl hxl) (v:=.ref l) rfl (λs'' I'' hsb=> ?_) (.inr hxl));obtain⟨a,hsb,ha⟩:=hsb;have haC:C≠a:=by
   rcases ha with z|z
   ·rw[z];exact h2
   ·exact λy=>h3 x a z y.symm
  refine⟨m,hm.sameBut hsb haC,λh' hs'=> ⟨_,H',?_,q'⟩⟩;exact I''.turned (it:=C) (t':=s''.toks) (λb o hb e=>(hs'.2 b hb).trans e) hn h2 (.inr h1) h3 h5
end
structure M2 (X:Cx)(o:Expr)(m:Str)(apos:Pos)(e f:Expr)(cpos:Pos):Prop where
 base:attributeBase o m X.env (eval o X.env)=eval o X.env
 few:((backTo cpos (starEach [e,f] X.env)).all (λx=> !x.1)&&(backToKw cpos (keywordEach [] X.env)).all (λx=>x.1.isSome)
  &&decide (([e,f]:List Expr).length+([]:List Keyword).length+(if ([]:List Keyword).isEmpty then 0 else 1)<30))=true
 line:(apos.endLine==cpos.line)=true
 trees:backTo cpos (starEach [e,f] X.env)=[(false,eval e X.env),(false,eval f X.env)]
noncomputable def IsD (H:Hp)(a:Addr):Prop:=(∃kvs,Rd H a (.dK kvs))\/ ∃kvs,Rd H a (.dT kvs)
theorem A6g (I:Inv X pins σ H s)(d:IsD H a):
  s.TypeIs (.ref a) "dict"/\(∀b,Value.ref a= .ref b->∃ob,s.heap.get? b=some ob/\ob.dict=none)/\(a==sysModules)=false:=by
 rcases d with⟨kvs,e⟩| ⟨kvs,e⟩
 ·obtain⟨_,hd,vs,_,dd⟩:=jR I.hok e;refine⟨dd.typeIs,λb q=> ?_,hd⟩;cases q;obtain⟨ob,_,_,h1,h2,_⟩:=dd;exact⟨ob,h1,h2.2.1⟩
 ·obtain⟨_,hd,xs,_,dd⟩:=jC I.hok e;refine⟨dd.typeIs,λb q=> ?_,hd⟩;cases q;obtain⟨ob,_,_,h1,h2,_⟩:=dd;exact⟨ob,h1,h2.2.1⟩
section
theorem A8e (hu:A.units+1<cLine)(I:Inv X pins σ H s)(g:DGet H a y o)(ry:RelV y u)(rd:RelV d r)(h:∀w' s',Inv X pins σ H s'->RelV (o.getD d) w'->Q w' s'):
  wpAny (model X.prog X.w) A (call (.builtin "dict.get") [.ref a,u,r]) Q E s:=by
 rcases g with⟨kvs,k,e,ey,l⟩| ⟨kvs,k,b,e,ey,eb,l⟩
 ·subst ey;obtain⟨z,hd,vs,rel,dd⟩:=jR I.hok e;refine call_meetsIn PySem.F.slot_dict_get dd.typeIs PySem.F.entry_dict_get (PySem.F.args_dict_get_3 _ _ _) (meets_dict_get_default (cS X.prog X.w) a (jO ry) hd r) ⟨_,dd.mapOf,h _ _ (I.tok _) ?_⟩;rw[l];exact(rel.val k).getD rd
 ·subst ey;cases (show u=Value.ref b from ry);obtain⟨z,hd,xs,rel,dd⟩:=jC I.hok e;refine call_meetsIn PySem.F.slot_dict_get dd.typeIs PySem.F.entry_dict_get (PySem.F.args_dict_get_3 _ _ _) (meetsH_dict_get_default (tupleKind (cS X.prog X.w)) a b hd r) ⟨tupleKind_room_in1 hu,k,xs,lH I.hok eb,dd,h _ _ (I.tok _) ?_⟩;rw[l];exact(rel.val k).getD rd
end
noncomputable def A88 (td ty tx:TE):TE:=λσ H Q=>td σ H λx H1=> ∃a,x= .ref a/\IsD H1 a/\ty σ H1 λy H2=>tx σ H2 λz H3=> ∃o,DGet H3 a y o/\Q (o.getD z) H3
section
theorem uK (hu:X.A.units+1<cLine)(ho:PE X o td)(he:PE X e ty)(hf:PE X f tx)(m:M2 X o "get" apos e f cpos):PE X (.Call (.Attribute o "get" apos) [e,f] [] cpos) (A88 td ty tx):=by
 intro pins s σ H Q I h;refine wpAny_Call_method m.base m.few m.line PySem.F.plainAttrs_dict PySem.F.slot_dict_get PySem.F.type_dict_get (thn (ho pins s σ H _ I h) λu s1 ⟨x,H1,I1,rx,a,ex,d,q1⟩=> ?_);subst ex;obtain rfl:u=Value.ref a:=rx;obtain⟨t1,t2,_⟩:=A6g I1 d;refine⟨t1,t2,?_⟩;rw[m.trees];refine Calls.callWith_builtin rfl (Calls.evalArgs_plain (Calls.spliced_cons (thn (he pins s1 σ H1 _ I1 q1) λiv s2 ⟨y,H2,I2,ry,q2⟩=>
  Calls.spliced_cons (thn (hf pins s2 σ H2 _ I2 q2) λfv s3 ⟨z,H3,I3,rz,ov,g,q3⟩=>Calls.spliced_nil ?_))))
 exact A8e hu I3 g ry rz λw' s4 I4 rw'=> ⟨_,H3,I4,rw',q3⟩
end
end L2
namespace M51
open PySem L2 PyProof.Rows Grd Wlk Cyc Srt Set4
noncomputable def uG:Sp:=λvs H Q _=> ∃a cl i j,vs=[.ref a,.int i,.int j]/\ClT H a cl/\cl.length<=12/\cM cl i=true/\cM cl j=true/\i≠j/\∀H',Same H H'->Q .non H'
noncomputable def kJ:Sp:=λvs H Q _=> ∃t ks i j,vs=[.ref t,.int i,.int j]/\H t=some (.tup ((ks:List Int).map V.int))/\ks.length<=10/\i≠j/\∀t' H',Same H H'->H' t'=some (.tup ((swK i j ks).map V.int))->Q (.ref t') H'
noncomputable abbrev nTu:List Str:=["parting","one","other","turned"]
theorem A5m:(["number","turned"]:List Str).Nodup:=by decide +kernel
noncomputable def swV (a b:Int):V->V
 | .int k=> .int (swN a b k)
 |v=>v
theorem yP:((dD [((Sum.inl a:Key),V.int b),(Sum.inl b,V.int a)] (Sum.inl k)).getD (.int k))=V.int (swN a b k):=by
 unfold dD swN;by_cases h1:k=a
 ·rw[h1];simp
 ·by_cases h2:k=b
  ·rw[h2]at h1⊢;have:a≠b:=λz=>h1 z.symm;simp[this,h1]
  ·have h3:a≠k:=λz=>h1 z.symm;have h4:b≠k:=λz=>h2 z.symm;simp[h1,h2,h3,h4]
section
variable {P:Program}{w:World}{K:W.Frag}{mg:Str->Option Value}{base:Heap}
theorem A3d (F:D1 K mg "check_two_holders" wT ["claims","one","other"])(a1:A1 P w K mg base 3 "check_holder" nQ):A1 P w K mg base 4 "check_two_holders" uG:=by
 refine F.k ["claims","one","other"] ?_;ac_nf
 ·obtain⟨a,cl,i,j,rfl,hA,hz,hi,hj,hn,q⟩:=h;refine⟨_,aU (cK (a1.c hr (aG (pv 0) (aG (pv 1) aB))))<|aU (cK (a1.c hr (aG (pv 0) (aG (pv 2) aB))))<|
   aM (bK (bV eG (pv 1) (pv 2) (nomark _)) fQ bL),?_⟩
  refine⟨_,rfl,_,rfl,a,cl,i,rfl,hA,hz,hi,λH1 s1=> ?_⟩;refine⟨_,rfl,_,rfl,a,cl,j,rfl,hA.ext s1.ext,hz,hj,λH2 s2=> ?_⟩;refine⟨_,rfl,_,rfl,rfl,_,rfl,dW (λe=>absurd (V.int.inj e) hn) λe=> ?_⟩;exact q H2 (s1.trans s2)
theorem A7x (F:D1 K mg "turned_about" oK ["parting","one","other"])(TC:TxC mg):A1 P w K mg base 1 "turned_about" kJ:=by
 refine F.k nTu ?_;ac_nf
 ·obtain⟨t,ks,i,j,rfl,ht,hz,hn,q⟩:=h;have hu:(A.deeper (envOfC "turned_about" (bB oK) s.heap.objs.size f cdv)).units+1<cLine:=lt_of_succ_lt (eL hr);refine⟨_,aU (bX (i:=3) nd rfl (Or.inr rfl) (wS (oC (pv 1) (pv 2) (oC (pv 2) (pv 1) A0h)) rfl rfl (by simp) (by simp)))<|
   aM (bC (fC gD rfl TC.tuple boot_tuple (cO (bN (bB oK).names nTu ["number"] [("turned",3)] rfl (cR (pv 0)) rfl rfl rfl (by decide +kernel)
    (λZ=>nm1 0 A5m) (λZ=>cF) (λZ=>uK (lt_of_succ_lt (eL hr)) (pv 1) (pv 0) (pv 0) ⟨rfl,rfl,rfl,rfl⟩)) aB))),?_⟩
  intro pd hpd;refine⟨_,rfl,_,rfl,_,rfl,_,rfl,aJ,[(Sum.inl i,.int j),(Sum.inl j,.int i)],rfl,by show 2<=15;decide,?_⟩;have em:gR [] [((Sum.inl i:Key),V.int j),(Sum.inl j,.int i)]=([(Sum.inl i,V.int j),(Sum.inl j,.int i)]:List (Key×V)):=by
   have:¬i=j:=hn;simp[gR,eK,this]
  rw[em];have s2:Same H (upd (upd H pd (.dK [])) pd (.dK [(Sum.inl i,V.int j),(Sum.inl j,.int i)])):=λc u e=>by
   have:c≠pd:=bH e hpd;rw[aY this,aY this];exact e
  have hD:(upd (upd H pd (.dK [])) pd (.dK [(Sum.inl i,V.int j),(Sum.inl j,.int i)])) pd=some (.dK [(Sum.inl i,V.int j),(Sum.inl j,.int i)]):=aJ;generalize upd (upd H pd (.dK [])) pd (.dK [(Sum.inl i,V.int j),(Sum.inl j,.int i)])=H2 at s2 hD⊢;have ht2:=s2 _ _ ht;refine⟨_,rfl,t,rfl,⟨_,SqT.of ht2⟩,λZ l hl=> ?_⟩;refine fZ (rest:=[some (.ref pd)]) (swV i j) ht2 hl (by rw[length_map];omega) (λx H' Q' hm hs hq=> ?_) λσ H3 s3 el=> ?_
  ·obtain⟨k,_,rfl⟩:=mem_map.mp hm;refine⟨_,rfl,pd,rfl,.inl ⟨_,.inl (hs _ _ hD)⟩,_,rfl,_,rfl,_,DGet.k (k:=Sum.inl k) (hs _ _ hD),?_⟩;rw[yP];exact hq H' (Same.refl _)
  ·have e2:(ks.map V.int).map (swV i j)=(swK i j ks).map V.int:=by
    unfold swK;rw[map_map,map_map];rfl
   rw[e2]at el;refine⟨l,_,rfl,.inl ⟨SqL.of el,λtt htt=> ?_⟩⟩;have u:=aQ (o:=.tup ((swK i j ks).map V.int)) htt;exact q tt _ ((s2.trans s3).trans u) aJ
end
noncomputable def iR:Sp:=λvs H Q _=> ∃p h t g w cs cl od hs ks i j,vs=[.ref p,.ref h,.ref t,.int i,.int j]/\PhA H p h t g w cs cl od hs ks/\cM cl i=true/\cM cl j=true/\i≠j/\∀H',Same H H'->Q (.bl (cN g cs cl od hs ks i j)) H'
noncomputable abbrev nWd:List Str:=["plea","houses","parting","one","other","mead","custom","claims","odd","then","less_far"]
theorem A64:(["who","mead","houses","then","parting"]:List Str).Nodup:=by decide +kernel
section
variable {P:Program}{w:World}{K:W.Frag}{mg:Str->Option Value}{base:Heap}
theorem A27 (F:D1 K mg "would_exchange" tG ["plea","houses","parting","one","other"])(T:Txt mg)(a1:A1 P w K mg base 14 "check_parted" sM)(a2:A1 P w K mg base 4 "check_two_holders" uG)(a3:A1 P w K mg base 1 "turned_about" kJ)(a4:A1 P w K mg base 8 "far_with" A08)(a5:A1 P w K mg base 12 "is_parting" pO):A1 P w K mg base 15 "would_exchange" iR:=by
 refine F.k nWd ?_;ac_nf
 ·obtain⟨p,h,t,g,w',cs,cl,od,hs,ks,i,j,rfl,B,hi,hj,hn,q⟩:=h;refine⟨_,aU (cK (a1.c hr (aG (pv 0) (aG (pv 1) (aG (pv 2) aB)))))<|
   aU (eO (pv 0) (bP rfl (bA (aK (i:=5) nd rfl (Or.inr rfl)) (bA (nm1 6 nd) (bA (nm1 7 nd) (bA (nm1 8 nd) bR))))))<|
   aU (cK (a2.c hr (aG (pv 7) (aG (pv 3) (aG (pv 4) aB)))))<|
   aU (bX (i:=9) nd rfl (Or.inr rfl) (a3.c hr (aG (pv 2) (aG (pv 3) (aG (pv 4) aB)))))<|
   aU (rR (i:=10) (bB tG).names nWd ["who"] [("mead",5),("houses",1),("then",9),("parting",2)] rfl nd rfl rfl (cR (dC (aG (pv 3) (aG (pv 4) aB)))) rfl rfl rfl (by decide +kernel)
    (λZ=>nm1 0 A64) (λZ=>cF) (λZ=>eW iQ (a4.c hr (aG (pv 1) (aG (pv 2) (aG (pv 3) (aG (pv 0) aB))))) (a4.c hr (aG (pv 1) (aG (pv 2) (aG (pv 4) (aG (pv 0) aB))))) (nomark _)))<|
   aM (bC (fS (bE (fL rfl) rfl T.all boot_all (aG (pv 10) aB)) (fX (a5.c hr (aG (pv 0) (aG (pv 9) aB)))))),?_⟩
  refine⟨_,rfl,_,rfl,_,rfl,p,h,t,g,w',cs,cl,od,hs,ks,rfl,B,λH1 s1=> ?_⟩;have B1:=B.same s1;obtain⟨m,c,a,hp,hm,hc,ha⟩:=B1.B.D.ex;obtain⟨i0,i3,hnei⟩:=B.ne hi;obtain⟨j0,j3,hnej⟩:=B.ne hj;refine⟨_,rfl,p,_,rfl,SqT.of hp,rfl,_,_,rfl,_,_,rfl,_,_,rfl,_,_,rfl,rfl,?_⟩;refine⟨_,rfl,_,rfl,_,rfl,a,cl,i,j,rfl,ha,B.B.D.ck.l12,hi,hj,hn,λH2 s2=> ?_⟩;have B2:=B1.same s2;refine⟨_,rfl,_,rfl,_,rfl,t,ks,i,j,rfl,B2.B.t,le_trans B2.B.l10 (by decide),hn,λt' H3 s3 et'=> ?_⟩;have B3:=B2.same s3;have hm3:=(hm.same s2).same s3;refine⟨_,rfl,_,rfl,by show 2<=sizeLine;decide,λtw htw=> ?_⟩;have u4:=aQ (o:=.tup [.int i,.int j]) htw;have etw:(upd H3 tw (.tup [.int i,.int j])) tw=some (.tup [.int i,.int j]):=aJ;generalize upd H3 tw (.tup [.int i,.int j])=H4 at u4 etw⊢;have B4:=B3.same u4;have hm4:=hm3.same u4;have et4:=u4 _ _ et';refine⟨tw,rfl,⟨_,SqT.of etw⟩,λZ l hl=> ?_⟩;refine fZ (rest:=[some (.ref m),some (.ref h),some (.ref t'),some (.ref t)]) (λx=>match x with| .int k=> .bl (decide (dP g hs (swK i j ks) k<dP g hs ks k))|v=>v) etw hl (by show 2<=1000;decide) (λx H' Q' hx hs' hq=> ?_) λσ H5 s5 el=> ?_
  ·obtain⟨k,rfl,hk,hne⟩:∃k,x=V.int k/\cM cl k=true/\bT g (swK i j ks) k≠[]:=by
    simp only[mem_cons,not_mem_nil,or_false]at hx;rcases hx with rfl|rfl
    ·exact⟨i,rfl,hi,by rw[A16 hn];exact hnej⟩
    ·exact⟨j,rfl,hj,by rw[wM hn];exact hnei⟩
   obtain⟨k0,k3,hne2⟩:=B.ne hk;have B5:=B4.same hs';refine⟨_,rfl,_,rfl,_,rfl,_,rfl,m,h,t',g,w',hs,swK i j ks,k,rfl,hm4.same hs',B.B.D.G,B5.h,B.o.l,hs' _ _ et4,by rw[kY];exact B.B.l,k0,k3,hne,λH6 s6=> ?_⟩;have B6:=B5.same s6;refine⟨_,rfl,_,rfl,_,rfl,_,rfl,m,h,t,g,w',hs,ks,k,rfl,(hm4.same hs').same s6,B.B.D.G,B6.h,B.o.l,B6.B.t,B.B.l,k0,k3,hne2,λH7 s7=> ?_⟩;exact⟨_,_,rfl,rfl,hq H7 (s6.trans s7)⟩
  ·have B5:=B4.same s5;refine⟨_,rfl,l,[decide (dP g hs (swK i j ks) i<dP g hs ks i),decide (dP g hs (swK i j ks) j<dP g hs ks j)],rfl,SqL.of el,_,rfl,?_⟩;have sH:=((s1.trans s2).trans s3).trans (u4.trans s5);refine cY (λe=> ?_) λe=> ?_
   ·refine⟨_,rfl,_,rfl,p,t',g,w',cs,cl,od,swK i j ks,rfl,⟨B5.B.D,s5 _ _ et4,by rw[kY];exact B.B.l,λk hk=> ?_⟩,λH6 s6=> ?_⟩
    ·obtain⟨k0,hk0,rfl⟩:=mem_map.mp hk;unfold swN
     split
     ·exact hj
     ·split
      ·exact hi
      ·exact B.B.h k0 hk0
    ·have ew:cN g cs cl od hs ks i j=eQ g cs cl od (swK i j ks):=by unfold cN;rw[e];rfl
     rw[←ew];exact q H6 (sH.trans s6)
   ·have ew:cN g cs cl od hs ks i j=false:=by unfold cN;rw[e];rfl
    rw[←ew];exact q H5 sH
end
noncomputable def lW:Sp:=λvs H Q _=> ∃p h t g w cs cl od hs ks,vs=[.ref p,.ref h,.ref t]/\PhA H p h t g w cs cl od hs ks/\∀l ps H',H l=none->Same H H'->H' l=some (.lst ((ps:List Addr).map V.ref))->PlAt H' ps (pS g cs cl od hs ks)->Q (.ref l) H'
noncomputable abbrev nWh:List Str:=["plea","houses","parting","mead","custom","claims","odd","pairs"]
theorem xE:(["one","other","claims"]:List Str).Nodup:=by decide +kernel
theorem yI:(["one","other","plea","houses","parting"]:List Str).Nodup:=by decide +kernel
noncomputable def gA (hs A:List Int):List Pl:=A.flatMap λi=>(hs.filter λj=>decide (i<j)).map λj=>(i,j)
theorem xJ (hs A:List Int)(i:Int):gA hs (A++[i])=gA hs A++(hs.filter λj=>decide (i<j)).map λj=>(i,j):=by unfold gA;rw[List.flatMap_append];simp
theorem rS (cl:List C3):(hI cl).length<=4:=by
 unfold hI aX;rw[length_map];have key:∀b0 b1 b2 b3:Bool,(L b0 b1 b2 b3).length<=4:=by decide
 exact key _ _ _ _
theorem gS {xs:List Int}{j:Nat}{x:V}(h:(xs.map V.int)[j]?=some x):∃n,xs[j]?=some n/\V.int n=x:=by
 rw[getElem?_map]at h;cases e:xs[j]? with
 |none=>rw[e]at h;cases h
 |some m=>rw[e]at h;exact⟨m,rfl,Option.some.inj h⟩
section
variable {P:Program}{w:World}{K:W.Frag}{mg:Str->Option Value}{base:Heap}
theorem A94 (F:D1 K mg "who_would" mQ ["plea","houses","parting"])(a1:A1 P w K mg base 14 "check_parted" sM)(a2:A1 P w K mg base 6 "holders_of" sJ)(a3:A1 P w K mg base 15 "would_exchange" iR):A1 P w K mg base 16 "who_would" lW:=by
 refine F.k nWh ?_;ac_nf
 ·obtain⟨p,h,t,g,w',cs,cl,od,hs,ks,rfl,B,q⟩:=h;refine⟨_,aU (cK (a1.c hr (aG (pv 0) (aG (pv 1) (aG (pv 2) aB)))))<|
   aU (eO (pv 0) (bP rfl (bA (nm1 3 nd) (bA (nm1 4 nd) (bA (aK (i:=5) nd rfl (Or.inr rfl)) (bA (nm1 6 nd) bR))))))<|
   aU (B06 (i:=7) (bB mQ).names nWh ["one","other"] [("claims",5)] rfl nd rfl rfl (cV (a2.c hr (aG (pv 5) aB))) rfl rfl rfl (by decide +kernel)
    (λZ=>nm1 0 xE) (λZ=>cF) (λZ=>cV (a2.c hr (aG (pv 2) aB))) (λZ=>nm1 1 xE) (λZ=>eP (bV iQ (pv 0) (pv 1) (nomark _))) (λZ=>dC (aG (pv 0) (aG (pv 1) aB))))<|
   aM (bC (bN (bB mQ).names nWh ["one","other"] [("plea",0),("houses",1),("parting",2)] rfl (cV (pv 7)) rfl rfl rfl (by decide +kernel)
    (λZ=>bP rfl (bA (nm1 0 yI) (bA (nm1 1 yI) bR))) (λZ=>eP (bM (a3.c hr (aG (pv 2) (aG (pv 3) (aG (pv 4) (aG (pv 0) (aG (pv 1) aB)))))))) (λZ=>dC (aG (pv 0) (aG (pv 1) aB))))),?_⟩
  refine⟨_,rfl,_,rfl,_,rfl,p,h,t,g,w',cs,cl,od,hs,ks,rfl,B,λH1 s1=> ?_⟩;have B1:=B.same s1;obtain⟨m,c,a,hp,hm,hc,ha⟩:=B1.B.D.ex;refine⟨_,rfl,p,_,rfl,SqT.of hp,rfl,_,_,rfl,_,_,rfl,_,_,rfl,_,_,rfl,rfl,?_⟩;refine⟨_,rfl,a,cl,rfl,ha,B.B.D.ck,λlh H2 hlh s2 elh=> ?_⟩;have eh:((aX (cD cl)).map λk:Nat=>V.int (k:Int))=(hI cl).map V.int:=by unfold hI;rw[map_map];rfl
  have h4:=rS cl;rw[eh]at elh;have ha2:=ha.ext s2.ext;refine⟨lh,rfl,⟨_,SqL.of elh⟩,λZ l hl=> ?_⟩;refine dI (K:=K) (a:=lh) (xs:=(hI cl).map V.int) (λi σ H'=>(∃o0 o1,σ=[o0,o1,some (.ref a)])/\Same H2 H'/\∃ps:List Addr,H' l=some (.lst (ps.map V.ref))/\PlAt H' ps (gA (hI cl) ((hI cl).take i))/\ps.length<=4*i) ⟨⟨_,_,rfl⟩,aQ hl,[],by rw[aJ];rfl,.nil,zero_le _⟩ (λi σ H' _ h=>SqL.of (h.2.1 _ _ elh)) ?_ ?_
  ·rintro i x σ H' hx ⟨⟨o0,o1,rfl⟩,hs',ps,el,hP,hpl⟩;obtain⟨n,hn,rfl⟩:=gS hx;have hi:i<(hI cl).length:=(zjW.mp hn).1;refine iX ?_;refine⟨_,rfl,a,cl,rfl,ha2.ext hs'.ext,B.B.D.ck,λlh2 H3 hlh2 s3 elh2=> ?_⟩;rw[eh]at elh2;have nl2:lh2≠l:=λz=>by rw[z,el]at hlh2;cases hlh2
   refine⟨lh2,rfl,⟨_,SqL.of elh2⟩,?_⟩;refine dI (K:=K) (a:=lh2) (xs:=(hI cl).map V.int) (λj σ H''=>(∃o1,σ=[some (.int n),o1,some (.ref a)])/\Same H2 H''/\Sb l H3 H''/\∃ps:List Addr,H'' l=some (.lst (ps.map V.ref))/\PlAt H'' ps (gA (hI cl) ((hI cl).take i)++(((hI cl).take j).filter λj=>decide (n<j)).map λj=>(n,j))/\ps.length<=4*i+j)
    ⟨⟨_,rfl⟩,hs'.trans s3,Sb.refl _ _,ps,s3 _ _ el,by simpa using hP.same s3,by omega⟩ (λj σ H'' _ h=>SqL.of (h.2.2.1 _ _ nl2 elh2)) ?_ ?_
   ·rintro j y σ H'' hy ⟨⟨o1,rfl⟩,hs'',sb'',ps2,el2,hP2,hpl2⟩;obtain⟨k,hk,rfl⟩:=gS hy;have hj:j<(hI cl).length:=(zjW.mp hk).1;have et:(((hI cl).take (j+1)).filter λj=>decide (n<j)).map (λj=>(n,j))=((((hI cl).take j).filter λj=>decide (n<j)).map λj=>(n,j))++(if n<k then [(n,k)]else []):=by
     rw[take_succ,hk,filter_append,map_append]
     congr 1
     by_cases z:n<k
     ·simp[z]
     ·simp[z]
    rw[et];refine⟨_,rfl,_,rfl,_,_,rfl,rfl,_,rfl,dW (λz=> ?_) λz=> ?_⟩
    ·rw[if_pos z];refine⟨_,rfl,_,rfl,by show 2<=sizeLine;decide,λq2 hq2=> ?_⟩;have u:=aQ (o:=.tup [.int n,.int k]) hq2;have el3:=u _ _ el2;have nq:q2≠l:=λz=>by rw[z,el2]at hq2;cases hq2
     refine⟨_,el3,bW (by rw[length_map];omega),⟨_,rfl⟩,λb' u' e'=> ?_,λb' u' nb e'=> ?_,ps2++[q2],by rw[aJ,map_append];rfl,?_,by rw[length_append];show _+1<=_;omega⟩
     ·rw[aY (bH e' hl)];exact u _ _ (hs'' _ _ e')
     ·rw[aY nb];exact u _ _ (sb'' _ _ nb e')
     ·rw[←append_assoc];exact PlAt.snoc (Paired.mapP hP2 λ_ _ z=>PlA.put el3 (u _ _ z)) (by rw[aY nq,aJ])
    ·rw[if_neg z,append_nil];exact⟨⟨_,rfl⟩,hs'',sb'',ps2,el2,hP2,by omega⟩
   ·rintro σ H'' ⟨⟨o1,rfl⟩,hs'',sb'',ps2,el2,hP2,hpl2⟩;rw[length_map]at hP2 hpl2;rw[take_of_length_le (zjQ _)]at hP2;have et:(hI cl).take (i+1)=(hI cl).take i++[n]:=by rw[take_succ,hn];rfl
    refine⟨⟨_,_,rfl⟩,hs'',ps2,el2,?_,by omega⟩;rw[et,xJ];exact hP2
  ·rintro σ H' ⟨⟨o0,o1,rfl⟩,hs',ps,el,hP,hpl⟩;rw[length_map,take_of_length_le (zjQ _)]at hP;rw[length_map]at hpl;have hP:PlAt H' ps (prs (hI cl)):=hP;have hl2:ps.length=(prs (hI cl)).length:=Paired.length hP;have B2:=(B1.same s2).same hs';refine⟨_,rfl,l,rfl,⟨_,SqL.of el⟩,λZ2 r hr'=> ?_⟩;refine dI (K:=K) (a:=l) (xs:=ps.map V.ref) (λi σ H''=>(∃o0 o1,σ=[o0,o1,some (.ref p),some (.ref h),some (.ref t)])/\Same H' H''/\∃qs:List Addr,H'' r=some (.lst (qs.map V.ref))/\PlAt H'' qs (((prs (hI cl)).take i).filter λc=>cN g cs cl od hs ks c.1 c.2)/\qs.length<=i) ⟨⟨_,_,rfl⟩,aQ hr',[],by rw[aJ];rfl,.nil,zero_le _⟩ (λi σ H'' _ h=>SqL.of (h.2.1 _ _ el)) ?_ ?_
   ·rintro i x σ H'' hx ⟨⟨o0,o1,rfl⟩,hs'',qs,er,hq,hql⟩;obtain⟨b,hb,rfl⟩:=eI hx;obtain⟨c,hc,he⟩:=hP.at hb;obtain⟨c1,c2,c12⟩:=A4e (mem_of_getElem? hc);have hi:i<(prs (hI cl)).length:=(zjW.mp hc).1;have et:((prs (hI cl)).take (i+1)).filter (λc=>cN g cs cl od hs ks c.1 c.2)=(((prs (hI cl)).take i).filter λc=>cN g cs cl od hs ks c.1 c.2)++(if cN g cs cl od hs ks c.1 c.2=true then [c]else []):=by
     rw[take_succ,hc,filter_append]
     congr 1
     by_cases z:cN g cs cl od hs ks c.1 c.2=true
     ·simp[z]
     ·simp[z]
    rw[et];refine⟨b,_,rfl,SqT.of (hs'' _ _ he),rfl,_,_,rfl,_,_,rfl,rfl,?_⟩;refine⟨_,rfl,_,rfl,_,rfl,_,rfl,_,rfl,p,h,t,g,w',cs,cl,od,hs,ks,c.1,c.2,rfl,B2.same hs'',iD c1,iD c2,by omega,λH5 s5=> ?_⟩;refine⟨_,rfl,cY (λz=> ?_) λz=> ?_⟩
    ·rw[if_pos z];refine⟨_,rfl,_,rfl,by show 2<=sizeLine;decide,λq2 hq2=> ?_⟩;have u:=aQ (o:=.tup [.int c.1,.int c.2]) hq2;have er5:=s5 _ _ er;have er6:=u _ _ er5;have nq:q2≠r:=λz=>by rw[z,er5]at hq2;cases hq2
     refine⟨_,er6,bW (by rw[length_map];omega),⟨_,_,rfl⟩,λb' u' e'=> ?_,qs++[q2],by rw[aJ,map_append];rfl,?_,by rw[length_append];show _+1<=_;omega⟩
     ·rw[aY (bH e' hr')];exact u _ _ (s5 _ _ (hs'' _ _ e'))
     ·exact PlAt.snoc (Paired.mapP hq λ_ _ z=>PlA.put er6 (u _ _ (s5 _ _ z))) (by rw[aY nq,aJ])
    ·rw[if_neg (by rw[z];decide),append_nil];exact⟨⟨_,_,rfl⟩,hs''.trans s5,qs,s5 _ _ er,hq.same s5,by omega⟩
   ·rintro σ H'' ⟨⟨o0,o1,rfl⟩,hs'',qs,er,hq,hql⟩;rw[length_map,hl2,take_of_length_le (zjQ _)]at hq;have hrn:H r=none:=by
     cases e:H r with
     |none=>rfl
     |some o=>rw[hs' _ _ (s2 _ _ (s1 _ _ e))]at hr';cases hr'
    exact q r qs H'' hrn (((s1.trans s2).trans hs').trans hs'') er hq
end
theorem oA {xs:List V}{lo hi:Option Int}{x:V}(h:x∈cutV xs lo hi):x∈xs:=mem_of_mem_drop (mem_of_mem_take h)
noncomputable def pW:Sp:=λvs H Q _=> ∃p q g w cs cl od,vs=[.ref p,.ref q]/\PenAt H p/\PleA H q g w cs cl od/\∀h hs H',Stp p H H'->SqA H' h hs->lZ hs->Q (.ref h) H'
noncomputable abbrev nCo:List Str:=["_law_pen_here","_law_plea","_law_cells_here","_law_found","_law_holder","_law_row","_law_column"]
section
variable {P:Program}{w:World}{K:W.Frag}{mg:Str->Option Value}{base:Heap}
theorem B2f (F:D1 K mg "_law_contrary" wB ["_law_pen_here","_law_plea"])(TC:TxC mg)(aD:A1 P w K mg base 1 "_law_draw" gL)(a1:A1 P w K mg base 1 "_law_cells" (eY pos)):A1 P w K mg base 2 "_law_contrary" pW:=by
  refine F.k nCo ?_;ac_nf
  · obtain⟨p,pl,g,w',cs,cl,od,rfl,pen,D,q⟩:=h
    obtain⟨m,c,a,hp,hm,hc,ha⟩:=D.ex;refine⟨_,aU (iF (i:=2) (j:=3) rfl nd rfl rfl (by decide) rfl rfl (cG (a1.c hr (eX (bJ cA (pv 1) aV (λ_ _=>rfl)) aB)) (lI (cX aB) aB)) rfl)<|
      aU (dX PassesOwn.never rfl (kX rfl TC.range (bZ aV aB)) (nm1 4 nd)
        (aU (eO (bJ eR (pv 2) (aD.c hr (aG (pv 0) (cG (bE fF rfl TC.len PySem.boot_len (aG (pv 2) aB)) aB))) (λ_ _=>rfl)) (bP rfl (bA (nm1 5 nd) (bA (nm1 6 nd) bR))))<|
         aM (cK (gI PySem.F.plainAttrs_list PySem.F.slot_list_append PySem.F.type_list_append iA (pv 3) (gH (dC (dF (bG fK (bG eT (pv 5) (aD.c hr (aG (pv 0) (bZ aV aB)))) aV) (dF (bG fK (bG eT (pv 6) (aD.c hr (aG (pv 0) (bZ aV aB)))) aV) aB))) aB)))))<|
      aM (bC (fC gD rfl TC.tuple boot_tuple (aG (pv 3) aB))),?_⟩
    have h10:(aN pos g).length<=10:=by rw[eU];exact D.G.c10
    have h1:1<=(aN pos g).length:=by rw[eU];exact D.G.c1
    refine⟨_,rfl,pl,_,0,_,rfl,rfl,SqT.of hp,rfl,m,g,w',rfl,hm,D.G,λH1 lc pc hlc s1 elc hPc=> ?_⟩;have hpl:pc.length=(aN pos g).length:=Paired.length hPc;refine⟨by show 0<=sizeLine;decide,λlf hlf=> ?_⟩;have u:=aQ (o:=.lst []) hlf;have st0:=((Stp.refl pen).same s1).same u;obtain⟨hlfH,nlf⟩:=((Stp.refl pen).same s1).none hlf;have nlc:lc≠p:=pen.fresh hlc;have elf:(upd H1 lf (.lst [])) lf=some (.lst []):=aJ;have elc2:=u _ _ elc;have hPc2:=hPc.same u;have nfc:lc≠lf:=bH elc hlf;generalize upd H1 lf (.lst [])=H2 at st0 elf elc2 hPc2⊢;refine⟨_,_,rfl,?_⟩;refine⟨4,rfl,by decide,by decide,?_⟩;refine lQ (lo:=0) (n:=4) (λi σ H'=>(∃o4 o5 o6,σ=[some (.ref p),some (.ref pl),some (.ref lc),some (.ref lf),o4,o5,o6])/\Stp p H H'/\H' lc=some (.lst (pc.map V.ref))/\PlAt H' pc (aN pos g)/\∃(ps:List Addr)(hs:List Pl),H' lf=some (.lst (ps.map V.ref))/\PlAt H' ps hs/\hs.length=i/\∀c∈hs,(-99<=c.1/\c.1<=99)/\-99<=c.2/\c.2<=99)
      ⟨⟨_,_,_,rfl⟩,st0,elc2,hPc2,[],[],elf,.nil,rfl,λc hc=>by cases hc⟩ ?_ ?_
    · rintro i σ H' hi ⟨⟨o4,o5,o6,rfl⟩,st,elc',hPc',ps,hs,el,hP,hl,hb⟩
      have hps:ps.length=hs.length:=Paired.length hP;refine⟨_,rfl,_,rfl,_,rfl,lc,_,rfl,.inl (SqL.of elc'),p,_,rfl,st.pen,by rw[length_map];omega,by rw[length_map];omega,λd H3 d0 d1 st3=> ?_⟩;rw[length_map]at d1;obtain⟨n,rfl⟩:=Int.eq_ofNat_of_zero_le d0;have hnb:pc[n]?=some (pc[n]'(by omega)):=getElem?_eq_getElem (by omega);obtain⟨c,hc,ehb⟩:=hPc'.at hnb;have st13:=st.trans st3;have x3:=st3.ext st.pen;obtain⟨b1,b2,b3,b4⟩:=wF D.G D.g3 D.w4 (mem_of_getElem? hc);refine⟨lc,_,(n:Int),.ref (pc[n]'(by omega)),rfl,rfl,SqL.of (st3.keep _ _ nlc elc'),cB (by rw[getElem?_map,hnb];rfl),_,_,rfl,SqT.of (x3.tup _ _ ehb),rfl,_,_,rfl,_,_,rfl,rfl,?_⟩;have el3:=st3.keep _ _ nlf el;refine⟨_,rfl,.inl ⟨rfl,_,SqL.of el3⟩,_,rfl,_,rfl,p,3,rfl,st13.pen,by decide,by decide,λd1 H4 e1 e2 st4=> ?_⟩;have st14:=st13.trans st4;refine⟨_,_,rfl,rfl,_,_,rfl,rfl,_,rfl,_,rfl,p,3,rfl,st14.pen,by decide,by decide,λd2 H5 f1 f2 st5=> ?_⟩;refine⟨_,_,rfl,rfl,_,_,rfl,rfl,by show 2<=sizeLine;decide,λt ht=> ?_⟩;have u:=aQ (o:=.tup [.int (c.1+d1 - 1),.int (c.2+d2 - 1)]) ht;have el5:=st5.keep _ _ nlf (st4.keep _ _ nlf el3);have el6:=u _ _ el5;have ntl:t≠lf:=λz=>by rw[z,el5]at ht;cases ht
      have x6:=((((x3.trans (st4.ext st13.pen)).trans (st5.ext st14.pen)).trans u.ext).trans (Ext.updL (ys:=ps.map V.ref++[.ref t]) el6));refine⟨lf,_,_,rfl,rfl,el6,bW (by rw[length_map];omega),⟨_,_,_,rfl⟩,((st14.trans st5).same u).updO hlfH pen,?_,Paired.mapP hPc' λ_ _ z=>x6.tup _ _ z,ps++[t],hs++[(c.1+d1 - 1,c.2+d2 - 1)],by rw[aJ,map_append];rfl,?_,by rw[length_append,hl];rfl,λc' hc'=> ?_⟩
      · rw[aY nfc]
        exact u _ _ (st5.keep _ _ nlc (st4.keep _ _ nlc (st3.keep _ _ nlc elc')))
      · exact PlAt.snoc (Paired.mapP hP λ_ _ z=>x6.tup _ _ z) (by rw[aY ntl,aJ])
      · rcases mem_append.mp hc' with z|z
        · exact hb c' z
        · rw[mem_singleton.mp z]
          show(-99<=c.1+d1 - 1/\c.1+d1 - 1<=99)/\-99<=c.2+d2 - 1/\c.2+d2 - 1<=99;omega
    · rintro σ H' ⟨⟨o4,o5,o6,rfl⟩,st,elc',hPc',ps,hs,el,hP,hl,hb⟩
      refine⟨_,rfl,lf,_,rfl,.inl ⟨SqL.of el,λt ht=> ?_⟩⟩;have u:=aQ (o:=.tup (ps.map V.ref)) ht;exact q t hs _ (st.same u) ⟨ps,aJ,hP.same u⟩ ⟨hl,hb⟩
end
theorem A2c:(["_law_own","_law_one","_law_other"]:List Str).Nodup:=by decide +kernel
theorem uF:(["_law_cell_here","_law_own","_law_holder"]:List Str).Nodup:=by decide +kernel
noncomputable abbrev nAf:List Str:=["_law_parting","_law_one","_law_other"]
noncomputable abbrev nIp:List Str:=["_law_plea","_law_thing","_law_cells_here","_law_holder","_law_land"]
noncomputable def yE:Sp:=λvs H Q _=> ∃p t g w cs cl od ks,vs=[.ref p,.ref t]/\PleA H p g w cs cl od/\H t=some (.tup ((ks:List Int).map V.int))/\ks.length=(aN pos g).length/\∀H',Same H H'->Q (.bl (eQ g cs cl od ks)) H'
section
variable {P:Program}{w:World}{K:W.Frag}{mg:Str->Option Value}{base:Heap}
theorem A6f (F:D1 K mg "_law_after" sL nAf)(TC:TxC mg):A1 P w K mg base 1 "_law_after" kJ:=by
 refine F.k nAf ?_;ac_nf
 ·obtain⟨t,ks,i,j,rfl,ht,hz,hn,q⟩:=h;refine⟨_,aM (bC (fC gD rfl TC.tuple boot_tuple (cO (bN (bB sL).names nAf ["_law_own"] [("_law_one",1),("_law_other",2)] rfl (cR (pv 0)) rfl rfl rfl (by decide +kernel)
    (λZ=>nm1 0 A2c) (λZ=>cF) (λZ=>uK (lt_of_succ_lt (eL hr)) (wS (oC (pv 1) (pv 2) (oC (pv 2) (pv 1) A0h)) rfl rfl (by simp) (by simp)) (pv 0) (pv 0) ⟨rfl,rfl,rfl,rfl⟩)) aB))),?_⟩
  refine⟨_,rfl,t,rfl,⟨_,SqT.of ht⟩,λZ l hl=> ?_⟩;refine fZ (rest:=[some (.int i),some (.int j)]) (swV i j) ht hl (by rw[length_map];omega) (λx H' Q' hm hs hq=> ?_) λσ H3 s3 el=> ?_
  ·obtain⟨k,_,rfl⟩:=mem_map.mp hm;intro pd hpd;refine⟨_,rfl,_,rfl,_,rfl,_,rfl,aJ,[(Sum.inl i,.int j),(Sum.inl j,.int i)],rfl,by show 2<=15;decide,?_⟩;have em:gR [] [((Sum.inl i:Key),V.int j),(Sum.inl j,.int i)]=([(Sum.inl i,V.int j),(Sum.inl j,.int i)]:List (Key×V)):=by
    have:¬i=j:=hn;simp[gR,eK,this]
   rw[em];have s2:Same H' (upd (upd H' pd (.dK [])) pd (.dK [(Sum.inl i,V.int j),(Sum.inl j,.int i)])):=λc u e=>by
    have:c≠pd:=bH e hpd;rw[aY this,aY this];exact e
   have hD:(upd (upd H' pd (.dK [])) pd (.dK [(Sum.inl i,V.int j),(Sum.inl j,.int i)])) pd=some (.dK [(Sum.inl i,V.int j),(Sum.inl j,.int i)]):=aJ;refine⟨pd,rfl,.inl ⟨_,.inl hD⟩,_,rfl,_,rfl,_,DGet.k (k:=Sum.inl k) hD,?_⟩;rw[yP];exact hq _ s2
  ·have e2:(ks.map V.int).map (swV i j)=(swK i j ks).map V.int:=by
    unfold swK;rw[map_map,map_map];rfl
   rw[e2]at el;refine⟨l,_,rfl,.inl ⟨SqL.of el,λtt htt=> ?_⟩⟩;have u:=aQ (o:=.tup ((swK i j ks).map V.int)) htt;exact q tt _ (s3.trans u) aJ
theorem A8k (F:D1 K mg "_law_is_parting" qG ["_law_plea","_law_thing"])(TC:TxC mg)(T2:eE mg)(a1:A1 P w K mg base 1 "_law_cells" (eY pos))(aH:A1 P w K mg base 1 "_law_holders" kQ)(aF:A1 P w K mg base 3 "_law_fits" tN):A1 P w K mg base 4 "_law_is_parting" yE:=by
  refine F.k nIp ?_;ac_nf
  · obtain⟨p,t,g,w',cs,cl,od,ks,rfl,D,ht,hl,q⟩:=h
    obtain⟨m,c,a,hp,hm,hc,ha⟩:=D.ex;refine⟨_,aU (bX (i:=2) nd rfl (Or.inl rfl) (a1.c hr (eX (bJ cA (pv 0) aV (λ_ _=>rfl)) aB)))<|
      aU (dX PassesOwn.never rfl (cV (aH.c hr (aG (pv 0) aB))) (aK (i:=3) nd rfl (Or.inr rfl))
        (aU (bX (i:=4) nd rfl (Or.inl rfl) (fC gD rfl TC.tuple boot_tuple (cO (bN (bB qG).names nIp ["_law_cell_here","_law_own"] [("_law_holder",3)] rfl (pL rfl T2.zip (aG (pv 2) (aG (pv 1) aB))) rfl rfl rfl (by decide +kernel)
            (λZ=>bP rfl (bA (nm1 0 uF) (bA (nm1 1 uF) bR))) (λZ=>eP (bV eG (pv 1) (pv 2) (nomark _))) (λZ=>pv 0)) aB)))<|
         aM (bK (cC (bM (aF.c hr (aG (pv 0) (aG (pv 3) (aG (pv 4) aB)))))) (aM (bC cQ)) bL)))<|
      aM (bC cQ),?_⟩
    have h10:(aN pos g).length<=10:=by rw[eU];exact D.G.c10
    refine⟨_,rfl,p,_,0,_,rfl,rfl,SqT.of hp,rfl,m,g,w',rfl,hm,D.G,λH1 lc pc hlc s1 elc hPc=> ?_⟩;have hpl:pc.length=(aN pos g).length:=Paired.length hPc;refine⟨_,rfl,p,g,w',cs,cl,od,rfl,D.same s1,λlh H2 hlh s2 elh=> ?_⟩;have eh:((aX (cD cl)).map λk:Nat=>V.int (k:Int))=(hI cl).map V.int:=by unfold hI;rw[map_map];rfl
    rw[eh]at elh;have ep:eQ g cs cl od ks=(hI cl).all λh=>dQ g cs cl od h (bT g ks h):=by unfold eQ hI;rw[all_map];rfl
    refine⟨lh,rfl,⟨_,SqL.of elh⟩,?_⟩;refine dI (K:=K) (a:=lh) (xs:=(hI cl).map V.int) (λj σ H'=>(∃o3 o4,σ=[some (.ref p),some (.ref t),some (.ref lc),o3,o4])/\Same H2 H'/\(((hI cl).take j).all λh=>dQ g cs cl od h (bT g ks h))=true) ⟨⟨_,_,rfl⟩,Same.refl _,rfl⟩ (λj σ H' _ h=>SqL.of (h.2.1 _ _ elh)) ?_ ?_
    · rintro j x σ H' hx ⟨⟨o3,o4,rfl⟩,hs',hall⟩
      obtain⟨n,hn,rfl⟩:=gS hx;have s2':=s2.trans hs';have elc2:=s2' _ _ elc;have hPc2:=hPc.same s2';have ht2:=(s1.trans s2') _ _ ht;refine⟨_,rfl,_,rfl,lc,t,_,_,rfl,SqL.of elc2,SqT.of ht2,λZ l hl'=> ?_⟩;refine lT (xs:=pc.map V.ref) (ys:=ks.map V.int) (by rw[length_map,length_map];omega)
        (λi σ H''=>(∃o0 o1,σ=[o0,o1,some (.int n)])/\Same H' H''/\∃qs,H'' l=some (.lst ((qs:List Addr).map V.ref))/\PlAt H'' qs (((((aN pos g).zip ks).take i).filter λz=>decide (z.2=n)).map (·.1))/\qs.length<=i)
        ⟨⟨_,_,rfl⟩,aQ hl',[],by rw[aJ];rfl,.nil,zero_le _⟩ (λi σ H'' h=> ⟨SqL.of (h.2.1 _ _ elc2),SqT.of (h.2.1 _ _ ht2)⟩) ?_ ?_
      · rintro i x y pz σ H3 hx hy ⟨⟨o0,o1,rfl⟩,hs3,qs,hl3,hq3,hql⟩ hpz
        obtain⟨b,hb,rfl⟩:=eI hx;obtain⟨c,hc,he⟩:=hPc2.at hb;obtain⟨m',hm',rfl⟩:=gS hy;have s4:=aQ (o:=.tup [.ref b,.int m']) hpz;have ez:((aN pos g).zip ks)[i]?=some (c,m'):=List.getElem?_zip_eq_some.mpr ⟨hc,hm'⟩;have hjl:i<(aN pos g).length:=(zjW.mp hc).1;have et:(((((aN pos g).zip ks).take (i+1)).filter λz=>decide (z.2=n)).map (·.1))=(((((aN pos g).zip ks).take i).filter λz=>decide (z.2=n)).map (·.1))++(if m'=n then [c]else []):=by
          rw[take_succ,ez,filter_append,map_append]
          congr 1
          by_cases z:m'=n
          · simp[z]
          · simp only[Option.toList,filter_cons,filter_nil,zjU z,if_neg z];rfl
        rw[et];have hl4:=s4 _ _ hl3;refine⟨pz,_,rfl,SqT.of aJ,rfl,_,_,rfl,_,_,rfl,rfl,?_⟩;refine⟨_,rfl,_,rfl,rfl,_,rfl,dW (λz=> ?_) λz=> ?_⟩
        · rw[if_pos (V.int.inj z)]
          refine⟨_,rfl,_,hl4,bW (by rw[length_map];omega),⟨_,_,rfl⟩,λb' u e'=> ?_,qs++[b],?_,?_,?_⟩
          · rw[aY (bH e' hl')];exact s4 _ _ (hs3 _ _ e')
          · rw[aJ,map_append];rfl
          · exact PlAt.snoc (Paired.mapP hq3 λ_ _ z=>PlA.put hl4 (s4 _ _ z)) (PlA.put hl4 (s4 _ _ (hs3 _ _ he)))
          · rw[length_append];show _+1<=_;omega
        · rw[if_neg (λy=>z (by rw[y])),append_nil]
          exact⟨⟨_,_,rfl⟩,hs3.trans s4,qs,hl4,hq3.same s4,by omega⟩
      · rintro σ H3 ⟨⟨o0,o1,rfl⟩,hs3,qs,hl3,hq3,hql⟩
        have el:(ks.map V.int).length=((aN pos g).zip ks).length:=by rw[length_map,length_zip];omega
        rw[el,take_of_length_le (zjQ _)]at hq3;refine⟨l,_,rfl,.inl ⟨SqL.of hl3,λtt htt=> ?_⟩⟩;have u:=aQ (o:=.tup (qs.map V.ref)) htt;have hL:SqA (upd H3 tt (.tup (qs.map V.ref))) tt (bT g ks n):=⟨qs,aJ,hq3.same u⟩;have sA:=hs3.trans u;generalize upd H3 tt (.tup (qs.map V.ref))=H4 at hL sA⊢;refine⟨_,rfl,_,rfl,_,rfl,p,tt,g,w',cs,cl,od,n,bT g ks n,rfl,((D.same s1).same s2').same sA,hL,rX n hl,λH5 s5=> ⟨_,rfl,?_⟩⟩;have hj:j<(hI cl).length:=(zjW.mp hn).1;refine cY (λz=> ?_) λz=> ?_
        · have hf:eQ g cs cl od ks=false:=by
            rw[ep,Bool.eq_false_iff];intro hh;have:=all_eq_true.mp hh n (mem_of_getElem? hn);rw[this]at z;cases z
          rw[←hf];exact q H5 ((s1.trans s2').trans (sA.trans s5))
        · refine⟨⟨_,_,rfl⟩,hs'.trans (sA.trans s5),?_⟩
          rw[take_succ,hn,List.all_append,hall];simpa using z
    · rintro σ H' ⟨⟨o3,o4,rfl⟩,hs',hall⟩
      rw[length_map,take_of_length_le (zjQ _)]at hall;have hf:eQ g cs cl od ks=true:=by rw[ep];exact hall
      rw[←hf];exact q H' ((s1.trans s2).trans hs')
end
noncomputable abbrev nLw:List Str:=["_law_plea","_law_houses","_law_parting","_law_one","_law_other","_law_later","_law_holder"]
noncomputable abbrev A73:List Str:=["_law_plea","_law_houses","_law_parting","_law_found","_law_holders_here","_law_one","_law_two"]
section
variable {P:Program}{w:World}{K:W.Frag}{mg:Str->Option Value}{base:Heap}
theorem B2i (F:D1 K mg "_law_would" zV ["_law_plea","_law_houses","_law_parting","_law_one","_law_other"])(aA:A1 P w K mg base 1 "_law_after" kJ)(aI:A1 P w K mg base 4 "_law_is_parting" yE)(aW:A1 P w K mg base 2 "_law_way" uU):A1 P w K mg base 5 "_law_would" iR:=by
 refine F.k nLw ?_;ac_nf
 ·obtain⟨p,h,t,g,w',cs,cl,od,hs,ks,i,j,rfl,B,hi,hj,hn,q⟩:=h;refine⟨_,aU (bX (i:=5) nd rfl (Or.inl rfl) (aA.c hr (aG (pv 2) (aG (pv 3) (aG (pv 4) aB)))))<|
   aU (bK (cC (bM (aI.c hr (aG (pv 0) (aG (pv 5) aB))))) (aM (bC cQ)) bL)<|
   aU (dX PassesOwn.never rfl (cR (dC (aG (pv 3) (aG (pv 4) aB)))) (nm1 6 nd)
    (aM (bK (bV mK (aW.c hr (aG (pv 0) (aG (pv 1) (aG (pv 5) (aG (pv 6) aB))))) (aW.c hr (aG (pv 0) (aG (pv 1) (aG (pv 2) (aG (pv 6) aB))))) (nomark _)) (aM (bC cQ)) bL)))<|
   aM (bC cQ),?_⟩
  obtain⟨i0,i3,hnei⟩:=B.ne hi;obtain⟨j0,j3,hnej⟩:=B.ne hj;refine⟨_,rfl,_,rfl,_,rfl,t,ks,i,j,rfl,B.B.t,le_trans B.B.l10 (by decide),hn,λt' H1 s1 et'=> ?_⟩;have B1:=B.same s1;refine⟨_,rfl,_,rfl,p,t',g,w',cs,cl,od,swK i j ks,rfl,B1.B.D,et',by rw[kY];exact B.B.l,λH2 s2=> ⟨_,rfl,?_⟩⟩;have B2:=B1.same s2;have et2:=s2 _ _ et';refine cY (λe=> ?_) λe=> ?_
  ·have ew:cN g cs cl od hs ks i j=false:=by
    have e':eQ g cs cl od (swK i j ks)=false:=by simpa using e
    unfold cN;rw[e',Bool.and_false]
   rw[←ew];exact q H2 (s1.trans s2)
  ·have ep:eQ g cs cl od (swK i j ks)=true:=by simpa using e
   refine⟨_,rfl,_,rfl,by show 2<=sizeLine;decide,λtw htw=> ?_⟩;have u:=aQ (o:=.tup [.int i,.int j]) htw;have etw:(upd H2 tw (.tup [.int i,.int j])) tw=some (.tup ([i,j].map V.int)):=aJ;have B3:=B2.same u;have et3:=u _ _ et2;have sH:=(s1.trans s2).trans u;generalize upd H2 tw (.tup [.int i,.int j])=H3 at etw B3 et3 sH⊢;refine⟨tw,rfl,⟨_,SqT.of etw⟩,?_⟩;refine gG (K:=K) (a:=tw) (xs:=[i,j].map V.int) (λm σ H'=>(∃o6,σ=[some (.ref p),some (.ref h),some (.ref t),some (.int i),some (.int j),some (.ref t'),o6])/\Same H3 H'/\∀k∈([i,j].take m),dP g hs (swK i j ks) k<dP g hs ks k) ⟨⟨_,rfl⟩,Same.refl _,λk hk=>by cases hk⟩ (λm σ H' _ h=>SqT.of (h.2.1 _ _ etw)) ?_ ?_
   ·rintro m x σ H' hx ⟨⟨o6,rfl⟩,hs',hall⟩;obtain⟨k,hk,rfl⟩:=gS hx;have hkm:=mem_of_getElem? hk;obtain⟨hk1,hne⟩:cM cl k=true/\bT g (swK i j ks) k≠[]:=by
     simp only[mem_cons,not_mem_nil,or_false]at hkm;rcases hkm with rfl|rfl
     ·exact⟨hi,by rw[A16 hn];exact hnej⟩
     ·exact⟨hj,by rw[wM hn];exact hnei⟩
    obtain⟨k0,k3,hne2⟩:=B.ne hk1;have B4:=B3.same hs';refine⟨_,rfl,_,rfl,_,rfl,_,rfl,p,h,t',g,w',cs,cl,od,hs,swK i j ks,k,rfl,B4.B.D,B4.h,B4.o.l,hs' _ _ et3,by rw[kY];exact B.B.l,k0,k3,hne,λH5 s5=> ?_⟩;have B5:=B4.same s5;refine⟨_,rfl,_,rfl,_,rfl,_,rfl,p,h,t,g,w',cs,cl,od,hs,ks,k,rfl,B5.B.D,B5.h,B5.o.l,B5.B.t,B.B.l,k0,k3,hne2,λH6 s6=> ?_⟩;refine⟨_,_,rfl,rfl,_,rfl,dW (λz=> ?_) λz=> ?_⟩
    ·have ew:cN g cs cl od hs ks i j=false:=by
      rw[Bool.eq_false_iff];intro hw;obtain⟨f1,f2,_⟩:=A40 hw;simp only[mem_cons,not_mem_nil,or_false]at hkm;rcases hkm with rfl|rfl<;>omega
     rw[←ew];exact q H6 ((sH.trans hs').trans (s5.trans s6))
    ·refine⟨⟨_,rfl⟩,hs'.trans (s5.trans s6),λk' hk'=> ?_⟩;rw[take_succ,hk]at hk';rcases mem_append.mp hk' with y|y
     ·exact hall k' y
     ·have:k'=k:=by simpa using y
      rw[this];omega
   ·rintro σ H' ⟨⟨o6,rfl⟩,hs',hall⟩;have f1:=hall i (by simp);have f2:=hall j (by simp);have ew:cN g cs cl od hs ks i j=true:=by
     unfold cN;rw[ep,zjV f1,zjV f2];rfl
    rw[←ew];exact q H' (sH.trans hs')
theorem A2t (F:D1 K mg "_law_pairs" uW ["_law_plea","_law_houses","_law_parting"])(aH:A1 P w K mg base 1 "_law_holders" kQ)(aW:A1 P w K mg base 5 "_law_would" iR):A1 P w K mg base 6 "_law_pairs" lW:=by
 refine F.k A73 ?_;ac_nf
 ·obtain⟨p,h,t,g,w',cs,cl,od,hs,ks,rfl,B,q⟩:=h;refine⟨_,aU (iF (i:=3) (j:=4) rfl nd rfl rfl (by decide) rfl rfl (lI (cX aB) (cG (aH.c hr (aG (pv 0) aB)) aB)) rfl)<|
   aU (dX PassesOwn.never rfl (cV (pv 4)) (nm1 5 nd)
    (aM (dX PassesOwn.never rfl (cV (pv 4)) (nm1 6 nd)
     (aM (bK (PW.pt (kU (bV iQ (pv 5) (pv 6) (nomark _)) (lL (bM (aW.c hr (aG (pv 0) (aG (pv 1) (aG (pv 2) (aG (pv 5) (aG (pv 6) aB)))))))))) (aM (cK (gI PySem.F.plainAttrs_list PySem.F.slot_list_append PySem.F.type_list_append iA (pv 3) (gH (dC (aG (pv 5) (aG (pv 6) aB))) aB)))) bL)))))<|
   aM (bC (pv 3)),?_⟩
  refine⟨by show 0<=sizeLine;decide,λl hl=> ?_⟩;have u:=aQ (o:=.lst []) hl;have el:(upd H l (.lst [])) l=some (.lst []):=aJ;have B1:=B.same u;generalize upd H l (.lst [])=H1 at u el B1⊢;refine⟨_,rfl,p,g,w',cs,cl,od,rfl,B1.B.D,λlh H2 hlh s2 elh=> ?_⟩;have eh:((aX (cD cl)).map λk:Nat=>V.int (k:Int))=(hI cl).map V.int:=by unfold hI;rw[map_map];rfl
  rw[eh]at elh;have h4:=rS cl;have nlh:lh≠l:=λz=>by rw[z,el]at hlh;cases hlh
  refine⟨_,_,rfl,?_⟩;have sH2:Same H H2:=u.trans s2;refine⟨_,rfl,lh,rfl,⟨_,SqL.of elh⟩,?_⟩;refine dI (K:=K) (a:=lh) (xs:=(hI cl).map V.int) (λi σ H'=>(∃o5 o6,σ=[some (.ref p),some (.ref h),some (.ref t),some (.ref l),some (.ref lh),o5,o6])/\Same H H'/\Sb l H2 H'/\∃ps:List Addr,H' l=some (.lst (ps.map V.ref))/\PlAt H' ps ((gA (hI cl) ((hI cl).take i)).filter λc=>cN g cs cl od hs ks c.1 c.2)/\ps.length<=4*i)
   ⟨⟨_,_,rfl⟩,sH2,Sb.refl _ _,[],s2 _ _ el,.nil,zero_le _⟩ (λi σ H' _ h=>SqL.of (h.2.2.1 _ _ nlh elh)) ?_ ?_
  ·rintro i x σ H' hx ⟨⟨o5,o6,rfl⟩,hs',sb',ps,el',hP,hpl⟩;obtain⟨n,hn,rfl⟩:=gS hx;have hi:i<(hI cl).length:=(zjW.mp hn).1;refine⟨_,rfl,lh,rfl,⟨_,SqL.of (sb' _ _ nlh elh)⟩,?_⟩;refine dI (K:=K) (a:=lh) (xs:=(hI cl).map V.int) (λj σ H''=>(∃o6,σ=[some (.ref p),some (.ref h),some (.ref t),some (.ref l),some (.ref lh),some (.int n),o6])/\Same H H''/\Sb l H2 H''/\∃ps:List Addr,H'' l=some (.lst (ps.map V.ref))/\PlAt H'' ps ((gA (hI cl) ((hI cl).take i)++(((hI cl).take j).filter λj=>decide (n<j)).map λj=>(n,j)).filter λc=>cN g cs cl od hs ks c.1 c.2)/\ps.length<=4*i+j)
    ⟨⟨_,rfl⟩,hs',sb',ps,el',by simpa using hP,by omega⟩ (λj σ H'' _ h=>SqL.of (h.2.2.1 _ _ nlh elh)) ?_ ?_
   ·rintro j y σ H'' hy ⟨⟨o6,rfl⟩,hs'',sb'',ps2,el2,hP2,hpl2⟩;obtain⟨k,hk,rfl⟩:=gS hy;have hj:j<(hI cl).length:=(zjW.mp hk).1;have et:(((hI cl).take (j+1)).filter λj=>decide (n<j)).map (λj=>(n,j))=((((hI cl).take j).filter λj=>decide (n<j)).map λj=>(n,j))++(if n<k then [(n,k)]else []):=by
     rw[take_succ,hk,filter_append,map_append]
     congr 1
     by_cases z:n<k
     ·simp[z]
     ·simp[z]
    rw[et];refine⟨_,rfl,_,rfl,_,_,rfl,rfl,_,rfl,dW (λz=> ?_) λz=> ?_⟩
    ·rw[if_pos z];have B3:=B.same hs'';refine⟨_,rfl,_,rfl,_,rfl,_,rfl,_,rfl,p,h,t,g,w',cs,cl,od,hs,ks,n,k,rfl,B3,iD (mem_of_getElem? hn),iD (mem_of_getElem? hk),by omega,λH5 s5=> ?_⟩;have el5:=s5 _ _ el2;refine⟨_,rfl,cY (λe=> ?_) λe=> ?_⟩
     ·have ef:∀zs:List Pl,(zs++[(n,k)]).filter (λc=>cN g cs cl od hs ks c.1 c.2)=(zs.filter λc=>cN g cs cl od hs ks c.1 c.2)++[(n,k)]:=λzs=>by rw[filter_append];simp[e]
      rw[←append_assoc,ef];refine⟨_,rfl,.inl ⟨rfl,_,SqL.of el5⟩,_,rfl,_,rfl,by show 2<=sizeLine;decide,λq2 hq2=> ?_⟩;have u2:=aQ (o:=.tup [.int n,.int k]) hq2;have el6:=u2 _ _ el5;have nq:q2≠l:=λz=>by rw[z,el5]at hq2;cases hq2
      refine⟨l,_,_,rfl,rfl,el6,bW (by rw[length_map];omega),⟨_,rfl⟩,λb' u' e'=> ?_,λb' u' nb e'=> ?_,ps2++[q2],by rw[aJ,map_append];rfl,?_,by rw[length_append];show _+1<=_;omega⟩
      ·rw[aY (bH e' hl)];exact u2 _ _ (s5 _ _ (hs'' _ _ e'))
      ·rw[aY nb];exact u2 _ _ (s5 _ _ (sb'' _ _ nb e'))
      ·exact PlAt.snoc (Paired.mapP hP2 λ_ _ z=>PlA.put el6 (u2 _ _ (s5 _ _ z))) (by rw[aY nq,aJ])
     ·have ef:∀zs:List Pl,(zs++[(n,k)]).filter (λc=>cN g cs cl od hs ks c.1 c.2)=zs.filter λc=>cN g cs cl od hs ks c.1 c.2:=λzs=>by rw[filter_append];simp[e]
      rw[←append_assoc,ef];exact⟨⟨_,rfl⟩,hs''.trans s5,sb''.trans (Sb.of s5),ps2,el5,hP2.same s5,by omega⟩
    ·rw[if_neg z,append_nil];exact⟨⟨_,rfl⟩,hs'',sb'',ps2,el2,hP2,by omega⟩
   ·rintro σ H'' ⟨⟨o6,rfl⟩,hs'',sb'',ps2,el2,hP2,hpl2⟩;rw[length_map]at hP2 hpl2;rw[take_of_length_le (zjQ _)]at hP2;have et:(hI cl).take (i+1)=(hI cl).take i++[n]:=by rw[take_succ,hn];rfl
    refine⟨⟨_,_,rfl⟩,hs'',sb'',ps2,el2,?_,by omega⟩;rw[et,xJ];exact hP2
  ·rintro σ H' ⟨⟨o5,o6,rfl⟩,hs',sb',ps,el',hP,hpl⟩;rw[length_map,take_of_length_le (zjQ _)]at hP;exact⟨_,rfl,q l ps H' hl hs' el' hP⟩
end
end M51
namespace L2
open PySem PyProof.Rows
noncomputable def AX (P:Program)(w:World)(K:W.Frag)(mg:Str->Option Value)(base:Heap)(k:Nat)(x:Str)(sp:Sp):Prop:=∃f fd ps,mg x=some (.ref f)/\W.keepIn K (.ref f)=true/\Binds K fd ps []/\FnOk P w K mg base (CX1 P w) k f fd ps sp
end L2
namespace M51
open PySem L2 PyProof.Rows Grd Wlk Cyc Srt Set4
structure Cls (K:W.Frag)(mg:Str->Option Value)(cE cW cH cP:Addr):Prop where
 mE:mg "MeadError" =some (.ref cE)
 mW:mg "NoWill" =some (.ref cW)
 mH:mg "NoHolder" =some (.ref cH)
 mP:mg "NoParting" =some (.ref cP)
 mV:mg "ValueError" =none
 d:jQ K cW
 ex:ExcC K cW
 x:W.exmOne K (.ref cW) (.ref cE)=some true
 k1:W.kitOne K (.ref cW) (.ref cW)=some true
 k2:W.kitOne K (.ref cW) (.ref cH)=some false
 k3:W.kitOne K (.ref cW) (.ref cP)=some false
 k4:W.kitOne K (.ref cW) (.type "ValueError")=some true
noncomputable def vS (cW:Addr):Sp:=λvs H Q E=> ∃p h t g w cs cl od hs ks i j,vs=[.ref p,.ref h,.ref t,.int i,.int j]/\PhA H p h t g w cs cl od hs ks/\cM cl i=true/\cM cl j=true/\i≠j/\
 (cN g cs cl od hs ks i j=true->∀t' H',Same H H'->H' t'=some (.tup ((swK i j ks).map V.int))->Q (.ref t') H')/\(cN g cs cl od hs ks i j=false->∀H',Same H H'->E (.ref cW) none H')
noncomputable def wO:Sp:=λvs H Q _=> ∃p h t g w cs cl od hs ks i j,vs=[.ref p,.ref h,.ref t,.int i,.int j]/\PhA H p h t g w cs cl od hs ks/\cM cl i=true/\cM cl j=true/\i≠j/\
 (cN g cs cl od hs ks i j=true->∀t' H',Same H H'->H' t'=some (.tup ((swK i j ks).map V.int))->Q (.ref t') H')/\(cN g cs cl od hs ks i j=false->∀H',Same H H'->Q (.str "none") H')
noncomputable abbrev nEx:List Str:=["plea","houses","parting","one","other"]
noncomputable abbrev nTo:List Str:=["_law_plea","_law_houses","_law_parting","_law_one","_law_other","e","_law_marks"]
theorem A5r:fN nEx nEx (bB pJ):=by ac_rfl
theorem scTo:fN nTo ["_law_plea","_law_houses","_law_parting","_law_one","_law_other"] (bB kH):=by ac_rfl
theorem A4v:bootBuiltins "ValueError" =some (.type "ValueError"):=by decide +kernel
noncomputable def A3g (s:Stmt):List Stmt:=match dG s with| [.Try _ [.ExceptHandler _ _ b _] _ _ _]=>b|_=> []
section
variable {P:Program}{w:World}{K:W.Frag}{mg:Str->Option Value}{base:Heap}
theorem A4d {cE cW cH cP:Addr}(F:D1 K mg "exchanged" pJ nEx)(C:Cls K mg cE cW cH cP)(a1:A1 P w K mg base 15 "would_exchange" iR)(a3:A1 P w K mg base 1 "turned_about" kJ):AX P w K mg base 16 "exchanged" (vS cW):=by
 obtain⟨f,fd,F,mf,bf⟩:=F;refine⟨f,fd,nEx,mf,F.kp,bf,F.okX A5r (λvs H Q E h=> ?_) (λcdv A outer s H vs Q E hr h=> ?_)⟩
 ·obtain⟨_,_,_,_,_,_,_,_,_,_,_,_,rfl,_⟩:=h;rfl
 ·obtain⟨p,h,t,g,w',cs,cl,od,hs,ks,i,j,rfl,B,hi,hj,hn,q1,q2⟩:=h;refine⟨_,aU (bK (cC (bM (a1.c hr (aG (pv 0) (aG (pv 1) (aG (pv 2) (aG (pv 3) (aG (pv 4) aB)))))))) (aM (B0d (E:=E) rfl rfl rfl rfl rfl rfl C.mW C.ex)) bL)<|
   aM (bC (a3.c hr (aG (pv 2) (aG (pv 3) (aG (pv 4) aB))))),?_⟩
  refine⟨_,rfl,_,rfl,_,rfl,_,rfl,_,rfl,p,h,t,g,w',cs,cl,od,hs,ks,i,j,rfl,B,hi,hj,hn,λH1 s1=> ⟨_,rfl,?_⟩⟩;refine cY (λe=>q2 (by simpa using e) H1 s1) λe=> ?_;have B1:=B.same s1;refine⟨_,rfl,_,rfl,_,rfl,t,ks,i,j,rfl,B1.B.t,le_trans B1.B.l10 (by decide),hn,λt' H2 s2 et'=> ?_⟩;exact q1 (by simpa using e) t' H2 (s1.trans s2) et'
theorem B1s {cE cW cH cP:Addr}(F:D1 K mg "_law_told" kH ["_law_plea","_law_houses","_law_parting","_law_one","_law_other"])(TC:TxC mg)(C:Cls K mg cE cW cH cP)(aE:AX P w K mg base 16 "exchanged" (vS cW)):A1 P w K mg base 17 "_law_told" wO:=by
 obtain⟨f,fd,F,mf,bf⟩:=F;have nd:=scTo.nd;obtain⟨fe,fde,pse,me,ke,be,oe'⟩:=aE;refine⟨f,fd,_,mf,F.kp,bf,F.okTry (i:=5) (Cy:=cE) scTo (λvs H Q E h=> ?_) rfl rfl C.mE rfl rfl (by decide) (λcdv A outer s H vs Q E hr h=> ?_)⟩
 ·obtain⟨_,_,_,_,_,_,_,_,_,_,_,_,rfl,_⟩:=h;rfl
 ·obtain⟨p,h,t,g,w',cs,cl,od,hs,ks,i,j,rfl,B,hi,hj,hn,q1,q2⟩:=h;have hu:(A.deeper (envOfC "_law_told" (bB kH) s.heap.objs.size f cdv)).units<cLine:=lt_of_succ_lt (lt_of_succ_lt (eL hr));have hS:∀(e:Addr)(oe:Obj),∃tt,PSs ((dJ CX0 P w K mg base nTo "_law_told" (bB kH) f cdv A outer s H E).nox.within e oe) (A3g kH) tt/\
    ∀H',oe.cls= .ref cW->(∀H2,Same H' H2->Q (.str "none") H2)->tt {nx:=λ_ _=>False,rt:=Q} [none,none,none,none,none,some (.ref e),none] H':=λe oe=>by
   refine⟨_,aU (bX (i:=6) nd rfl (Or.inl rfl) (cX (cG (bE (oR C.d) rfl TC.isinstance boot_isinstance (aG (pv 5) (aG (dS (v:=.ref cW) rfl C.mW rfl) aB)))
     (cG (bE (oR C.d) rfl TC.isinstance boot_isinstance (aG (pv 5) (aG (dS (v:=.ref cH) rfl C.mH rfl) aB)))
     (cG (bE (oR C.d) rfl TC.isinstance boot_isinstance (aG (pv 5) (aG (dS (v:=.ref cP) rfl C.mP rfl) aB)))
     (cG (bE (oR C.d) rfl TC.isinstance boot_isinstance (aG (pv 5) (aG (fV (v:=.ty "ValueError") rfl C.mV A4v rfl) aB))) aB))))))<|
    aM (bC (tZ (bV (A84 hu) (pv 6) (cX (bZ cQ (bZ cQ (bZ cQ (bZ cQ aB))))) (nomark _)) lV lV)),λH' hc qq=> ?_⟩
   refine⟨_,rfl,hc,.inl ⟨cW,true,rfl,C.k1,?_⟩⟩;refine⟨_,rfl,hc,.inl ⟨cH,false,rfl,C.k2,?_⟩⟩;refine⟨_,rfl,hc,.inl ⟨cP,false,rfl,C.k3,?_⟩⟩;refine⟨_,rfl,hc,.inr ⟨"ValueError",true,rfl,C.k4,?_⟩⟩;refine⟨by show 4<=sizeLine;decide,λl hl=> ?_⟩;have s1:=aQ (o:=.lst [.bl true,.bl false,.bl false,.bl true]) hl;refine⟨_,rfl,by show 4<=sizeLine;decide,λl2 hl2=> ?_⟩;have s2:=aQ (o:=.lst [.bl true,.bl false,.bl false,.bl true]) hl2;refine⟨l,l2,[true,false,false,true],rfl,rfl,s2 _ _ aJ,aJ,_,rfl,fM ?_⟩;exact qq _ (s1.trans s2)
  refine⟨λcls _ H'=>cls= .ref cW/\cN g cs cl od hs ks i j=false/\Same H H',_,λe oe=>(hS e oe).choose,aM (bC (rW oe' hr rfl me ke be .nil A89 (aG (pv 0) (aG (pv 1) (aG (pv 2) (aG (pv 3) (aG (pv 4) aB))))))),λe oe=>(hS e oe).choose_spec.1,?_,?_,?_⟩
  ·exact⟨_,rfl,_,rfl,_,rfl,_,rfl,_,rfl,p,h,t,g,w',cs,cl,od,hs,ks,i,j,rfl,B,hi,hj,hn,q1,λhf H' hs'=> ⟨rfl,hf,hs'⟩⟩
  ·rintro cls H' ⟨rfl,_⟩;exact C.x
  ·rintro e oe cls H' hc ⟨rfl,hf,hs'⟩;exact(hS e oe).choose_spec.2 H' hc λH2 s2=>q2 hf H2 (hs'.trans s2)
end
theorem A0d:∀{ps qs:List Addr}{cs:List Pl},PlAt H ps cs->PlAt H qs cs->Paired (SameV H 1) (ps.map V.ref) (qs.map V.ref)
 |_,_,_,.nil,.nil=> .nil
 |_,_,_,.cons r1 t1,.cons r2 t2=> .cons (.inr ⟨_,_,_,_,rfl,rfl,.inr ⟨r1,r2⟩,by show 2<=1000;decide,.cons (SameV.int 0 _) (.cons (SameV.int 0 _) .nil)⟩) (A0d t1 t2)
theorem vM (n:Nat):∀ks:List Int,Paired (SameV H n) (ks.map V.int) (ks.map V.int)
 | []=> .nil
 |k::ks=> .cons (SameV.int n k) (vM n ks)
noncomputable def xU:Sp:=λvs H Q _=> ∃p h t g w cs cl od hs ks i j,vs=[.ref p,.ref h,.ref t,.int i,.int j]/\PhA H p h t g w cs cl od hs ks/\cM cl i=true/\cM cl j=true/\i≠j/\∀H',Same H H'->Q (.bl true) H'
noncomputable def tE:Sp:=λvs H Q _=> ∃p h t g w cs cl od hs ks,vs=[.ref p,.ref h,.ref t]/\PhA H p h t g w cs cl od hs ks/\∀H',Same H H'->Q (.bl true) H'
noncomputable abbrev nT2:List Str:=["_law_plea","_law_houses","_law_parting","_law_one","_law_other","_law_would_here","_law_due"]
noncomputable abbrev nRi:List Str:=["_law_plea","_law_houses","_law_parting","_law_lap","_law_told_here","_law_holders_here","_law_one","_law_other"]
theorem A24 (g:bI)(cs:List Int)(cl:List C3)(od:Int)(hs:List Pl)(ks:List Int):(pS g cs cl od hs ks).length<=16:=by
 unfold pS;refine le_trans (length_filter_le _ _) ?_;have h4:=rS cl;have key:∀A:List Int,(gA (hI cl) A).length<=4*A.length:=by
  intro A
  induction A with
  |nil=>exact zero_le _
  |cons a A ih=>
   have e:gA (hI cl) (a::A)=((hI cl).filter λj=>decide (a<j)).map (λj=>(a,j))++gA (hI cl) A:=rfl;rw[e,length_append,length_map,length_cons];have:=length_filter_le (λj=>decide (a<j)) (hI cl);omega
 have:=key (hI cl);have e:(prs (hI cl)).length=(gA (hI cl) (hI cl)).length:=rfl;omega
section
variable {P:Program}{w:World}{K:W.Frag}{mg:Str->Option Value}{base:Heap}
theorem A55 (F:D1 K mg "_law_two_right" zR ["_law_plea","_law_houses","_law_parting","_law_one","_law_other"])(aW:A1 P w K mg base 15 "would_exchange" iR)(aL:A1 P w K mg base 5 "_law_would" iR)(aA:A1 P w K mg base 1 "_law_after" kJ)(aT:A1 P w K mg base 17 "_law_told" wO)(aS0:A1 P w K mg base 1 "_law_same" (lM 0))(aS1:A1 P w K mg base 2 "_law_same" (lM 1)):A1 P w K mg base 18 "_law_two_right" xU:=by
 refine F.k nT2 ?_;ac_nf
 ·obtain⟨p,h,t,g,w',cs,cl,od,hs,ks,i,j,rfl,B,hi,hj,hn,q⟩:=h;refine⟨_,aU (bX (i:=5) nd rfl (Or.inl rfl) (aL.c hr (aG (pv 0) (aG (pv 1) (aG (pv 2) (aG (pv 3) (aG (pv 4) aB)))))))<|
   aU (bK (cC (bM (aS0.c hr (cG (aW.c hr (aG (pv 0) (aG (pv 1) (aG (pv 2) (aG (pv 3) (aG (pv 4) aB)))))) (aG (pv 5) aB))))) (aM (bC cQ)) bL)<|
   aU (bX (i:=6) nd rfl (Or.inl rfl) (tZ (bM (pv 5)) (aA.c hr (aG (pv 2) (aG (pv 3) (aG (pv 4) aB)))) lV))<|
   aM (bC (aS1.c hr (cG (aT.c hr (aG (pv 0) (aG (pv 1) (aG (pv 2) (aG (pv 3) (aG (pv 4) aB)))))) (aG (pv 6) aB)))),?_⟩
  refine⟨_,rfl,_,rfl,_,rfl,_,rfl,_,rfl,p,h,t,g,w',cs,cl,od,hs,ks,i,j,rfl,B,hi,hj,hn,λH1 s1=> ?_⟩;have B1:=B.same s1;refine⟨_,rfl,_,rfl,_,rfl,_,rfl,_,rfl,p,h,t,g,w',cs,cl,od,hs,ks,i,j,rfl,B1,hi,hj,hn,λH2 s2=> ?_⟩;have B2:=B1.same s2;refine⟨_,rfl,_,_,rfl,SameV.bl 0 _,λH3 s3=> ⟨_,rfl,bQ ?_⟩⟩;have B3:=B2.same s3;refine⟨_,rfl,_,rfl,cY (λe=> ?_) λe=> ?_⟩
  ·refine⟨_,rfl,_,rfl,_,rfl,t,ks,i,j,rfl,B3.B.t,le_trans B3.B.l10 (by decide),hn,λt' H4 s4 et'=> ?_⟩;have B4:=B3.same s4;refine⟨_,rfl,_,rfl,_,rfl,_,rfl,_,rfl,p,h,t,g,w',cs,cl,od,hs,ks,i,j,rfl,B4,hi,hj,hn,λ_ t2 H5 s5 et2=> ?_,λe'=>by rw[e]at e';cases e'⟩;refine⟨_,rfl,_,_,rfl,.inr ⟨t2,t',_,_,rfl,rfl,.inr ⟨et2,s5 _ _ et'⟩,?_,vM 0 _⟩,λH6 s6=>q H6 ((((s1.trans s2).trans s3).trans s4).trans (s5.trans s6))⟩;rw[length_map,kY];have:=B.B.l10;omega
  ·refine⟨_,rfl,_,rfl,_,rfl,_,rfl,_,rfl,p,h,t,g,w',cs,cl,od,hs,ks,i,j,rfl,B3,hi,hj,hn,(λe'=>by rw[e]at e';cases e'),λ_ H5 s5=> ?_⟩;exact⟨_,rfl,_,_,rfl,SameV.str 1 _,λH6 s6=>q H6 (((s1.trans s2).trans s3).trans (s5.trans s6))⟩
theorem A7u (F:D1 K mg "_law_right" vA ["_law_plea","_law_houses","_law_parting"])(TC:TxC mg)(aW:A1 P w K mg base 16 "who_would" lW)(aP:A1 P w K mg base 6 "_law_pairs" lW)(aH:A1 P w K mg base 1 "_law_holders" kQ)(aT:A1 P w K mg base 18 "_law_two_right" xU)(aS:A1 P w K mg base 3 "_law_same" (lM 2)):A1 P w K mg base 19 "_law_right" tE:=by
  refine F.k nRi ?_;ac_nf
  · obtain⟨p,h,t,g,w',cs,cl,od,hs,ks,rfl,B,q⟩:=h
    refine⟨_,aU (dX PassesOwn.never rfl (kX rfl TC.range (bZ aV aB)) (nm1 3 nd)
        (aU (bX (i:=4) nd rfl (Or.inl rfl) (aW.c hr (aG (pv 0) (aG (pv 1) (aG (pv 2) aB)))))<|
         aU (bK (cC (bM (aS.c hr (aG (pv 4) (cG (aP.c hr (aG (pv 0) (aG (pv 1) (aG (pv 2) aB)))) aB))))) (aM (bC cQ)) bL)<|
         aM (cK (gI PySem.F.plainAttrs_list PySem.F.slot_list_append PySem.F.type_list_append iA (pv 4) (gH (dC (bZ aV (bZ aV aB))) aB)))))<|
      aU (bX (i:=5) nd rfl (Or.inl rfl) (aH.c hr (aG (pv 0) aB)))<|
      aU (dX PassesOwn.never rfl (cV (pv 5)) (nm1 6 nd)
        (aM (dX PassesOwn.never rfl (cV (pv 5)) (nm1 7 nd)
          (aM (bK (PW.pt (kU (bV pE (pv 6) (pv 7) (nomark _)) (lL (cC (bM (aT.c hr (aG (pv 0) (aG (pv 1) (aG (pv 2) (aG (pv 6) (aG (pv 7) aB))))))))))) (aM (bC cQ)) bL)))))<|
      aM (bC cQ),?_⟩
    refine⟨2,rfl,by decide,by decide,?_⟩;refine lQ (lo:=0) (n:=2) (λi σ H'=>(∃o3 o4,σ=[some (.ref p),some (.ref h),some (.ref t),o3,o4,none,none,none])/\Same H H') ⟨⟨_,_,rfl⟩,Same.refl _⟩ ?_ ?_
    · rintro i σ H' hi ⟨⟨o3,o4,rfl⟩,hs'⟩
      refine⟨_,rfl,_,rfl,_,rfl,p,h,t,g,w',cs,cl,od,hs,ks,rfl,B.same hs',λl ps H1 hl s1 el hP=> ?_⟩;have s01:=hs'.trans s1;refine⟨_,rfl,_,rfl,_,rfl,_,rfl,p,h,t,g,w',cs,cl,od,hs,ks,rfl,B.same s01,λl2 ps2 H2 hl2 s2 el2 hP2=> ?_⟩;have hpl:ps.length=_:=Paired.length hP;have hw:=A24 g cs cl od hs ks;refine⟨_,_,rfl,.inr ⟨l,l2,_,_,rfl,rfl,.inl ⟨s2 _ _ el,el2⟩,by rw[length_map];omega,A0d (hP.same s2) hP2⟩,λH3 s3=> ⟨_,rfl,bQ ?_⟩⟩;have el3:=s3 _ _ (s2 _ _ el);refine⟨_,rfl,.inl ⟨rfl,_,SqL.of el3⟩,by show 2<=sizeLine;decide,λtz htz=> ?_⟩;have u:=aQ (o:=.tup [.int 0,.int 0]) htz;refine⟨l,_,_,rfl,rfl,u _ _ el3,bW (by rw[length_map];omega),⟨_,_,rfl⟩,λb o e=> ?_⟩;have nb:b≠l:=bH (hs' _ _ e) hl;rw[aY nb];exact u _ _ (s3 _ _ (s2 _ _ (s01 _ _ e)))
    · rintro σ H1 ⟨⟨o3,o4,rfl⟩,s1⟩
      have B1:=B.same s1;refine⟨_,rfl,p,g,w',cs,cl,od,rfl,B1.B.D,λlh H2 hlh s2 elh=> ?_⟩;have eh:((aX (cD cl)).map λk:Nat=>V.int (k:Int))=(hI cl).map V.int:=by unfold hI;rw[map_map];rfl
      rw[eh]at elh;have s12:=s1.trans s2;refine⟨_,rfl,lh,rfl,⟨_,SqL.of elh⟩,?_⟩;refine dI (K:=K) (a:=lh) (xs:=(hI cl).map V.int) (λi σ H'=>(∃o6 o7,σ=[some (.ref p),some (.ref h),some (.ref t),o3,o4,some (.ref lh),o6,o7])/\Same H2 H') ⟨⟨_,_,rfl⟩,Same.refl _⟩ (λi σ H' _ h=>SqL.of (h.2 _ _ elh)) ?_ ?_
      · rintro i x σ H' hx ⟨⟨o6,o7,rfl⟩,hs'⟩
        obtain⟨n,hn,rfl⟩:=gS hx;refine⟨_,rfl,lh,rfl,⟨_,SqL.of (hs' _ _ elh)⟩,?_⟩;refine dI (K:=K) (a:=lh) (xs:=(hI cl).map V.int) (λj σ H''=>(∃o7,σ=[some (.ref p),some (.ref h),some (.ref t),o3,o4,some (.ref lh),some (.int n),o7])/\Same H2 H'') ⟨⟨_,rfl⟩,hs'⟩ (λj σ H'' _ h=>SqL.of (h.2 _ _ elh)) ?_ ?_
        · rintro j y σ H'' hy ⟨⟨o7,rfl⟩,hs''⟩
          obtain⟨k,hk,rfl⟩:=gS hy;refine⟨_,rfl,_,rfl,rfl,_,rfl,?_⟩;refine cY (λz=> ?_) λz=> ?_
          · have z':n≠k:=λe=>by rw[e,zjV rfl]at z;cases z
            refine⟨_,rfl,_,rfl,_,rfl,_,rfl,_,rfl,p,h,t,g,w',cs,cl,od,hs,ks,n,k,rfl,B.same (s12.trans hs''),iD (mem_of_getElem? hn),iD (mem_of_getElem? hk),z',λH5 s5=> ⟨_,rfl,bQ ?_⟩⟩;exact⟨⟨_,rfl⟩,hs''.trans s5⟩
          · exact⟨⟨_,rfl⟩,hs''⟩
        · rintro σ H'' ⟨⟨o7,rfl⟩,hs''⟩
          exact⟨⟨_,_,rfl⟩,hs''⟩
      · rintro σ H' ⟨⟨o6,o7,rfl⟩,hs'⟩
        exact q H' (s12.trans hs')
end
noncomputable def oB (K:W.Frag):Sp:=λvs H Q _=> ∃(a:Addr)(ns:List Int),vs=[.ref a]/\SqL K H a (ns.map V.int)/\ns.length<=63/\∀H',Q (.bl true) H'
noncomputable abbrev yD:List Str:=["_law_script","_law_cell_here","_law_pen_here","_law_plea","_law_houses","_law_some","_law_at","_law_parting"]
noncomputable abbrev A3i:List Stmt:=kG ((dG lB).getD 0 pNo)
section
variable {P:Program}{w:World}{K:W.Frag}{mg:Str->Option Value}{base:Heap}
theorem scLaw:fN yD ["_law_script"] (bB lB):=by ac_rfl
section
variable {f:Addr}{cdv:Value}{A:Around}{outer:List Env}{s:Shared}{H0:Hp}{E:XK}
noncomputable abbrev XL (P:Program)(w:World)(K:W.Frag)(mg:Str->Option Value)(base:Heap)(f:Addr)(cdv:Value)(A:Around)(outer:List Env)(s:Shared)(H0:Hp)(E:XK):Cx:=(dJ CX0 P w K mg base yD "law" (bB lB) f cdv A outer s H0 E).nox
theorem B0g (TC:TxC mg)(hr:Room 19 (XL P w K mg base f cdv A outer s H0 E).A)(aR:A1 P w K mg base 19 "_law_right" tE)(aD:A1 P w K mg base 1 "_law_draw" gL)
  (aE:A1 P w K mg base 1 "_law_pen" qH)(aL:A1 P w K mg base 2 "_law_loose" tM)(aO:A1 P w K mg base 2 "_law_contrary" pW)(aP:A1 P w K mg base 5 "_law_partings" sW):∃tt,PSs (XL P w K mg base f cdv A outer s H0 E) A3i tt/\
  ∀(D:dR)(o0 o2 o3 o4 o5 o6 o7:Option V)(i:Int)(H:Hp),(∀o2' o3' o4' o5' o6' o7' H',Same H H'->D.nx [o0,some (.int i),o2',o3',o4',o5',o6',o7'] H')->tt D [o0,some (.int i),o2,o3,o4,o5,o6,o7] H:=by
 have nd:=scLaw.nd;refine⟨_,aU (bX (i:=2) nd rfl (Or.inl rfl) (aE.c hr (aG (pv 1) aB)))<|
  aU (bX (i:=3) nd rfl (Or.inl rfl) (aL.c hr (aG (pv 2) aB)))<|
  aU (iF (i:=4) (j:=5) rfl nd rfl rfl (by decide) rfl rfl (cG (aO.c hr (aG (pv 2) (aG (pv 3) aB))) (cG (aP.c hr (aG (pv 3) aB)) aB)) rfl)<|
  aU (bX (i:=6) nd rfl (Or.inl rfl) (aD.c hr (aG (pv 2) (dF (bG eT (bE fF rfl TC.len PySem.boot_len (aG (pv 5) aB)) aV) aB))))<|
  aM (dX PassesOwn.never rfl (cV (bG mY (bG mY (jV jY (pv 5) nL (gZ aV)) (jV jY (pv 5) (gZ (pv 6)) (gZ (bG eT (pv 6) aV)))) (jV jY (pv 5) (gZ (jW jL aV)) nL))) (nm1 7 nd)
   (aM (bK (cC (bM (aR.c hr (aG (pv 3) (aG (pv 4) (aG (pv 7) aB)))))) (aM (bC cQ)) bL))),?_⟩
 intro D o0 o2 o3 o4 o5 o6 o7 i H hD;refine⟨_,rfl,i,rfl,λpn H1 hp0 s1 pen=> ?_⟩;refine⟨_,rfl,pn,rfl,pen,λpl g w' cs cl od H2 st2 hP c3=> ?_⟩;refine⟨_,rfl,_,rfl,pn,pl,g,w',cs,cl,od,rfl,st2.pen,hP,λh hs H3 st3 hh ho=> ?_⟩;have x3:=st3.ext st2.pen;have st23:=st2.trans st3;have hP3:=hP.ext x3;refine⟨_,rfl,pl,g,w',cs,cl,od,rfl,hP3,c3,λl zs H4 hl s4 el hz hzs=> ?_⟩;have st4:=st23.same s4;have nl:l≠pn:=st23.pen.fresh hl;refine⟨_,_,rfl,?_⟩;refine⟨_,rfl,_,rfl,l,_,rfl,.inl (SqL.of el),_,_,rfl,rfl,?_⟩;refine⟨pn,_,rfl,st4.pen,by omega,by rw[length_map];omega,λd H5 d0 d1 st5=> ?_⟩;have x5:=st5.ext st4.pen;have st45:=st4.trans st5;have el5:=st5.keep _ _ nl el;have sH5:Same H H5:=λb u e=>st45.keep b u (bH e hp0) (s1 _ _ e);have fin:∀H',Same H5 H'->∀z∈zs,PhA H' pl h z.1 g w' cs cl od hs z.2:=λH' s' z hz=>by
  obtain⟨e1,e2⟩:=hzs z hz;exact⟨⟨((hP3.same s4).ext x5).same s',s' _ _ (x5.tup _ _ e1),e2.l,e2.h⟩,e2.b,SqA.ext (SqA.ext (SqA.ext hh s4.ext) x5) s'.ext,ho⟩
 have hxl:(zs.map λz=>V.ref z.1).length<=262144:=by rw[length_map];exact hz
 have hxm:∀x∈zs.map λz=>V.ref z.1,∃z∈zs,x=V.ref z.1:=λx hx=>by
  obtain⟨z,hz,rfl⟩:=mem_map.mp hx;exact⟨z,hz,rfl⟩
 generalize (zs.map λz=>V.ref z.1)=xs at el5 hxl hxm;have c1:=lJ xs none (some 1);have c2:=lJ xs (some d) (some (d+3));have c3':=lJ xs (some (-1)) none;refine⟨_,rfl,_,rfl,l,_,rfl,SqL.of el5,λl1 hl1=> ?_⟩;have v1:=aQ (o:=.lst (cutV xs none (some 1))) hl1;have e1:(upd H5 l1 (.lst (cutV xs none (some 1)))) l1=some (.lst (cutV xs none (some 1))):=aJ;generalize upd H5 l1 (.lst (cutV xs none (some 1)))=H6 at v1 e1⊢;refine⟨_,rfl,_,rfl,_,rfl,_,rfl,_,_,rfl,rfl,_,rfl,l,_,rfl,SqL.of (v1 _ _ el5),λl3 hl3=> ?_⟩;have v3:=aQ (o:=.lst (cutV xs (some d) (some (d+3)))) hl3;have e3:(upd H6 l3 (.lst (cutV xs (some d) (some (d+3))))) l3=some (.lst (cutV xs (some d) (some (d+3)))):=aJ;generalize upd H6 l3 (.lst (cutV xs (some d) (some (d+3))))=H8 at v3 e3⊢;have m2:=@oA xs (some d) (some (d+3));generalize cutV xs (some d) (some (d+3))=ys2 at e3 m2 c2;refine⟨l1,l3,_,_,rfl,rfl,v3 _ _ e1,e3,by rw[sizeLine_eq];omega,λl4 hl4=> ?_⟩;have v4:=aQ (o:=.lst (cutV xs none (some 1)++ys2)) hl4;have e4:(upd H8 l4 (.lst (cutV xs none (some 1)++ys2))) l4=some (.lst (cutV xs none (some 1)++ys2)):=aJ;generalize upd H8 l4 (.lst (cutV xs none (some 1)++ys2))=H9 at v4 e4⊢;have s59:=(v1.trans v3).trans v4;refine⟨_,rfl,_,rfl,_,rfl,l,_,rfl,SqL.of (s59 _ _ el5),λl5 hl5=> ?_⟩;have v5:=aQ (o:=.lst (cutV xs (some (-1)) none)) hl5;have e5:(upd H9 l5 (.lst (cutV xs (some (-1)) none))) l5=some (.lst (cutV xs (some (-1)) none)):=aJ;generalize upd H9 l5 (.lst (cutV xs (some (-1)) none))=Ha at v5 e5⊢;have m1:∀x∈cutV xs none (some 1),x∈xs:=λx hx=>oA hx;have m3:∀x∈cutV xs (some (-1)) none,x∈xs:=λx hx=>oA hx;generalize cutV xs none (some 1)=ys1 at e4 m1 c1;generalize cutV xs (some (-1)) none=ys3 at e5 m3 c3';refine⟨l4,l5,_,_,rfl,rfl,v5 _ _ e4,e5,by rw[sizeLine_eq,length_append];omega,λl6 hl6=> ?_⟩;have v6:=aQ (o:=.lst (ys1++ys2++ys3)) hl6;have e6:(upd Ha l6 (.lst (ys1++ys2++ys3))) l6=some (.lst (ys1++ys2++ys3)):=aJ;generalize upd Ha l6 (.lst (ys1++ys2++ys3))=Hb at v6 e6⊢;have s5b:=(s59.trans v5).trans v6;have hmem:∀x∈ys1++ys2++ys3,∃z∈zs,x=V.ref z.1:=λx hx=>by
  rcases mem_append.mp hx with z|z
  ·rcases mem_append.mp z with z|z
   ·exact hxm x (m1 x z)
   ·exact hxm x (m2 z)
  ·exact hxm x (m3 x z)
 refine⟨l6,rfl,⟨_,SqL.of e6⟩,?_⟩;refine dI (K:=K) (a:=l6) (xs:=ys1++ys2++ys3) (λj σ H'=>(∃o7,σ=[o0,some (.int i),some (.ref pn),some (.ref pl),some (.ref h),some (.ref l),some (.int d),o7])/\Same Hb H')
  ⟨⟨_,rfl⟩,Same.refl _⟩ (λj σ H' _ h=>SqL.of (h.2 _ _ e6)) ?_ ?_
 ·rintro j y σ H' hj ⟨⟨o7,rfl⟩,hs'⟩;obtain⟨z,hz,rfl⟩:=hmem y (mem_of_getElem? hj);refine⟨_,rfl,_,rfl,_,rfl,pl,h,z.1,g,w',cs,cl,od,hs,z.2,rfl,fin H' (s5b.trans hs') z hz,λH'' s''=> ?_⟩;exact⟨_,rfl,bQ ⟨⟨_,rfl⟩,hs'.trans s''⟩⟩
 ·rintro σ H' ⟨⟨o7,rfl⟩,hs'⟩;exact hD _ _ _ _ _ _ H' (sH5.trans (s5b.trans hs'))
end
theorem A8l {f:Addr}{fd:FuncData}(F:Fun K "law" "law" lB f fd)(TC:TxC mg)(aR:A1 P w K mg base 19 "_law_right" tE)(aD:A1 P w K mg base 1 "_law_draw" gL)
  (aE:A1 P w K mg base 1 "_law_pen" qH)(aL:A1 P w K mg base 2 "_law_loose" tM)(aO:A1 P w K mg base 2 "_law_contrary" pW)(aP:A1 P w K mg base 5 "_law_partings" sW)(aZ:A1 P w K mg base 1 "_law_cell" (yH K)):FnOk P w K mg base CX0 20 f fd ["_law_script"] (oB K):=by
 refine F.ok scLaw (λvs H Q E h=> ?_) (λcdv A outer s H vs Q E hr h=> ?_)
 ·obtain⟨a,ns,rfl,_⟩:=h;rfl
 ·obtain⟨a,ns,rfl,hS,hlen,q⟩:=h;have nd:=scLaw.nd;obtain⟨tb,hb,rb⟩:=B0g (P:=P) (w:=w) (K:=K) (mg:=mg) (base:=base) (f:=f) (cdv:=cdv) (A:=A) (outer:=outer) (s:=s) (H0:=H) (E:=E) TC hr aR aD aE aL aO aP;refine⟨_,aU (dX PassesOwn.never rfl (cV (bG mY (cX (cG (aZ.c hr (aG (pv 0) (bZ aV aB))) aB)) (jV jY (pv 0) (gZ aV) (gZ aV)))) (nm1 1 nd) hb)<|
   aM (bC cQ),?_⟩
  refine⟨_,rfl,a,ns,0,rfl,hS,by decide,λc0=> ?_⟩;refine⟨by show 1<=sizeLine;decide,λl0 hl0=> ?_⟩;have s0:=aQ (o:=.lst [.int c0]) hl0;refine⟨_,rfl,_,rfl,_,rfl,a,_,rfl,s0.seq hS,λl1 hl1=> ?_⟩;have s1:=aQ (o:=.lst (cutV (ns.map V.int) (some 1) (some 3))) hl1;have hcl:=lJ (ns.map V.int) (some 1) (some 3);rw[length_map]at hcl;refine⟨l0,l1,_,_,rfl,rfl,s1 _ _ aJ,aJ,by rw[sizeLine_eq];show 1+_<=_;omega,λlc hlc=> ?_⟩;have e2:(upd (upd (upd H l0 (.lst [.int c0])) l1 (.lst (cutV (ns.map V.int) (some 1) (some 3)))) lc (.lst ([.int c0]++cutV (ns.map V.int) (some 1) (some 3)))) lc=some (.lst ([.int c0]++cutV (ns.map V.int) (some 1) (some 3))):=aJ;generalize upd (upd (upd H l0 (.lst [.int c0])) l1 (.lst (cutV (ns.map V.int) (some 1) (some 3)))) lc (.lst ([.int c0]++cutV (ns.map V.int) (some 1) (some 3)))=H1 at e2⊢;refine⟨lc,rfl,⟨_,SqL.of e2⟩,?_⟩;refine dI (K:=K) (a:=lc) (xs:=[.int c0]++cutV (ns.map V.int) (some 1) (some 3)) (λi σ H'=>(∃o1 o2 o3 o4 o5 o6 o7,σ=[some (.ref a),o1,o2,o3,o4,o5,o6,o7])/\Same H1 H')
   ⟨⟨_,_,_,_,_,_,_,rfl⟩,Same.refl _⟩ (λi σ H' _ h=>SqL.of (h.2 _ _ e2)) ?_ ?_
  ·rintro i y σ H' hi ⟨⟨o1,o2,o3,o4,o5,o6,o7,rfl⟩,hs⟩;obtain⟨c,rfl⟩:∃c,y=V.int c:=by
    rcases mem_append.mp (mem_of_getElem? hi)with z|z
    ·exact⟨c0,mem_singleton.mp z⟩
    ·obtain⟨c,_,e⟩:=mem_map.mp (oA z);exact⟨c,e.symm⟩
   exact rb _ (some (.ref a)) o2 o3 o4 o5 o6 o7 c H' λo2' o3' o4' o5' o6' o7' H2 s2=> ⟨⟨_,_,_,_,_,_,_,rfl⟩,hs.trans s2⟩
  ·rintro σ H' _;exact q H'
end
end M51
namespace L2
open PySem PyProof.Rows
theorem A2z {K:W.Frag}{cP cE:Addr}(h1:W.subIn K (.ref cE) (.type "BaseException")=some true)(h2:W.kitOne K (.ref cP) (.ref cE)=some true)(h3:(Value.ref cP==Value.ref cE)=false):W.exmOne K (.ref cP) (.ref cE)=some true:=by unfold W.kitOne at h2;rw[if_neg (by rw[h3];decide)]at h2;unfold W.exmOne;rw[h1,if_pos (by decide)];exact h2
theorem B1y {K:W.Frag}{c:Addr}:W.kitOne K (.ref c) (.ref c)=some true:=by unfold W.kitOne;rw[if_pos (by simp)]
end L2
namespace M51
open PySem L2 PyProof.Rows Grd
theorem all_mk {l:W.OpenLaw}{w:World}{K:W.Frag}{h:Heap}{mg:Str->Option Value}{fa cE cW cH cP:Addr}{t0 t1 t2 t3 t4 t5 t6 t7 t8 t9 t10 t11 t12:Tok}(X:K.In h)(G:h.Ns mainGlobals mg)(hfa:mg "law" =some (.ref fa))
  (q0:Fk K "is_number" A1y)
  (q1:Fk K "is_number_within" vE)
  (q2:Fk K "is_tuple_within" A09)
  (q3:Fk K "places_of_cells" qQ)
  (q4:Fk K "is_row" tT)
  (q5:Fk K "is_mead" oI)
  (q6:Fk K "check_mead" zD)
  (q7:Fk K "cells_of" uL)
  (q8:Fk K "roads_of" rH)
  (q9:Fk K "worth_together" kO)
  (q10:Fk K "places_beside" vZ)
  (q11:Fk K "piece_round" mI)
  (q12:Fk K "is_rising" sO)
  (q13:Fk K "is_one_piece" zP)
  (q14:Fk K "has_some_of" rO)
  (q15:Fk K "cells_at_road" rL)
  (q16:Fk K "is_custom" qR)
  (q17:Fk K "is_claim" A1i)
  (q18:Fk K "are_claims" oM)
  (q19:Fk K "check_custom" A0x)
  (q20:Fk K "check_claims" yT)
  (q21:Fk K "stand_under" pF)
  (q22:Fk K "check_claims_under" xZ)
  (q23:Fk K "is_holder" oY)
  (q24:Fk K "check_holder" xX)
  (q25:Fk K "holders_of" pI)
  (q26:Fk K "count_together" rJ)
  (q27:Fk K "count_of" rK)
  (q28:Fk K "fraction" A1a)
  (q29:Fk K "share_of" tW)
  (q30:Fk K "_law_cell" A0m)
  (q31:Fk K "_law_pen" A06)
  (q32:Fk K "_law_draw" rZ)
  (q33:Fk K "_law_same" kA)
  (q34:Fk K "_law_holders" pK)
  (q35:Fk K "is_odd" yB)
  (q36:Fk K "is_plea" A0z)
  (q37:Fk K "check_plea" A03)
  (q38:Fk K "check_plea_and_holder" wP)
  (q39:Fk K "whole_worth" xY)
  (q40:Fk K "due_of" wI)
  (q41:Fk K "is_sound" A0c)
  (q42:Fk K "worth_the_due" oT)
  (q43:Fk K "is_fit" yL)
  (q44:Fk K "land_within" sLW)
  (q45:Fk K "is_parting" oE)
  (q46:Fk K "check_parting" zO)
  (q47:Fk K "is_house" tI)
  (q48:Fk K "are_houses" pD)
  (q49:Fk K "check_houses" yA)
  (q50:Fk K "check_plea_and_houses" A0r)
  (q51:Fk K "far_between" zC)
  (q52:Fk K "far_with" rD)
  (q53:Fk K "check_parted" uP)
  (q54:Fk K "_law_next" zJ)
  (q55:Fk K "_law_at_road" sI)
  (q56:Fk K "_law_cells" qA)
  (q57:Fk K "_law_piece" mZ)
  (q58:Fk K "_law_worth" pP)
  (q59:Fk K "_law_fits" mJ)
  (q60:Fk K "_law_fit_lands" nK)
  (q61:Fk K "_law_partings" iG)
  (q62:Fk K "_law_loose" fJ)
  (q63:Fk K "_law_way" zT)
  (q64:Fk K "check_two_holders" wT)
  (q65:Fk K "turned_about" oK)
  (q66:Fk K "would_exchange" tG)
  (q67:Fk K "exchanged" pJ)
  (q68:Fk K "who_would" mQ)
  (q69:Fk K "_law_contrary" wB)
  (q70:Fk K "_law_after" sL)
  (q71:Fk K "_law_is_parting" qG)
  (q72:Fk K "_law_would" zV)
  (q73:Fk K "_law_pairs" uW)
  (q74:Fk K "_law_told" kH)
  (q75:Fk K "_law_two_right" zR)
  (q76:Fk K "_law_right" vA)
  (q77:Fk K "law" lB)
  (v0:W.nsIn K mainGlobals "MOST_ROWS" =some (some (.int 4 t0)))
  (v1:W.nsIn K mainGlobals "MOST_COLUMNS" =some (some (.int 6 t1)))
  (v2:W.nsIn K mainGlobals "MOST_CELLS" =some (some (.int 10 t2)))
  (v3:W.nsIn K mainGlobals "MOST_WORTH" =some (some (.int 99 t3)))
  (v4:W.nsIn K mainGlobals "WATER" =some (some (.int (-2) t4)))
  (v5:W.nsIn K mainGlobals "ROAD" =some (some (.int (-1) t5)))
  (v6:W.nsIn K mainGlobals "MOST_SORTS" =some (some (.int 6 t6)))
  (v7:W.nsIn K mainGlobals "MOST_COUNTED" =some (some (.int 100 t7)))
  (v8:W.nsIn K mainGlobals "MOST_HOLDERS" =some (some (.int 4 t8)))
  (v9:W.nsIn K mainGlobals "MOST_RIGHTS" =some (some (.int 20 t9)))
  (v10:W.nsIn K mainGlobals "MOST_CLAIMS" =some (some (.int 12 t10)))
  (v11:W.nsIn K mainGlobals "MOST_ODD" =some (some (.int 999 t11)))
  (v12:W.nsIn K mainGlobals "FARTHEST_OUT" =some (some (.int 99 t12)))
  (z0:W.nsIn K mainGlobals "isinstance" =some none)
  (z1:W.nsIn K mainGlobals "int" =some none)
  (z2:W.nsIn K mainGlobals "bool" =some none)
  (z3:W.nsIn K mainGlobals "tuple" =some none)
  (z4:W.nsIn K mainGlobals "len" =some none)
  (z5:W.nsIn K mainGlobals "all" =some none)
  (z6:W.nsIn K mainGlobals "enumerate" =some none)
  (z7:W.nsIn K mainGlobals "range" =some none)
  (z8:W.nsIn K mainGlobals "list" =some none)
  (z9:W.nsIn K mainGlobals "zip" =some none)
  (z10:W.nsIn K mainGlobals "sum" =some none)
  (z11:W.nsIn K mainGlobals "dict" =some none)
  (z12:W.nsIn K mainGlobals "set" =some none)
  (z13:W.nsIn K mainGlobals "sorted" =some none)
  (z14:W.nsIn K mainGlobals "any" =some none)
  (z15:W.nsIn K mainGlobals "abs" =some none)
  (z16:W.nsIn K mainGlobals "reversed" =some none)
  (z17:W.nsIn K mainGlobals "repr" =some none)
  (z18:W.nsIn K mainGlobals "min" =some none)
  (z19:W.nsIn K mainGlobals "max" =some none)
  (z20:W.nsIn K mainGlobals "ValueError" =some none)
  (e0:W.nsIn K mainGlobals "MeadError" =some (some (.ref cE)))
  (e1:W.nsIn K mainGlobals "NoWill" =some (some (.ref cW)))
  (e2:W.nsIn K mainGlobals "NoHolder" =some (some (.ref cH)))
  (e3:W.nsIn K mainGlobals "NoParting" =some (some (.ref cP)))
  (x0:W.excIn K cW [.type "ValueError",.type "Exception",.type "BaseException",.type "object"] "ValueError.__new__" =true)
  (x1:W.subIn K (.ref cE) (.type "BaseException")=some true)
  (w0:W.kitOne K (.ref cW) (.ref cH)=some false)
  (w1:W.kitOne K (.ref cW) (.ref cP)=some false)
  (x5:W.kitOne K (.ref cW) (.type "ValueError")=some true)
  (x6:W.kitOne K (.ref cW) (.ref cE)=some true)
  (x7:(Value.ref cW==Value.ref cE)=false)
  (y1:W.findIn K (.ref cW) "__class__" =some (some (.builtin "object.__class__")))
  (y2:W.findIn K (.ref cW) "__getattribute__" =some (some (.builtin "BaseException.__getattribute__")))
  (y3:W.findIn K (.ref cW) "__getattr__" =some none)
  (y4:W.mroIn K cW (.type "object")=some true)
  (y5:W.mroIn K cW (.type "BaseException")=some true)
  (y6:W.specialIn K (.builtin "object.__class__") "__get__" =some (some (.builtin "getset_descriptor.__get__")))
  (y7:W.takesIn K (.builtin "object.__class__")=some true):
  ∃fd:FuncData,(∀(s:Shared)(v:Value),BindsTo s fd ⟨[v],[]⟩ [("_law_script",v)])/\∀base:Heap,K.In base->base.Ns mainGlobals mg->FnOk l.prog w K mg base CX0 20 fa fd ["_law_script"] (oB K):=by
 have T0:Txt mg:=⟨W.mg_none_of X G z0,W.mg_none_of X G z1,W.mg_none_of X G z2,W.mg_none_of X G z3,W.mg_none_of X G z4,W.mg_none_of X G z5,W.mg_none_of X G z6,⟨_,W.mg_of X G v0⟩,⟨_,W.mg_of X G v1⟩,⟨_,W.mg_of X G v2⟩,⟨_,W.mg_of X G v3⟩,⟨_,W.mg_of X G v4⟩⟩;have T1:eE mg:=⟨W.mg_none_of X G z7,W.mg_none_of X G z8,W.mg_none_of X G z9,W.mg_none_of X G z10,W.mg_none_of X G z11,W.mg_none_of X G z12,W.mg_none_of X G z13,W.mg_none_of X G z14,W.mg_none_of X G z15,⟨_,W.mg_of X G v5⟩⟩;have T2:TxC mg:=⟨W.mg_none_of X G z0,W.mg_none_of X G z1,W.mg_none_of X G z2,W.mg_none_of X G z3,W.mg_none_of X G z4,W.mg_none_of X G z5,W.mg_none_of X G z14,W.mg_none_of X G z9,W.mg_none_of X G z7,W.mg_none_of X G z10,W.mg_none_of X G z8,W.mg_none_of X G z12,W.mg_none_of X G z13,⟨_,W.mg_of X G v6⟩,⟨_,W.mg_of X G v7⟩,⟨_,W.mg_of X G v8⟩,⟨_,W.mg_of X G v9⟩,⟨_,W.mg_of X G v10⟩⟩;have T3:TxD mg:=⟨W.mg_none_of X G z16,W.mg_none_of X G z17,⟨_,W.mg_of X G v11⟩⟩;have T4:TxH mg:=⟨W.mg_none_of X G z18,W.mg_none_of X G z19,⟨_,W.mg_of X G v12⟩⟩;have C:Cls K mg cE cW cH cP:=⟨W.mg_of X G e0,W.mg_of X G e1,W.mg_of X G e2,W.mg_of X G e3,W.mg_none_of X G z20,⟨A9p x0,y1,y2,y3,y4,y5,y6,y7⟩,⟨x0⟩,A2z x1 x6 x7,B1y,w0,w1,x5⟩;obtain⟨_,F,hb⟩:=q77.law (y:="_law_script") X G hfa λ_ _ _ _ _ _ _=>rfl;refine⟨_,hb,λbase _ _=> ?_⟩;have g0:A1 l.prog w K mg base _ _ _:=A3p (q0.d X G) T0;have g1:=A8z (q1.d X G) g0;have g2:A1 l.prog w K mg base _ _ _:=A2j (q2.d X G) T0;have g3:A1 l.prog w K mg base _ _ _:=A4p (q3.d X G) T0;have g4:=A69 (q4.d X G) T0 g2 g1;have g5:=B1g (q5.d X G) T0 g2 g4 g3;have g6:=A6a (q6.d X G) g5;have g7:=B2m (q7.d X G) g6 g3;have g8:=A92 (q8.d X G) T0 T1 g6;have g9:A1 l.prog w K mg base _ _ _:=A65 (q9.d X G) T1;have g10:A1 l.prog w K mg base _ _ _:=A53 (q10.d X G);have g11:=B03 (q11.d X G) T0 T1 g10;have g12:=A70 (q13.d X G) g11;have g13:A1 l.prog w K mg base _ _ _:=A41 (q14.d X G) T1;have g14:=A6c (q15.d X G) T1 g8 g7 g10;have g15:A1 l.prog w K mg base _ _ _:=A8u (q9.d X G) T1;have g16:A1 l.prog w K mg base _ _ _:=A8g (q12.d X G) T2;have g17:=A28 (q16.d X G) T2 g2 g1;have g18:=B19 (q17.d X G) T2 g2 g1;have g19:=A52 (q18.d X G) T2 g2 g18 g16;have g20:=A4u (q19.d X G) g17;have g21:=A79 (q20.d X G) g19;have g22:A1 l.prog w K mg base _ _ _:=A4b (q21.d X G) T2;have g23:=A9b (q22.d X G) g20 g21 g22;have g24:=A2r (q23.d X G) T2 g0;have g25:=A86 (q24.d X G) g24;have g26:=A3m (q25.d X G) T2 g21 g24;have g27:A1 l.prog w K mg base _ _ _:=A6n (q26.d X G) T2;have g28:=A9o (q27.d X G) g23 g25 g27;have g29:A1 l.prog w K mg base _ _ _:=A3k (q28.d X G);have g30:=B1n (q29.d X G) g29 g28 g27;have g31:A1 l.prog w K mg base _ _ _:=B0m (q30.d X G) T2;have g32:A1 l.prog w K mg base _ _ _:=B2h (q31.d X G) T2;have g33:A1 l.prog w K mg base _ _ _:=A7c (q32.d X G) T2;have g34:A1 l.prog w K mg base _ _ _:=qO (q33.d X G) T2 0;have g35:A1 l.prog w K mg base _ _ _:=qO (q33.d X G) T2 1;have g36:A1 l.prog w K mg base _ _ _:=qO (q33.d X G) T2 2;have g37:A1 l.prog w K mg base _ _ _:=A7h (q34.d X G) T2;have g38:=B0s (q35.d X G) T3 g1;have g39:=A3t (q36.d X G) g2 g5 g17 g19 g22 g38;have g40:=B0t (q37.d X G) g39;have g41:=A3e (q38.d X G) g40 g25;have g42:=A8n (q39.d X G) g9 g7;have g43:=A3f (q40.d X G) g41 g30 g29 g42;have g44:=B0r (q41.d X G) g13 g12;have g45:=A71 (q42.d X G) T1 g43 g15;have g46:=A47 (q43.d X G) g44 g14 g45;have g47:=B1b (q44.d X G) T0 T1 g7;have g48:=B2d (q45.d X G) T0 g40 g7 g2 g24 g26 g46 g47;have g49:=A6d (q46.d X G) g48;have g50:=A3y (q47.d X G) T0 T4 g2 g1;have g51:=A36 (q48.d X G) T0 T2 g2 g50;have g52:=A35 (q49.d X G) g51;have g53:=A4a (q50.d X G) g40 g52;have g54:A1 l.prog w K mg base _ _ _:=A2q (q51.d X G) T1;have g55:=A5f (q52.d X G (λ_ _ _ _ _ _=>A1r λ_ _ _ _=>rfl)) T4 g47 g54;have g56:=B13 (q53.d X G) g53 g49;have g57:A1 l.prog w K mg base _ _ _:=A6v (q54.d X G) T1;have g58:=A2m (q55.d X G) T0 g57;have g59:A1 l.prog w K mg base _ _ _:=A25 (q56.d X G) T0;have g60:=B1z (q57.d X G) T0 T1 g57;have g61:A1 l.prog w K mg base _ _ _:=B1h (q58.d X G) T1;have g62:=A3z (q59.d X G) T2 T1 g61 g59 g58 g60;have g63:=A7s (q60.d X G) g59 g62;have g64:=B1w (q61.d X G) T0 T1 g59 g37 g63;have g65:=A9j (q62.d X G) T2 g33;have g66:=A74 (q63.d X G (λ_ _ _ _ _ _=>A1r λ_ _ _ _=>rfl)) T1 T4 g59;have g67:=A3d (q64.d X G) g25;have g68:A1 l.prog w K mg base _ _ _:=A7x (q65.d X G) T2;have g69:=A27 (q66.d X G (λ_ _ _ _ _ _=>lP λ_ _ _ _ _=>rfl)) T0 g56 g67 g68 g55 g48;have g70:=A94 (q68.d X G) g56 g26 g69;have g71:=B2f (q69.d X G) T2 g33 g59;have g72:A1 l.prog w K mg base _ _ _:=A6f (q70.d X G) T2;have g73:=A8k (q71.d X G) T2 T1 g59 g37 g62;have g74:=B2i (q72.d X G (λ_ _ _ _ _ _=>lP λ_ _ _ _ _=>rfl)) g72 g73 g66;have g75:=A2t (q73.d X G) g37 g74;have g76:=A4d (q67.d X G (λ_ _ _ _ _ _=>lP λ_ _ _ _ _=>rfl)) C g69 g68;have g77:=B1s (q74.d X G (λ_ _ _ _ _ _=>lP λ_ _ _ _ _=>rfl)) T2 C g76;have g78:=A55 (q75.d X G (λ_ _ _ _ _ _=>lP λ_ _ _ _ _=>rfl)) g69 g74 g72 g77 g34 g35;have g79:=A7u (q76.d X G) T2 g70 g75 g37 g78 g36;exact A8l F T2 g79 g33 g32 g65 g71 g64 g31
theorem walk {l:W.OpenLaw}{q:Program}{loose:List Str}{XP:(Str->Option Value)->Heap->Prop}{YP:World->Heap->Prop}{d:DefRec}{K:Params->W.Frag}(hn:l.most=some 63)(hdf:d.params.defaults=[])
  (hY:∀(w:World)(h:Heap),YP w h->(K w.params).In h)
  (F:∀(w:World)(mg:Str->Option Value)(fa:Addr)(h:Heap),(K w.params).In h->h.Ns mainGlobals mg->mg d.name=some (.ref fa)->
   ∃fd:FuncData,(∀(s:Shared)(u:Value),BindsTo s fd ⟨[u],[]⟩ [("_law_script",u)])/\∀base:Heap,(K w.params).In base->base.Ns mainGlobals mg->FnOk l.prog w (K w.params) mg base CX0 20 fa fd ["_law_script"] (oB (K w.params))):
  W.WalkO q loose XP YP l.row.toRowW d [] (λf vs=>PySem.call f vs):=
 L2.walk_of (n:=63) (k:=20) (x:="_law_script") (CX:=λ_=>CX0) (sp:=λw=>oB (K w.params)) hn (by decide) hdf ⟨rfl,by decide,by decide,rfl⟩ hY F (λ_ _ a ns hl _ hS=> ⟨a,ns,rfl,hS,hl,λ_=>rfl⟩) λ_ _ _ _ _ z=>z
end M51
open PySem PySem.W PyProof.Rows L2
namespace PySem.W.Fast
theorem tw16461589694981495474:True:=⟨⟩
theorem tw8483335353756430730:True:=⟨⟩
theorem tw4960647196375627767:True:=⟨⟩
theorem tw1906246309813863864:True:=⟨⟩
theorem tw11525112403026611831:True:=⟨⟩
theorem tw14782946438470362592:True:=⟨⟩
theorem tw14447520802758616365:True:=⟨⟩
theorem tw11466041357878011626:True:=⟨⟩
theorem tw4784979651175283363:True:=⟨⟩
theorem tw12792157165742634247:True:=⟨⟩
theorem tw11646528891997438365:True:=⟨⟩
theorem tw6371071295393393631:True:=⟨⟩
theorem tw4258701973240759244:True:=⟨⟩
theorem tw582545099269937142:True:=⟨⟩
theorem tw17133569171999610917:True:=⟨⟩
theorem tw3410621120236700246:True:=⟨⟩
theorem tw8539795934901935782:True:=⟨⟩
theorem tw16779237644170909413:True:=⟨⟩
theorem tw5622557951931389149:True:=⟨⟩
theorem tw3515128650559870692:True:=⟨⟩
theorem tw7464920719213725433:True:=⟨⟩
theorem tw13643087433429719756:True:=⟨⟩
theorem tw4235292639406139695:True:=⟨⟩
theorem tw2520071926295171129:True:=⟨⟩
theorem tw8680143790530614679:True:=⟨⟩
theorem tw1460079615132777409:True:=⟨⟩
theorem tw16720229225120061565:True:=⟨⟩
theorem tw7515244399577142207:True:=⟨⟩
theorem tw5975477417628063108:True:=⟨⟩
theorem tw5979488958693562347:True:=⟨⟩
theorem tw3001815345973054829:True:=⟨⟩
theorem tw8203291335165790223:True:=⟨⟩
theorem tw3377233259658570607:True:=⟨⟩
theorem tw482901509707330712:True:=⟨⟩
theorem tw13515269618935986648:True:=⟨⟩
theorem tw13541323767887313911:True:=⟨⟩
theorem tw1213258604300998742:True:=⟨⟩
theorem tw4373301257708124656:True:=⟨⟩
theorem tw12666466146189223864:True:=⟨⟩
theorem tw4629151112620996458:True:=⟨⟩
theorem tw15722028250049018769:True:=⟨⟩
theorem tw17653575662193741356:True:=⟨⟩
theorem tw453809143947752635:True:=⟨⟩
theorem tw9385452554171176819:True:=⟨⟩
theorem tw10298500604533358814:True:=⟨⟩
theorem tw4200939926686512900:True:=⟨⟩
theorem tw9125895793838497920:True:=⟨⟩
theorem tw2557773468085341187:True:=⟨⟩
theorem tw393860132526306545:True:=⟨⟩
theorem tw13546378363995148781:True:=⟨⟩
theorem tw1534469644762652300:True:=⟨⟩
theorem tw10603142633550581676:True:=⟨⟩
theorem tw6605987863424558576:True:=⟨⟩
theorem tw9897479562141542993:True:=⟨⟩
theorem tw3383505097456429671:True:=⟨⟩
theorem tw8425494250275859013:True:=⟨⟩
theorem tw3084443508203138813:True:=⟨⟩
theorem tw13396053221363737469:True:=⟨⟩
theorem tw4323880068902008537:True:=⟨⟩
theorem tw10003371765881439449:True:=⟨⟩
theorem tw15360025790517746410:True:=⟨⟩
theorem tw5665867315998007397:True:=⟨⟩
theorem tw5902100052479475007:True:=⟨⟩
theorem tw16708223986427688790:True:=⟨⟩
theorem tw18323053255433532120:True:=⟨⟩
theorem tw3129776256405728243:True:=⟨⟩
theorem tw4463425044918778176:True:=⟨⟩
theorem tw59444334392494816:True:=⟨⟩
theorem tw13324548228078431012:True:=⟨⟩
theorem tw16734989620061819099:True:=⟨⟩
theorem tw17902076213858772408:True:=⟨⟩
theorem tw10717387292049260421:True:=⟨⟩
theorem tw13974875192025763114:True:=⟨⟩
theorem tw15807087284865293690:True:=⟨⟩
theorem tw13474289260314802779:True:=⟨⟩
theorem tw8978841869538229641:True:=⟨⟩
theorem tw810438446725884792:True:=⟨⟩
theorem tw7486149797531159750:True:=⟨⟩
theorem tw8029810575824908492:True:=⟨⟩
theorem tw4028269725142107271:True:=⟨⟩
theorem tw12024189062079192326:True:=⟨⟩
theorem tw6585387473919102447:True:=⟨⟩
theorem tw1892167964161765703:True:=⟨⟩
theorem tw9858729684695337382:True:=⟨⟩
theorem tw2063149908661688008:True:=⟨⟩
theorem tw15576710663574715643:True:=⟨⟩
theorem tw5850516434528280178:True:=⟨⟩
theorem tw17003993087123453630:True:=⟨⟩
theorem tw8890175436759708533:True:=⟨⟩
theorem tw16819042473410577171:True:=⟨⟩
theorem tw5334076051172602766:True:=⟨⟩
theorem tw11171645685241435893:True:=⟨⟩
theorem tw18033675676579017105:True:=⟨⟩
theorem tw18131479661009602438:True:=⟨⟩
theorem tw1741226360707327253:True:=⟨⟩
theorem tw14380500133281494467:True:=⟨⟩
theorem tw2707059249144413953:True:=⟨⟩
theorem tw1566483142393407104:True:=⟨⟩
theorem tw9828264522027927414:True:=⟨⟩
theorem tw9238184690397088638:True:=⟨⟩
theorem tw13918065231720603166:True:=⟨⟩
theorem tw14480458935769904366:True:=⟨⟩
theorem tw2135205300504951219:True:=⟨⟩
theorem tw13065610980750687425:True:=⟨⟩
theorem tw5024648161883578013:True:=⟨⟩
theorem tw7069986567458935456:True:=⟨⟩
theorem tw1119930064571738888:True:=⟨⟩
theorem tw2835305032758047041:True:=⟨⟩
theorem tw2377370083356693632:True:=⟨⟩
theorem tw11175788125057300031:True:=⟨⟩
theorem tw8527981398633325312:True:=⟨⟩
theorem tw2564317376097277052:True:=⟨⟩
theorem tw11499721566148782751:True:=⟨⟩
theorem tw16762728902223843627:True:=⟨⟩
theorem tw3964044286754774736:True:=⟨⟩
theorem tw4111752224656088224:True:=⟨⟩
theorem tw8913673913357013275:True:=⟨⟩
theorem tw16494259261829538877:True:=⟨⟩
theorem tw11403358057519595960:True:=⟨⟩
theorem tw323891284104495466:True:=⟨⟩
theorem tw13469663607186385622:True:=⟨⟩
theorem tw8265065572410719838:True:=⟨⟩
theorem tw330554968789254593:True:=⟨⟩
theorem tw15471409590129673982:True:=⟨⟩
theorem tw13445794865502669051:True:=⟨⟩
theorem tw1089489726162982383:True:=⟨⟩
theorem tw16266085827123787882:True:=⟨⟩
theorem tw5566371914563765210:True:=⟨⟩
theorem tw3746796151444234236:True:=⟨⟩
theorem tw1146909916497002862:True:=⟨⟩
theorem tw14342255455137221356:True:=⟨⟩
theorem tw14818762196998579093:True:=⟨⟩
theorem tw18331369531276587652:True:=⟨⟩
theorem tw2952995067368624263:True:=⟨⟩
theorem tw545568892970044034:True:=⟨⟩
theorem tw12277942761752398533:True:=⟨⟩
theorem tw494043640697141906:True:=⟨⟩
theorem tw12300366088414093991:True:=⟨⟩
theorem tw949300277710713020:True:=⟨⟩
theorem tw18416693906197395983:True:=⟨⟩
theorem tw4614219590862310500:True:=⟨⟩
theorem tw7590611146143968532:True:=⟨⟩
theorem tw685566773631114357:True:=⟨⟩
theorem tw4794001894318458894:True:=⟨⟩
theorem tw14698986758500155679:True:=⟨⟩
theorem tw17807168492054005065:True:=⟨⟩
theorem tw13531186940433456850:True:=⟨⟩
theorem tw12471218024352750668:True:=⟨⟩
theorem tw6191278494015400656:True:=⟨⟩
theorem tw6176510485081550690:True:=⟨⟩
theorem tw15920393184744049025:True:=⟨⟩
theorem tw10110789338070720477:True:=⟨⟩
theorem tw17534470886872821154:True:=⟨⟩
theorem tw2648525113274944636:True:=⟨⟩
theorem tw1596405595911556852:True:=⟨⟩
theorem tw10683444964481232699:True:=⟨⟩
theorem tw8349546843570511131:True:=⟨⟩
theorem tw15916042836860634910:True:=⟨⟩
theorem tw8283405010226654426:True:=⟨⟩
theorem tw224989977735305473:True:=⟨⟩
theorem tw15632924767466322254:True:=⟨⟩
theorem tw9624258061517842717:True:=⟨⟩
theorem tw18402607917102881326:True:=⟨⟩
theorem tw2563666289844996351:True:=⟨⟩
theorem tw9101543090159246744:True:=⟨⟩
theorem tw17454102441763069582:True:=⟨⟩
theorem tw2755514380569087692:True:=⟨⟩
theorem tw9835547246912067992:True:=⟨⟩
theorem tw5397735483001498582:True:=⟨⟩
theorem tw4930337053808421904:True:=⟨⟩
theorem tw12917686327483489805:True:=⟨⟩
theorem tw821384507941954752:True:=⟨⟩
theorem tw2782833541418560845:True:=⟨⟩
theorem tw4000228647630407823:True:=⟨⟩
theorem tw13274000789503566726:True:=⟨⟩
theorem tw600616246979460869:True:=⟨⟩
theorem tw13037925398136773233:True:=⟨⟩
theorem tw6942795956729560802:True:=⟨⟩
theorem tw15727382321179843711:True:=⟨⟩
theorem tw6866029751218899902:True:=⟨⟩
theorem tw9895578842209991879:True:=⟨⟩
theorem tw15863443834216199894:True:=⟨⟩
theorem tw8766488056587559078:True:=⟨⟩
theorem tw6483557166953175743:True:=⟨⟩
theorem tw6129678754729539546:True:=⟨⟩
theorem tw11147516304064913069:True:=⟨⟩
theorem tw999727138669356176:True:=⟨⟩
theorem tw11228469901530430322:True:=⟨⟩
theorem tw6260763706299959822:True:=⟨⟩
theorem tw7506432195159185794:True:=⟨⟩
theorem tw1737310513583403037:True:=⟨⟩
theorem tw105693034354528907:True:=⟨⟩
theorem tw14721455950097888901:True:=⟨⟩
theorem tw12923357423798690395:True:=⟨⟩
theorem tw1965159087200255137:True:=⟨⟩
theorem tw5661740027293766111:True:=⟨⟩
theorem tw1677211301827138533:True:=⟨⟩
theorem tw6039481020752985343:True:=⟨⟩
theorem tw10019607923696201862:True:=⟨⟩
theorem tw10125066852146676150:True:=⟨⟩
theorem tw3673767206113535562:True:=⟨⟩
theorem tw408440471404417679:True:=⟨⟩
theorem tw12588039182320946978:True:=⟨⟩
theorem tw14681934042013281052:True:=⟨⟩
theorem tw1367413587061878445:True:=⟨⟩
theorem tw17940460825804700740:True:=⟨⟩
theorem tw16171200515742644655:True:=⟨⟩
theorem tw3708573490873866183:True:=⟨⟩
theorem tw12095452833859249436:True:=⟨⟩
theorem tw2629813058109754338:True:=⟨⟩
theorem tw17801328600762542592:True:=⟨⟩
theorem tw9590717505440613704:True:=⟨⟩
theorem tw16442457801725355704:True:=⟨⟩
theorem tw16013921643323830339:True:=⟨⟩
theorem tw4036497415633946311:True:=⟨⟩
theorem tw16366103963148820177:True:=⟨⟩
theorem tw16111008300865659384:True:=⟨⟩
theorem tw1777610828784395678:True:=⟨⟩
theorem tw17159358582929727710:True:=⟨⟩
theorem tw9329858803169009872:True:=⟨⟩
theorem tw9723422227044531298:True:=⟨⟩
theorem tw11491334192389654584:True:=⟨⟩
theorem tw14051842595342581825:True:=⟨⟩
theorem tw5225975684089713281:True:=⟨⟩
theorem tw13687126259020627559:True:=⟨⟩
theorem tw12626894618362828372:True:=⟨⟩
theorem tw5775161016726109698:True:=⟨⟩
theorem tw14203458258932652535:True:=⟨⟩
theorem tw5417578064901549454:True:=⟨⟩
theorem tw5551503394235623417:True:=⟨⟩
theorem tw3247491834105952150:True:=⟨⟩
theorem tw17793532318209312219:True:=⟨⟩
theorem tw18267520123307463505:True:=⟨⟩
theorem tw1719457021556227378:True:=⟨⟩
theorem tw18056555795959547965:True:=⟨⟩
theorem tw16307251078140901554:True:=⟨⟩
theorem tw17065453603194906086:True:=⟨⟩
theorem tw5503562678625219374:True:=⟨⟩
theorem tw15042597386226336880:True:=⟨⟩
theorem tw13420585798062506187:True:=⟨⟩
theorem tw3061574194084048623:True:=⟨⟩
theorem tw17113996971551782773:True:=⟨⟩
theorem tw4430299255631109604:True:=⟨⟩
theorem tw11329583264874526361:True:=⟨⟩
theorem tw2867496945119426033:True:=⟨⟩
theorem tw1420775567722398650:True:=⟨⟩
theorem tw6560834313722340571:True:=⟨⟩
theorem tw6684614632908072505:True:=⟨⟩
theorem tw14728546958182422119:True:=⟨⟩
theorem tw6591934598964451688:True:=⟨⟩
theorem tw17148969621434896227:True:=⟨⟩
theorem tw18286931999884925948:True:=⟨⟩
theorem tw3919282683377960805:True:=⟨⟩
theorem tw15404451106648761691:True:=⟨⟩
theorem tw17166465110925238307:True:=⟨⟩
theorem tw5814248015756499224:True:=⟨⟩
theorem tw12366702159188294311:True:=⟨⟩
theorem tw11458951731308766424:True:=⟨⟩
theorem tw11151708087479442312:True:=⟨⟩
theorem tw1320869972038216091:True:=⟨⟩
theorem tw11426153616344309466:True:=⟨⟩
theorem tw4952172556832469926:True:=⟨⟩
theorem tw10861798041481085748:True:=⟨⟩
theorem tw12429241483189337597:True:=⟨⟩
theorem tw11602466467077417791:True:=⟨⟩
theorem tw17100789147434291586:True:=⟨⟩
theorem tw1790873559993156167:True:=⟨⟩
theorem tw11821782026079566371:True:=⟨⟩
theorem tw6328945501325079147:True:=⟨⟩
theorem tw16086985763607954435:True:=⟨⟩
theorem tw16914636273785624062:True:=⟨⟩
theorem tw14042303028915115375:True:=⟨⟩
theorem tw9071943538512604887:True:=⟨⟩
theorem tw17590759432353346470:True:=⟨⟩
theorem tw14216831334591572768:True:=⟨⟩
theorem tw14606910021292614791:True:=⟨⟩
theorem tw15422633655960126198:True:=⟨⟩
theorem tw8222202158476637346:True:=⟨⟩
theorem tw3595057200753964912:True:=⟨⟩
theorem tw5857961559296704105:True:=⟨⟩
theorem tw7293113185130640594:True:=⟨⟩
theorem tw7933984095123120035:True:=⟨⟩
theorem tw14500212288233175583:True:=⟨⟩
theorem tw7318394067312072151:True:=⟨⟩
theorem tw6413946396190715110:True:=⟨⟩
theorem tw8374709307421728495:True:=⟨⟩
theorem tw16568173183907023776:True:=⟨⟩
theorem tw1048068683227489957:True:=⟨⟩
theorem tw11857081303201867949:True:=⟨⟩
theorem tw9229647902911310537:True:=⟨⟩
theorem tw10045784071541411157:True:=⟨⟩
theorem tw14099325810183146335:True:=⟨⟩
theorem tw17836796450156234672:True:=⟨⟩
theorem tw10031418000943385753:True:=⟨⟩
theorem tw3133655291885799111:True:=⟨⟩
theorem tw11921738590242698822:True:=⟨⟩
theorem tw9104449649412819631:True:=⟨⟩
theorem tw6237127609814416581:True:=⟨⟩
theorem tw3162363601985937243:True:=⟨⟩
theorem tw10363698299729341893:True:=⟨⟩
theorem tw8880240234009223579:True:=⟨⟩
theorem tw8059920943908517361:True:=⟨⟩
theorem tw14343156576638297679:True:=⟨⟩
theorem tw17937965009651967290:True:=⟨⟩
theorem tw12514919077690414501:True:=⟨⟩
theorem tw3562149981732988628:True:=⟨⟩
theorem tw12127929809437059493:True:=⟨⟩
theorem tw8870100885349267921:True:=⟨⟩
theorem tw9601709079798608335:True:=⟨⟩
theorem tw7375138599536077077:True:=⟨⟩
theorem tw5660771651164834878:True:=⟨⟩
theorem tw6012016185324005229:True:=⟨⟩
theorem tw4980662024037698818:True:=⟨⟩
theorem tw12846590214761646562:True:=⟨⟩
theorem tw2350249188034651597:True:=⟨⟩
theorem tw9030308325486661505:True:=⟨⟩
theorem tw13689441130782692284:True:=⟨⟩
theorem tw12305699920091356275:True:=⟨⟩
theorem tw10896960915739988739:True:=⟨⟩
theorem tw12817896671412665335:True:=⟨⟩
theorem tw9545610559612617009:True:=⟨⟩
theorem tw2755248900274779522:True:=⟨⟩
theorem tw10016398901571816855:True:=⟨⟩
theorem tw3908302254413584286:True:=⟨⟩
theorem tw14564736711662970791:True:=⟨⟩
theorem tw1491322941663262177:True:=⟨⟩
theorem tw12999458690965047351:True:=⟨⟩
theorem tw14680014944858923017:True:=⟨⟩
theorem tw13597357884101378283:True:=⟨⟩
theorem tw2706794612579779943:True:=⟨⟩
theorem tw14846192578376220404:True:=⟨⟩
theorem tw3385880679744151345:True:=⟨⟩
theorem tw10434906052292577667:True:=⟨⟩
theorem tw14874271040537868865:True:=⟨⟩
theorem tw2124666682476581807:True:=⟨⟩
theorem tw620812554870363741:True:=⟨⟩
theorem tw14736644986095998020:True:=⟨⟩
theorem tw5005574884939231802:True:=⟨⟩
theorem tw17770703056319149704:True:=⟨⟩
theorem tw13403077433323455906:True:=⟨⟩
theorem tw17765653612769848346:True:=⟨⟩
theorem tw8270516328548622982:True:=⟨⟩
theorem tw3597302975914650353:True:=⟨⟩
theorem tw12247443939499899011:True:=⟨⟩
theorem tw782092480726107054:True:=⟨⟩
theorem tw16095591247283656044:True:=⟨⟩
theorem tw7515048553445239321:True:=⟨⟩
theorem tw5432151136610914311:True:=⟨⟩
theorem tw278668261095302708:True:=⟨⟩
theorem tw17038090881622161866:True:=⟨⟩
theorem tw12339503856552152623:True:=⟨⟩
theorem tw12339431867100448928:True:=⟨⟩
theorem tw11083667059921061369:True:=⟨⟩
theorem tw15593456227861359224:True:=⟨⟩
theorem tw17448499576109221074:True:=⟨⟩
theorem tw13904495415023869422:True:=⟨⟩
theorem tw5973317582508862029:True:=⟨⟩
theorem tw15442631052198903867:True:=⟨⟩
theorem tw2869296007849641865:True:=⟨⟩
theorem tw10620482156832716954:True:=⟨⟩
theorem tw2466448265587015865:True:=⟨⟩
theorem tw2811625265882608132:True:=⟨⟩
theorem tw17410763658495911844:True:=⟨⟩
theorem tw3515127386577544370:True:=⟨⟩
theorem tw17911550899102481124:True:=⟨⟩
theorem tw8681624888942421310:True:=⟨⟩
theorem tw4382831895314441175:True:=⟨⟩
theorem tw11019261989664365993:True:=⟨⟩
theorem tw6915953220843259634:True:=⟨⟩
theorem tw9760628353719555319:True:=⟨⟩
theorem tw12341742255375625203:True:=⟨⟩
theorem tw2407387296736179752:True:=⟨⟩
theorem tw9047698421221138684:True:=⟨⟩
theorem tw12813200830529581767:True:=⟨⟩
theorem tw4530172957090112587:True:=⟨⟩
theorem tw6266746879168921769:True:=⟨⟩
theorem tw13755580821721577416:True:=⟨⟩
theorem tw8106685006310159226:True:=⟨⟩
theorem tw9865985030668478742:True:=⟨⟩
theorem tw16615446864638722034:True:=⟨⟩
theorem tw16892305177302595588:True:=⟨⟩
theorem tw10119077983762929395:True:=⟨⟩
theorem tw13022785817459411159:True:=⟨⟩
theorem tw7519867235818164116:True:=⟨⟩
theorem tw11363915228390171920:True:=⟨⟩
theorem tw12634640664071513894:True:=⟨⟩
theorem tw12562740563455008209:True:=⟨⟩
theorem tw4149629030673591090:True:=⟨⟩
theorem tw8633433529947558439:True:=⟨⟩
theorem tw6577061085162576707:True:=⟨⟩
theorem tw10894231790911669393:True:=⟨⟩
theorem tw8003641912441012276:True:=⟨⟩
theorem tw12561297106947619081:True:=⟨⟩
theorem tw1524213441349771743:True:=⟨⟩
theorem tw2513682081973706995:True:=⟨⟩
theorem tw1542041362499350182:True:=⟨⟩
theorem tw15116336822266558488:True:=⟨⟩
theorem tw17159789601231802799:True:=⟨⟩
theorem tw157666853993205514:True:=⟨⟩
theorem tw4554207208678873931:True:=⟨⟩
theorem tw4335022509858824543:True:=⟨⟩
theorem tw4422918773103111324:True:=⟨⟩
theorem tw11496066365922750704:True:=⟨⟩
theorem tw12809801756533981564:True:=⟨⟩
theorem tw968273987972977295:True:=⟨⟩
theorem tw5976435077216319898:True:=⟨⟩
theorem tw12192891991542366156:True:=⟨⟩
theorem tw18177467598999970560:True:=⟨⟩
theorem tw16324678959999870601:True:=⟨⟩
theorem tw13151166992591661966:True:=⟨⟩
theorem tw3713789792865706346:True:=⟨⟩
theorem tw17484698935065839639:True:=⟨⟩
theorem tw16288873912205060870:True:=⟨⟩
theorem tw8343199503407028736:True:=⟨⟩
theorem tw5117362700710227892:True:=⟨⟩
theorem tw14903713065678292518:True:=⟨⟩
theorem tw13820419843916216345:True:=⟨⟩
theorem tw5077418578685265165:True:=⟨⟩
theorem tw1018792692910729932:True:=⟨⟩
theorem tw5328426312468763308:True:=⟨⟩
theorem tw10992881300336245089:True:=⟨⟩
theorem tw14109501553373505383:True:=⟨⟩
theorem tw8126586107668010223:True:=⟨⟩
theorem tw14370427150258673038:True:=⟨⟩
theorem tw1776405969886056007:True:=⟨⟩
theorem tw8541475801618165339:True:=⟨⟩
theorem tw14868036717396458043:True:=⟨⟩
theorem tw14824774252571290254:True:=⟨⟩
theorem tw615760221602422272:True:=⟨⟩
theorem tw9088697328632047946:True:=⟨⟩
theorem tw8110792917013462888:True:=⟨⟩
theorem tw4433340975594676646:True:=⟨⟩
theorem tw15551035522958272040:True:=⟨⟩
theorem tw1938361122725235772:True:=⟨⟩
theorem tw1797269218611057404:True:=⟨⟩
theorem tw4871033709404890765:True:=⟨⟩
theorem tw14500033320178347090:True:=⟨⟩
theorem tw6823427793534962995:True:=⟨⟩
theorem tw10540036269629492923:True:=⟨⟩
theorem tw13198714471619848590:True:=⟨⟩
theorem tw244106466507974099:True:=⟨⟩
theorem tw9024292504213474960:True:=⟨⟩
theorem tw16930218699844040040:True:=⟨⟩
theorem tw44813521181834579:True:=⟨⟩
theorem tw5099211990043242277:True:=⟨⟩
theorem tw6487614739841676399:True:=⟨⟩
theorem tw11474639001889373849:True:=⟨⟩
theorem tw6739618543032765988:True:=⟨⟩
theorem tw13952909069760229020:True:=⟨⟩
theorem tw10009834716177586666:True:=⟨⟩
theorem tw13180333536037565595:True:=⟨⟩
theorem tw14107906127596295036:True:=⟨⟩
theorem tw2039115733658278082:True:=⟨⟩
theorem tw14896290523321294133:True:=⟨⟩
theorem tw9114142572663184483:True:=⟨⟩
theorem tw18239403286151188788:True:=⟨⟩
theorem tw6921582494126278681:True:=⟨⟩
theorem tw17572353190400221201:True:=⟨⟩
theorem tw6168337049965145961:True:=⟨⟩
theorem tw9277845021197594501:True:=⟨⟩
theorem tw10617290445279318991:True:=⟨⟩
theorem tw8861197014615352342:True:=⟨⟩
theorem tw10090091361219625845:True:=⟨⟩
theorem tw2275905038073157441:True:=⟨⟩
theorem tw4165550004424287876:True:=⟨⟩
theorem tw15967187014668299755:True:=⟨⟩
theorem tw1237096778412838690:True:=⟨⟩
theorem tw15812783652335302183:True:=⟨⟩
theorem tw13296957309584923720:True:=⟨⟩
theorem tw17873506162886816278:True:=⟨⟩
theorem tw18268248933928541471:True:=⟨⟩
theorem tw10019421584683124864:True:=⟨⟩
theorem tw11073892524094973035:True:=⟨⟩
theorem tw2629022797183426646:True:=⟨⟩
theorem tw15239927023740920603:True:=⟨⟩
theorem tw5955525506417425014:True:=⟨⟩
theorem tw9907281315331781888:True:=⟨⟩
theorem tw6847320402702572068:True:=⟨⟩
theorem tw10066587826204945039:True:=⟨⟩
theorem tw11817091463112589267:True:=⟨⟩
theorem tw15057703876774973584:True:=⟨⟩
theorem tw9330088038661073625:True:=⟨⟩
theorem tw10131053568434965146:True:=⟨⟩
theorem tw7095177694081223644:True:=⟨⟩
theorem tw3658133160386171186:True:=⟨⟩
theorem tw10321903593895259606:True:=⟨⟩
theorem tw15564800458180144143:True:=⟨⟩
theorem tw12618431735848309220:True:=⟨⟩
theorem tw8513823485778512364:True:=⟨⟩
theorem tw10882017504254174936:True:=⟨⟩
theorem tw1279284145687355483:True:=⟨⟩
theorem tw3636690452474546146:True:=⟨⟩
theorem tw2583720419766858665:True:=⟨⟩
theorem tw10173074685160585717:True:=⟨⟩
theorem tw664466917341410149:True:=⟨⟩
theorem tw14958824890940538583:True:=⟨⟩
theorem tw4745202678678985180:True:=⟨⟩
theorem tw5426550795156432971:True:=⟨⟩
theorem tw11454182582444783617:True:=⟨⟩
theorem tw5395665589153339777:True:=⟨⟩
theorem tw3532011004577415020:True:=⟨⟩
theorem tw5387806476234774978:True:=⟨⟩
theorem tw14670480362977473897:True:=⟨⟩
theorem tw6662558281875957505:True:=⟨⟩
theorem tw4123991762598587203:True:=⟨⟩
theorem tw15180173998214817536:True:=⟨⟩
theorem tw7183408374294150759:True:=⟨⟩
theorem tw8717578055447222172:True:=⟨⟩
theorem tw8101362282432690832:True:=⟨⟩
theorem tw13592330175636033550:True:=⟨⟩
theorem tw7315063346063905042:True:=⟨⟩
theorem tw16086445526938496097:True:=⟨⟩
theorem tw16024152037256650646:True:=⟨⟩
theorem tw10699322226093446595:True:=⟨⟩
theorem tw4678331319793017646:True:=⟨⟩
theorem tw2632094306225383322:True:=⟨⟩
theorem tw16342142934047621889:True:=⟨⟩
theorem tw11899138622381065701:True:=⟨⟩
theorem tw13188689576204444671:True:=⟨⟩
theorem tw1471597689283846437:True:=⟨⟩
theorem tw10899627889790863365:True:=⟨⟩
theorem tw1237093711720895303:True:=⟨⟩
theorem tw13457033350124972745:True:=⟨⟩
theorem tw4342516080686844978:True:=⟨⟩
theorem tw8184615541559988562:True:=⟨⟩
theorem tw7355271257596827618:True:=⟨⟩
theorem tw9926777217412794107:True:=⟨⟩
theorem tw8351689026096039847:True:=⟨⟩
theorem tw11218703023828375530:True:=⟨⟩
theorem tw6540573396792903239:True:=⟨⟩
theorem tw17206442848884548701:True:=⟨⟩
theorem tw10711281605328646760:True:=⟨⟩
theorem tw2498071900865474017:True:=⟨⟩
theorem tw17203932351789821528:True:=⟨⟩
theorem tw16638467677956555281:True:=⟨⟩
theorem tw13862030540788867761:True:=⟨⟩
theorem tw12516721581590056127:True:=⟨⟩
theorem tw11189063881268961525:True:=⟨⟩
theorem tw3593661060787411145:True:=⟨⟩
theorem tw2587285932497214585:True:=⟨⟩
theorem tw13737248587776497836:True:=⟨⟩
theorem tw4904325018782775896:True:=⟨⟩
theorem tw6812690406708660982:True:=⟨⟩
theorem tw12236927950028674908:True:=⟨⟩
theorem tw13822905432230749287:True:=⟨⟩
theorem tw16703215322551526647:True:=⟨⟩
theorem tw10564195759696979330:True:=⟨⟩
theorem tw7847531160664480649:True:=⟨⟩
theorem tw4153402164933339879:True:=⟨⟩
theorem tw12350145338662880338:True:=⟨⟩
theorem tw9700235776262539424:True:=⟨⟩
theorem tw4113132307543505808:True:=⟨⟩
theorem tw5905909710954919148:True:=⟨⟩
theorem tw9422529186055252285:True:=⟨⟩
theorem tw10160356460047107596:True:=⟨⟩
theorem tw16235515934310073281:True:=⟨⟩
theorem tw7999534801606385883:True:=⟨⟩
theorem tw787506532107269862:True:=⟨⟩
end PySem.W.Fast
set_option maxRecDepth 100000 in
set_option maxHeartbeats 0 in
theorem PySem.Challenge.cw_meadshares_k51_who_would_exchange_holds : PySem.Challenge.rw_meadshares_k51_who_would_exchange.Holds := by
 w_on;o_law;k_head;(case hw=>w_witness2)
 k_fill
 refine' M51.walk (l:=PySem.Challenge.rw_meadshares_k51_who_would_exchange) rfl rfl (fun w h Y=>PySem.W.kIn_of Y) ?F
 case F=>
  intro w mg fa h KX G hmg
  refine' M51.all_mk KX G hmg ?q0 ?q1 ?q2 ?q3 ?q4 ?q5 ?q6 ?q7 ?q8 ?q9 ?q10 ?q11 ?q12 ?q13 ?q14 ?q15 ?q16 ?q17 ?q18 ?q19 ?q20 ?q21 ?q22 ?q23 ?q24 ?q25 ?q26 ?q27 ?q28 ?q29 ?q30 ?q31 ?q32 ?q33 ?q34 ?q35 ?q36 ?q37 ?q38 ?q39 ?q40 ?q41 ?q42 ?q43 ?q44 ?q45 ?q46 ?q47 ?q48 ?q49 ?q50 ?q51 ?q52 ?q53 ?q54 ?q55 ?q56 ?q57 ?q58 ?q59 ?q60 ?q61 ?q62 ?q63 ?q64 ?q65 ?q66 ?q67 ?q68 ?q69 ?q70 ?q71 ?q72 ?q73 ?q74 ?q75 ?q76 ?q77 ?v0 ?v1 ?v2 ?v3 ?v4 ?v5 ?v6 ?v7 ?v8 ?v9 ?v10 ?v11 ?v12 ?z0 ?z1 ?z2 ?z3 ?z4 ?z5 ?z6 ?z7 ?z8 ?z9 ?z10 ?z11 ?z12 ?z13 ?z14 ?z15 ?z16 ?z17 ?z18 ?z19 ?z20 ?e0 ?e1 ?e2 ?e3 ?x0 ?x1 ?w0 ?w1 ?x5 ?x6 ?x7 ?y1 ?y2 ?y3 ?y4 ?y5 ?y6 ?y7
  (case q0|q1|q2|q3|q4|q5|q6|q7|q8|q9|q10|q11|q12|q13|q14|q15|q16|q17|q18|q19|q20|q21|q22|q23|q24|q25|q26|q27|q28|q29|q30|q31|q32|q33|q34|q35|q36|q37|q38|q39|q40|q41|q42|q43|q44|q45|q46|q47|q48|q49|q50|q51|q52|q53|q54|q55|q56|q57|q58|q59|q60|q61|q62|q63|q64|q65|q66|q67|q68|q69|q70|q71|q72|q73|q74|q75|q76|q77=>refine' A75 ?a ?l ?c ?k;(case a|l|c|k=>k_is))
  (case v0|v1|v2|v3|v4|v5|v6|v7|v8|v9|v10|v11|v12|z0|z1|z2|z3|z4|z5|z6|z7|z8|z9|z10|z11|z12|z13|z14|z15|z16|z17|z18|z19|z20|e0|e1|e2|e3=>k_is)
  (case x0=>k_exc)
  (case x1=>k_is)
  (case w0|w1|x5|x6=>kit_is)
  (case x7=>first|rfl|decide)
  (case y1|y2|y3|y4|y5|y6|y7=>k_is)