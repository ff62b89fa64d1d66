import PyProof.Rows.All
import Wide.All
import OpenK.AllK
import Wide.FinOn
import Lean
import PyProof.EqAt
import PyProof.EqKinds
import PyProof.TupleCall
import KE.LcSums
import KE.KDictOf
import PyProof.Cells
import PyProof.ZipIter
import KE.KTryMore
import KE.KSortTup
import PyProof.Rows.SortRuns
import PyProof.DictItems
import PyProof.NeKinds
import PyProof.Rows.SetFrom
import PyProof.CollectWalk
import KE.KSortedM
import KE.KRevIter
import PyProof.WalkInts
import PyProof.WalksMore
import PyProof.ListNew
import PySem.Challenge.RW_meadshares_k52_whole_settled_at_last
set_option Elab.async false
set_option linter.all false
set_option maxRecDepth 100000
open List (all_cons all_eq_true all_map all_nil any_cons any_eq_true any_map append_assoc append_nil concat_eq_append countP_cons drop_of_length_le drop_sublist drop_zero eq_nil_of_length_eq_zero eq_nil_or_concat exists_cons_of_ne_nil ext_getElem filter filter_append filter_cons filter_cons_of_neg filter_cons_of_pos filter_map filter_nil filter_sublist find?_cons findIdx? flatten_cons foldl foldl_cons forIn_cons forIn_nil getD_eq_getElem?_getD getElem?_append_left getElem?_append_right getElem?_drop getElem?_eq_getElem getElem?_map getElem?_zip_eq_some getElem_drop getElem_mem getElem_of_mem getElem_take length_append length_cons length_drop length_filter_le length_map length_nil length_range length_singleton length_take length_zip lookup lookup_append lookup_cons map_append map_congr_left map_cons map_id map_map map_nil mem_append mem_append_left mem_append_right mem_cons mem_filter mem_filterMap mem_flatten mem_iff_getElem mem_iff_getElem? mem_map mem_of_getElem? mem_of_mem_drop mem_of_mem_take mem_range mem_reverse mem_singleton mem_zipIdx_iff_getElem? nil_append nodup_append nodup_cons nodup_iff_pairwise_ne nodup_nil not_mem_nil of_mem_zip pairwise_append pairwise_cons pairwise_iff_getElem pairwise_map pairwise_singleton perm_append_comm replicate replicate_succ size_toArray sublist_nil sum_cons take_append_drop take_of_length_le take_sublist take_succ take_zero toArray zipIdx_cons zipIdx_nil zip_cons_cons)
open PySem.Heap (get?_push_size get?_update_other get?_update_self size_push size_update)
open Nat (add_sub_cancel eq_or_lt_of_le le_add_right le_of_eq le_of_lt le_succ le_trans lt_irrefl lt_of_le_of_lt lt_of_lt_of_le lt_of_succ_lt lt_or_ge lt_succ_of_lt lt_succ_self lt_trans mod_lt mul_comm ne_of_gt ne_of_lt not_lt pow_le_pow_right zero_add zero_le)
def zjZ:=@PySem.wpAny_bind
def zjY:=@PySem.wpAny_pure
def zjX:=@PySem.Heap.get?_push_of_some
def zjW:=@List.getElem?_eq_some_iff
def zjV:=@decide_eq_true
def zjU:=@decide_eq_false
def zjT:=@PySem.Heap.lt_size
def zjS:=@List.mem_cons_of_mem
def zjR:=@List.mem_cons_self
def zjQ:=@Nat.le_refl
set_option hygiene false
local macro_rules | `(tactic| ac_nf) => `(tactic| intro nd f cdv A outer s H vs Q E hr h)
set_option hygiene true
local macro_rules | `(tactic| ac_rfl) => `(tactic| exact ⟨rfl, rfl, rfl, by decide +kernel, rfl, by decide +kernel, by decide +kernel⟩)
local macro_rules | `(tactic| omega) => `(tactic| lia)
namespace L2
open PySem PySem.Spec PyProof.Rows
noncomputable abbrev Key:=Sum Int Str
noncomputable def jE:Key->Value->Bool
 | .inl k,v=>Value.isInt k v
 | .inr x,v=>Value.isStrOf x v
noncomputable def B0p (w:World):Key->Int
 | .inl k=>hashInt k
 | .inr x=>hashStr w x
theorem keyIs_shape:∀{k:Key}{v:Value},jE k v=true->(∃i t,k=Sum.inl i/\v=Value.int i t)\/(∃x t,k=Sum.inr x/\v=Value.str x t)
 | .inl i,v,h=>by
  obtain⟨t,e⟩:=Value.isInt_shape (k:=i) (v:=v) h;exact .inl ⟨i,t,rfl,e⟩
 | .inr x,v,h=>by
  obtain⟨t,e⟩:=Value.isStrOf_shape (x:=x) (v:=v) h;exact .inr ⟨x,t,rfl,e⟩
theorem A2g (i:Int)(t:Tok):jE (.inl i) (.int i t)=true:=by simp [jE,Value.isInt]
theorem A77 (x:Str)(t:Tok):jE (.inr x) (.str x t)=true:=by simp [jE,Value.isStrOf]
theorem B1m (a b:Int):decide ((Sum.inl a:Key)=Sum.inl b)=(a==b):=by
 by_cases e:a=b
 ·subst e;simp
 ·have h:¬(Sum.inl a:Key)=Sum.inl b:=fun q=>e (Sum.inl.inj q);rw [zjU h];exact(beq_eq_false_iff_ne.mpr e).symm
theorem A3f (a b:Str):decide ((Sum.inr a:Key)=Sum.inr b)=decide (a=b):=by
 by_cases e:a=b
 ·subst e;simp
 ·have h:¬(Sum.inr a:Key)=Sum.inr b:=fun q=>e (Sum.inr.inj q);rw [zjU h,zjU e]
theorem A4d (a:Int)(b:Str):decide ((Sum.inl a:Key)=Sum.inr b)=false:=zjU (fun q=>nomatch q)
theorem B0y (a:Str)(b:Int):decide ((Sum.inr a:Key)=Sum.inl b)=false:=zjU (fun q=>nomatch q)
noncomputable def cH (prog:Program)(w:World):PySem.KeyKind prog w Key where
 is:=jE
 hash:=B0p w
 inj:=fun v a b ha hb=>by
  rcases keyIs_shape ha with⟨i,t,rfl,rfl⟩| ⟨x,t,rfl,rfl⟩
  ·rcases keyIs_shape hb with⟨j,u,rfl,e⟩| ⟨y,u,rfl,e⟩
   ·injection e with e1 _;rw [e1]
   ·exact nomatch e
  ·rcases keyIs_shape hb with⟨j,u,rfl,e⟩| ⟨y,u,rfl,e⟩
   ·exact nomatch e
   ·injection e with e1 _;rw [e1]
 byValue:=fun k v h=>by
  rcases keyIs_shape h with⟨i,t,rfl,rfl⟩| ⟨x,t,rfl,rfl⟩<;>rfl
 pyHash:=fun hv h=>by
  rcases keyIs_shape hv with⟨i,t,rfl,rfl⟩| ⟨x,t,rfl,rfl⟩
  ·exact wpAny_pyHash_int h
  ·exact wpAny_pyHash_str h
 eqBool:=fun hu hv h=>by
  rcases keyIs_shape hu with⟨i,t,rfl,rfl⟩| ⟨x,t,rfl,rfl⟩
  ·rcases keyIs_shape hv with⟨j,u,rfl,rfl⟩| ⟨y,u,rfl,rfl⟩
   ·rw [B1m]at h;exact wpAny_eqBool_int h
   ·rw [A4d]at h;exact SeqAt.EqAt.int_str i t y u _ _ _ _ h
  ·rcases keyIs_shape hv with⟨j,u,rfl,rfl⟩| ⟨y,u,rfl,rfl⟩
   ·rw [B0y]at h;exact SeqAt.EqAt.str_int x t j u _ _ _ _ h
   ·rw [A3f]at h;exact wpAny_eqBool_str h
 «strs»:=fun k x t v h=>by
  rcases keyIs_shape h with⟨i,u,rfl,e⟩| ⟨y,u,rfl,e⟩
  ·exact nomatch e
  ·injection e with e1 _;subst e1;cases v<;>rfl
theorem A2b (prog:Program)(w:World)(i:Int)(t:Tok):(cH prog w).is (.inl i) (.int i t)=true:=A2g i t
theorem B0j (prog:Program)(w:World)(x:Str)(t:Tok):(cH prog w).is (.inr x) (.str x t)=true:=A77 x t
inductive V where
 |non|bl (b:Bool)|int (i:Int)|str (x:Str)|byt (b:Array UInt8)|flt (b:UInt64)|ref (a:Addr)|ty (n:String)
 deriving DecidableEq
noncomputable def RelV:V->Value->Prop
 | .non,u=>u=Value.none
 | .bl b,u=>u=Value.bool b
 | .int i,u=> ∃t,u=Value.int i t
 | .str x,u=> ∃t,u=Value.str x t
 | .byt b,u=> ∃t,u=Value.bytes b t
 | .flt b,u=> ∃t,u=Value.float b t
 | .ref a,u=>u=Value.ref a
 | .ty n,u=>u=Value.type n
noncomputable abbrev Vals:List V->List Value->Prop:=Paired RelV
theorem Vals.length {xs:List V}{us:List Value}(r:Vals xs us):xs.length=us.length:=Paired.length r
theorem Vals.get:∀{xs:List V}{us:List Value}{i:Nat}{x:V},Vals xs us->xs[i]?=some x->∃u,us[i]?=some u/\RelV x u
 |_,_,_,_,.nil,e=>by simp at e
 |_,_,0,_,.cons r _,e=>by simp at e;subst e;exact⟨_,rfl,r⟩
 |_,_,i+1,x,.cons _ t,e=>by
  obtain⟨u,h1,h2⟩:=Vals.get (i:=i) (x:=x) t (by simpa using e);exact⟨u,by simpa using h1,h2⟩
theorem Vals.set {x:V}{u:Value}(r:RelV x u):∀{xs:List V}{us:List Value}(i:Nat),Vals xs us->Vals (xs.set i x) (us.set i u)
 |_,_,_,.nil=> .nil
 |_,_,0,.cons _ t=> .cons r t
 |_,_,i+1,.cons q t=> .cons q (Vals.set r i t)
theorem Vals.append:∀{xs ys:List V}{us ws:List Value},Vals xs us->Vals ys ws->Vals (xs++ys) (us++ws)
 |_,_,_,_,.nil,s=>s
 |_,_,_,_,.cons r t,s=> .cons r (Vals.append t s)
theorem Vals.take:∀{xs:List V}{us:List Value}(n:Nat),Vals xs us->Vals (xs.take n) (us.take n)
 |_,_,0,_=> .nil
 |_,_,_+1,.nil=> .nil
 |_,_,n+1,.cons r t=> .cons r (Vals.take n t)
theorem Vals.drop:∀{xs:List V}{us:List Value}(n:Nat),Vals xs us->Vals (xs.drop n) (us.drop n)
 |_,_,0,r=>r
 |_,_,_+1,.nil=> .nil
 |_,_,n+1,.cons _ t=>Vals.drop n t
noncomputable def RelO:Option V->Option Value->Prop
 |some v,some u=>RelV v u
 |none,none=>True
 |_,_=>False
noncomputable def KV {κ:Type}:List (κ×V)->List (κ×Value)->Prop:=Paired fun(p:κ×V) (q:κ×Value)=>p.1=q.1/\RelV p.2 q.2
noncomputable def kV:Key->V
 | .inl i=> .int i
 | .inr x=> .str x
inductive HO where
  |lst (xs:List V)
  |tup (xs:List V)
  |dK (kvs:List (Key×V))|dT (kvs:List (List Key×V))
  |set (S:Int->Bool) (n:Nat)
  |ins (C dx:Addr) (fs:List (Str×V))
  |own (x:Addr)
  |xd (fs:List (Str×V))
  |met (f x:Addr)
  |rng (lo hi:Int)
  |frz (o:Obj) (u:HO)
  |tbl (ps:Array Value)
  |ext (φ:Heap->Prop)
noncomputable abbrev Hp:=Addr->Option HO
noncomputable def upd (H:Hp)(a:Addr)(o:HO):Hp:=fun b=>if b=a then some o else H b
theorem aG {H:Hp}{a:Addr}{o:HO}:upd H a o a=some o:=by unfold upd;rw [if_pos rfl]
theorem aV {H:Hp}{a b:Addr}{o:HO}(h:b≠a):upd H a o b=H b:=by unfold upd;rw [if_neg h]
theorem oR {H:Hp}{a b:Addr}{o u:HO}(h:H a=some o)(h':H b=some u)(d:o≠u):a≠b:=by intro e;subst e;rw [h]at h';exact d (Option.some.inj h')
theorem bG {H:Hp}{a b:Addr}{o:HO}(h:H a=some o)(h':H b=none):a≠b:=by intro e;subst e;rw [h]at h';cases h'
section
variable (P:Program)(w:World)
noncomputable def ObjOk (H:Hp)(h:Heap)(a:Addr):HO->Prop
 | .lst xs=>xs.length<=sizeLine/\∃(its:List Value)(n:Nat),Vals xs its/\h.get? a=some {cls:=.type "list",data:=.seq its.toArray n}
 | .tup xs=>xs.length<=sizeLine/\∃its:List Value,Vals xs its/\IsTup h a its.toArray
 | .dK kvs=>kvs.length<=sizeLine/\(a==sysModules)=false/\∃vs,KV kvs vs/\h.DictOf (cH P w) a vs
 | .dT kvs=>kvs.length<=sizeLine/\(a==sysModules)=false/\∃xs:List (List Key×Addr×Value),
   Paired (fun(p:List Key×V) (q:List Key×Addr×Value)=>p.1=q.1/\H q.2.1=some (.tup (p.1.map kV))/\RelV p.2 q.2.2) kvs xs/\
   ∃o es ep,h.get? a=some o/\o.ExactDict/\o.data= .dict es ep/\es.toList=xs.map (entryOfKey (tupleKind (cH P w)))/\(xs.map (·.1)).Nodup
 | .set S n=>h.SetOf (intKind P w) a S n
 | .ins C dx fs=>H dx=some (.own a)/\fs.length<=1000/\dx≠a/\h.get? a=some (W.instObj C dx)/\
   ∃mA,h.Ns1 dx mA/\(∀f,RelO (fs.lookup f) (mA f))/\PySem.Within mA (fs.map (·.1))
 | .own _=> ∃o,h.get? a=some o
 | .xd fs=> ∃mA,h.Ns1 a mA/\∀f,RelO (fs.lookup f) (mA f)
 | .rng lo hi=> ∃t u v,h.get? a=some {cls:=.type "range",data:=.fields #[.int lo t,.int hi u,.int 1 v]}
 | .frz o u=>h.get? a=some o/\ObjOk H h a u
 | .tbl ps=>h.get? a=some {cls:=.none,data:=.fields ps}
 | .met f x=>h.get? a=some (W.methodObj (.ref f) (.ref x))
 | .ext φ=>φ h/\(∃o,h.get? a=some o)/\∀h1 h2:Heap,φ h1->(∀o,h1.get? a=some o->h2.get? a=some o)->φ h2
noncomputable def HOk (H:Hp)(h:Heap):Prop:=∀a o,H a=some o->ObjOk P w H h a o
end
section
variable {P:Program}{w:World}{H H':Hp}{h h':Heap}{a:Addr}{o:HO}
theorem ObjOk.lt (x:ObjOk P w H h a o):a<h.objs.size:=by
 cases o with
 |lst xs=>obtain⟨_,_,_,_,e⟩:=x;exact zjT e
 |tup xs=>obtain⟨_,_,_,p⟩:=x;exact p.lt
 |dK kvs=>obtain⟨_,_,_,_,o,_,_,e,_⟩:=x;exact zjT e
 |dT kvs=>obtain⟨_,_,_,_,o,_,_,e,_⟩:=x;exact zjT e
 |set S n=>obtain⟨o,_,_,_,e,_⟩:=x;exact zjT e
 |ins C dx fs=>obtain⟨_,_,_,e,_⟩:=x;exact zjT e
 |own y=>obtain⟨_,e⟩:=x;exact zjT e
 |xd fs=>obtain⟨_,⟨_,_,_,e,_⟩,_⟩:=x;exact zjT e
 |rng lo hi=>obtain⟨_,_,_,e⟩:=x;exact zjT e
 |frz ob u=>obtain⟨e,_⟩:=x;exact zjT e
 |tbl ps=>exact zjT (show h.get? a=some _ from x)
 |met f y=>exact zjT (show h.get? a=some _ from x)
 |ext φ=>obtain⟨_,⟨_,e⟩,_⟩:=x;exact zjT e
theorem Paired.mapP {α β:Type}{F G:α->β->Prop}:∀{l₁:List α}{l₂:List β},Paired F l₁ l₂->(∀a b,F a b->G a b)->Paired G l₁ l₂
 |_,_,.nil,_=> .nil
 |_,_,.cons r t,f=> .cons (f _ _ r) (Paired.mapP t f)
theorem ObjOk.stay (x:ObjOk P w H h a o)(k:∀b u,(b=a\/H b=some (.own a))->h.get? b=some u->h'.get? b=some u)
  (ho:∀b,H b=some (.own a)->H' b=some (.own a))(ht:∀b xs,H b=some (.tup xs)->H' b=some (.tup xs)):ObjOk P w H' h' a o:=by
 induction o with
 |lst xs=>obtain⟨z,its,n,r,e⟩:=x;exact⟨z,its,n,r,k _ _ (.inl rfl) e⟩
 |tup xs=>obtain⟨z,its,r,ob,e,c⟩:=x;exact⟨z,its,r,ob,k _ _ (.inl rfl) e,c⟩
 |dK kvs=>obtain⟨z,y,vs,r,ob,es,ep,e,c⟩:=x;exact⟨z,y,vs,r,ob,es,ep,k _ _ (.inl rfl) e,c⟩
 |dT kvs=>
  obtain⟨z,y,xs,r,ob,es,ep,e,c⟩:=x;exact⟨z,y,xs,Paired.mapP r fun p q z=> ⟨z.1,ht _ _ z.2.1,z.2.2⟩,ob,es,ep,k _ _ (.inl rfl) e,c⟩
 |set S n=>obtain⟨ob,es,ep,t,e,c⟩:=x;exact⟨ob,es,ep,t,k _ _ (.inl rfl) e,c⟩
 |ins C dx fs=>
  obtain⟨d,z,ne,e,mA,⟨od,es,ep,e2,c⟩,r⟩:=x;exact⟨ho _ d,z,ne,k _ _ (.inl rfl) e,mA,⟨od,es,ep,k _ _ (.inr d) e2,c⟩,r⟩
 |own y=>obtain⟨ob,e⟩:=x;exact⟨ob,k _ _ (.inl rfl) e⟩
 |xd fs=>obtain⟨mA,⟨od,es,ep,e,c⟩,r⟩:=x;exact⟨mA,⟨od,es,ep,k _ _ (.inl rfl) e,c⟩,r⟩
 |rng lo hi=>obtain⟨t,u,v,e⟩:=x;exact⟨t,u,v,k _ _ (.inl rfl) e⟩
 |frz ob u ih=>obtain⟨e,q⟩:=x;exact⟨k _ _ (.inl rfl) e,ih q⟩
 |tbl ps=>
  have e:h.get? a=some {cls:=.none,data:=.fields ps}:=x;show h'.get? a=some {cls:=.none,data:=.fields ps};exact k a _ (.inl rfl) e
 |met f y=>
  have e:h.get? a=some (W.methodObj (.ref f) (.ref y)):=x;show h'.get? a=some (W.methodObj (.ref f) (.ref y));exact k a _ (.inl rfl) e
 |ext φ=>obtain⟨p,⟨o,e⟩,st⟩:=x;exact⟨st _ _ p fun o q=>k _ _ (.inl rfl) q,⟨o,k _ _ (.inl rfl) e⟩,st⟩
theorem HOk.lt (x:HOk P w H h)(e:H a=some o):a<h.objs.size:=(x a o e).lt
theorem HOk.fresh (x:HOk P w H h)(e:h.objs.size<=a):H a=none:=by
 cases q:H a with
 |none=>rfl
 |some u=>exact absurd (lt_of_lt_of_le (x.lt q) e) (lt_irrefl _)
theorem HOk.kept (x:HOk P w H h)(k:∀b u,h.get? b=some u->h'.get? b=some u):HOk P w H h':=fun a o e=>
 (x a o e).stay (fun b u _ q=>k b u q) (fun _ q=>q) fun _ _ q=>q
theorem HOk.laid (x:HOk P w H h)(k:∀b u,h.get? b=some u->h'.get? b=some u)(hp:h.objs.size<=a)(new:ObjOk P w (upd H a o) h' a o):HOk P w (upd H a o) h':=fun b u e=>by
 have hn:=x.fresh hp;by_cases hb:b=a
 ·subst hb;rw [aG]at e;cases e;exact new
 ·rw [aV hb]at e;exact(x b u e).stay (fun c v _ q=>k c v q) (fun c q=>by rw [aV (bG q hn)];exact q) fun c xs q=>by rw [aV (bG q hn)];exact q
end
noncomputable def Rd (H:Hp)(a:Addr)(u:HO):Prop:=H a=some u\/ ∃o,H a=some (.frz o u)
theorem Rd.ok {P:Program}{w:World}{H:Hp}{h:Heap}{a:Addr}{u:HO}(r:Rd H a u)(x:HOk P w H h):ObjOk P w H h a u:=by
 rcases r with r| ⟨o,r⟩
 ·exact x a u r
 ·obtain⟨_,q⟩:=x a _ r;exact q
noncomputable def Mut:Option HO->Prop
 |some (.lst _)=>True
 |some (.dK _)=>True
 |some (.dT _)=>True
 |some (.set _ _)=>True
 |some (.ins _ _ _)=>True
 |some (.ext _)=>True
 |_=>False
section
variable {P:Program}{w:World}{H:Hp}{h h':Heap}{x e:Addr}{o':HO}
theorem HOk.write (ok:HOk P w H h)(mu:Mut (H x))(he:e=x\/H e=some (.own x))(k:∀b u,b≠e->h.get? b=some u->h'.get? b=some u)(heo:∃u,h'.get? e=some u)
  (new:ObjOk P w (upd H x o') h' x o'):HOk P w (upd H x o') h':=fun b u q=>by
 have nown:∀c y,H c=some (.own y)->c≠x:=fun c y r z=>by subst z;rw [r]at mu;exact mu
 have ntup:∀c xs,H c=some (.tup xs)->c≠x:=fun c xs r z=>by subst z;rw [r]at mu;exact mu
 by_cases hb:b=x
 ·subst hb;rw [aG]at q;cases q;exact new
 ·rw [aV hb]at q;by_cases hbe:b=e
  ·have q':H b=some (.own x):=by
    rcases he with z|z
    ·exact absurd (hbe.trans z) hb
    ·rw [hbe];exact z
   rw [q]at q';cases q';obtain⟨v,hv⟩:=heo;exact⟨v,by rw [hbe];exact hv⟩
  ·refine(ok b u q).stay (fun c v hc r=>k c v ?_ r) (fun c r=>by rw [aV (nown c b r)];exact r) fun c xs r=>by rw [aV (ntup c xs r)];exact r
   rcases hc with rfl|hc
   ·exact hbe
   ·rintro rfl;rcases he with z|z
    ·exact nown c b hc z
    ·rw [hc]at z;cases z;exact hb rfl
end
structure Un (fs ex:List Addr)(H H':Hp)(h h':Heap):Prop where
 keep:∀b o,h.get? b=some o->H b=none->b∉fs->b∉ex->h'.get? b=some o
 slot:∀b o,h.get? b=some o->H b=none->b∈fs->b∉ex->∃sl,h'.get? b=some {o with slots:=sl}
 free:∀b o,h.get? b=some o->H b=none->b∉ex->H' b=none
 there:∀b o,h.get? b=some o->b∉ex->∃o',h'.get? b=some o'
 tups:∀b xs,H b=some (.tup xs)->H' b=some (.tup xs)
 frzs:∀b o u,H b=some (.frz o u)->H' b=some (.frz o u)
 tbls:∀b ps,H b=some (.tbl ps)->∃more,H' b=some (.tbl (ps++more))
section
variable {fs fs' ex ex':List Addr}{H H1 H2:Hp}{h h1 h2 h':Heap}{a x e:Addr}{o:HO}
theorem Un.any (u:Un fs ex H H1 h h1){b:Addr}{ob:Obj}(q:h.get? b=some ob)(n:H b=none)(hx:b∉ex):∃sl,h1.get? b=some {ob with slots:=sl}:=by
 by_cases hb:b∈fs
 ·exact u.slot b ob q n hb hx
 ·exact⟨ob.slots,u.keep b ob q n hb hx⟩
theorem Un.kept (k:∀b u,h.get? b=some u->h'.get? b=some u):Un fs ex H H h h':=
 ⟨fun b ob q _ _ _=>k b ob q,fun b ob q _ _ _=> ⟨ob.slots,k b ob q⟩,fun _ _ _ n _=>n,fun b ob q _=> ⟨ob,k b ob q⟩,fun _ _ q=>q,fun _ _ _ q=>q,fun _ ps q=> ⟨#[],by rw [q];simp⟩⟩
theorem Un.refl:Un fs ex H H h h:=Un.kept fun _ _ q=>q
theorem Un.laid (k:∀b u,h.get? b=some u->h'.get? b=some u)(hp:h.objs.size<=a)(hn:H a=none):Un fs ex H (upd H a o) h h' where
 keep:=fun b u q _ _ _=>k b u q
 slot:=fun b u q _ _ _=> ⟨u.slots,k b u q⟩
 free:=fun b u q n _=>by rw [aV (ne_of_lt (lt_of_lt_of_le (zjT q) hp))];exact n
 there:=fun b u q _=> ⟨u,k b u q⟩
 tups:=fun b xs q=>by rw [aV (bG q hn)];exact q
 frzs:=fun b u xs q=>by rw [aV (bG q hn)];exact q
 tbls:=fun b ps q=> ⟨#[],by rw [aV (bG q hn),q];simp⟩
theorem Un.write (mu:Mut (H x))(he:e=x\/H e=some (.own x))(k:∀b u,b≠e->h.get? b=some u->h'.get? b=some u)(heo:∃u,h'.get? e=some u):Un fs ex H (upd H x o) h h':=by
 have hx:∀b,H b=none->b≠x:=fun b n z=>by subst z;rw [n]at mu;exact mu
 have hb:∀b,H b=none->b≠e:=fun b n z=>by
  subst z;rcases he with r|r
  ·exact hx b n r
  ·rw [n]at r;cases r
 have hm:∀b u,H b=some u->¬Mut (some u)->b≠x:=fun b u q nm z=>by subst z;rw [q]at mu;exact nm mu
 refine⟨fun b u q n _ _=>k b u (hb b n) q,fun b u q n _ _=> ⟨u.slots,k b u (hb b n) q⟩,fun b u q n _=>by rw [aV (hx b n)];exact n,fun b u q _=> ?_,
  fun b xs q=>by rw [aV (hm b _ q fun z=>z)];exact q,fun b u xs q=>by rw [aV (hm b _ q fun z=>z)];exact q,fun b ps q=> ⟨#[],by rw [aV (hm b _ q fun z=>z),q];simp⟩⟩
 by_cases hbe:b=e
 ·subst hbe;exact heo
 ·exact⟨u,k b u hbe q⟩
end
noncomputable def trk (h:Heap)(H:Hp):List Addr:=(List.range h.objs.size).filter fun a=>(H a).isSome
noncomputable def gI (h:Heap)(H:Hp):Heap:=W.hideAll h (trk h H)
theorem A5w (h:Heap)(H:Hp):(gI h H).objs.size=h.objs.size:=W.hideAll_size _ _
theorem B1h {h:Heap}{H:Hp}{b:Addr}{o:Obj}(e:h.get? b=some o)(n:H b=none):(gI h H).get? b=some o:=
 W.hideAll_get _ e fun hm=>by
  have q:(H b).isSome=true:=(mem_filter.mp hm).2;rw [n]at q;simp at q
theorem A37 {h:Heap}{H:Hp}{b:Addr}{o:Obj}(e:(gI h H).get? b=some o):h.get? b=some o/\H b=none:=by
 have e':h.get? b=some o:=W.of_hideAll (trk h H) e;refine⟨e',?_⟩;cases q:H b with
 |none=>rfl
 |some x=>
  have hm:b∈trk h H:=mem_filter.mpr ⟨mem_range.mpr (zjT e'),by simp [q]⟩;have z:(gI h H).get? b=none:=W.hideAll_none (trk h H) hm;rw [z]at e;cases e
noncomputable def A3y (g h:Heap)(L:Addr):List (Addr×Obj):=(List.range h.objs.size).filterMap fun a=>if a=L\/(g.get? a).isSome=true then none else(h.get? a).map fun o=>(a,o)
noncomputable def rest (g h:Heap)(L d:Addr):List (Addr×Obj):=(A3y g h L).filter fun p=>decide (p.1≠d)
structure Mod (K:W.Frag)(mg:Str->Option Value)(base:Heap):Prop where
 kin:K.In base
 glob:base.Ns mainGlobals mg
 blt:∃mb,base.Ns builtinsNs mb/\∀x:Str,x≠ "__name__"->mb x=bootBuiltins x
 nolimit:base.NoLimit
structure Cx where
 prog:Program
 w:World
 K:W.Frag
 mg:Str->Option Value
 base:Heap
 A:Around
 N:List Str
 s₀:Shared
 H₀:Hp
 env:Env
 outer:List Env
 stack:List Env
 ex:List Addr
 fn:Str->Bool
 calm:Bool
 pn:List (Addr×Obj)
 xe:Value->Shared->Prop
noncomputable def frs (l:List Env):List Addr:=l.filterMap (·.frame)
noncomputable abbrev Cx.fs (X:Cx):List Addr:=frs X.outer
noncomputable def Vis (sc:Scope)(x:Str):Prop:=sc.names.lookup x=some .local\/sc.names.lookup x=some .cell\/sc.names.lookup x=some .free
noncomputable def Loc (sc:Scope)(x:Str):Prop:=sc.names.lookup x=some .local\/sc.names.lookup x=some .cell
noncomputable def A4t (env:Env)(h:Heap)(m:Str->Option Value)(x:Str)(u:Value):Prop:=
 (env.kindOf x=some .local/\m x=some u)\/((env.kindOf x=some .cell\/env.kindOf x=some .free)/\∃c,env.cells.lookup x=some c/\h.IsCell c (some u))
structure Cx.Ok (X:Cx):Prop where
 mod:Mod X.K X.mg X.base
 kind:X.env.scope.kind= .function
 glob:X.env.globals=mainGlobals
 blt:X.env.builtins=builtinsNs
 above:X.s₀.heap.objs.size<=X.env.locals
 inj:∀x y c,X.env.cells.lookup x=some c->X.env.cells.lookup y=some c->x=y
 has:∀x,(X.env.kindOf x=some .cell\/X.env.kindOf x=some .free)->∃c,X.env.cells.lookup x=some c
 cab:∀x c,X.fn x=true->X.env.cells.lookup x=some c->X.s₀.heap.objs.size<=c
 hd:X.calm=true->X.A.handled=none
 frames:X.A.frames=some X.stack
 stk:X.stack=X.outer\/(X.stack=X.env::X.outer/\X.env.frame=some X.env.locals)
 exf:∀b∈X.ex,b≠X.env.locals/\∀x c,X.env.cells.lookup x=some c->c≠b
 bs:∀b o,X.base.get? b=some o->X.s₀.heap.get? b=some o/\X.H₀ b=none
 bsz:X.base.objs.size<=X.s₀.heap.objs.size
 noex:∀b o,X.base.get? b=some o->b∉X.ex
 exfs:∀b∈X.ex,b∉X.fs
 funs:X.s₀.heap.FunFrames X.base X.outer
 frf:∀b∈X.fs,X.H₀ b=none
structure Inv (X:Cx)(pins:List (Addr×Obj))(σ:List (Option V))(H:Hp)(s:Shared):Prop where
 ok:X.Ok
 os:s.os=X.s₀.os
 bare:AllBare s.gens
 base:Un X.fs X.ex X.H₀ H X.s₀.heap s.heap
 loc:∃m,s.heap.Ns X.env.locals m/\∀(i:Nat)(x:Str)(v:V),X.N[i]?=some x->σ[i]?=some (some v)->Vis X.env.scope x->∃u,RelV v u/\A4t X.env s.heap m x u
 cell:∀x c,X.env.cells.lookup x=some c->∃v,s.heap.IsCell c v
 free:H X.env.locals=none
 freeC:∀x c,X.env.cells.lookup x=some c->H c=none
 pin:∀p∈X.pn++pins,s.heap.get? p.1=some p.2/\H p.1=none/\p.1≠X.env.locals/\p.1∉X.fs/\∀v,p.2.data≠ .cell v
 hok:HOk X.prog X.w H s.heap
 len:σ.length=X.N.length
section
variable {X:Cx}{pins:List (Addr×Obj)}{σ:List (Option V)}{H H':Hp}{s:Shared}{h':Heap}
theorem Cx.Ok.nofr (ok:X.Ok){b:Addr}{o:Obj}(e:X.base.get? b=some o):b∉X.fs:=fun hb=>by
 have:=(ok.funs.mem hb).1;rw [e]at this;cases this
theorem Inv.bs (I:Inv X pins σ H s):∀b o,X.base.get? b=some o->s.heap.get? b=some o/\H b=none:=fun b o e=>
 ⟨I.base.keep b o (I.ok.bs b o e).1 (I.ok.bs b o e).2 (I.ok.nofr e) (I.ok.noex b o e),I.base.free b o (I.ok.bs b o e).1 (I.ok.bs b o e).2 (I.ok.noex b o e)⟩
theorem Inv.bk (I:Inv X pins σ H s):∀b o,X.base.get? b=some o->s.heap.get? b=some o:=fun b o e=>(I.bs b o e).1
theorem Inv.mod (I:Inv X pins σ H s):Mod X.K X.mg X.base:=I.ok.mod
theorem Inv.kIn (I:Inv X pins σ H s):X.K.In s.heap:=I.ok.mod.kin.keeps I.bk
theorem Inv.lt (I:Inv X pins σ H s):X.env.locals<s.heap.objs.size:=let ⟨_,hn,_⟩:=I.loc;hn.lt
theorem Inv.sz (I:Inv X pins σ H s):X.s₀.heap.objs.size<=s.heap.objs.size:=le_trans I.ok.above (le_of_lt I.lt)
theorem Inv.nofs (I:Inv X pins σ H s){a:Addr}(h:s.heap.objs.size<=a):a∉X.fs:=fun hb=>by
 obtain⟨_,o,ho,_⟩:=I.ok.funs.mem hb;exact absurd (lt_of_lt_of_le (zjT ho) (le_trans I.sz h)) (lt_irrefl _)
theorem Inv.cne (I:Inv X pins σ H s):∀x c,X.env.cells.lookup x=some c->c≠X.env.locals:=fun x c e z=>by
 obtain⟨v,o,ho,hd⟩:=I.cell x c e;obtain⟨m,⟨o',es,ep,ho',hd',_⟩,_⟩:=I.loc;rw [z,ho']at ho;cases ho;rw [hd']at hd;cases hd
theorem Inv.funs (I:Inv X pins σ H s):s.heap.FunFrames X.base X.outer:=by
 have all:∀(l:List Env),(∀b∈frs l,b∈X.fs)->X.s₀.heap.FunFrames X.base l->s.heap.FunFrames X.base l:=by
  intro l
  induction l with
  |nil=>intro _ _;trivial
  |cons env r ih=>
   intro hs hl;obtain⟨hk,⟨L,o,hf,hn,ho,hd⟩,hr⟩:=hl;have hL:L∈X.fs:=hs L (by unfold frs;rw [List.filterMap_cons,hf];exact zjR);obtain⟨sl,e⟩:=I.base.slot L o ho (I.ok.frf L hL) hL fun z=>I.ok.exfs L z hL;exact⟨hk,⟨L,_,hf,hn,e,hd⟩,ih (fun b hb=>hs b (by unfold frs;rw [List.filterMap_cons,hf];exact zjS _ hb)) hr⟩
 exact all X.outer (fun _ hb=>hb) I.ok.funs
theorem Inv.stack (I:Inv X pins σ H s):s.heap.FunFrames X.base X.stack:=by
 rcases I.ok.stk with e| ⟨e,hf⟩
 ·rw [e];exact I.funs
 ·rw [e];obtain⟨m,hn,_⟩:=I.loc;refine .cons (by rw [I.ok.kind];decide) hf hn ?_ I.funs;exact Heap.get?_none_of_le (le_trans I.ok.bsz I.ok.above)
theorem Inv.stkSub (I:Inv X pins σ H s):∀b∈frs X.stack,b∈X.env.locals::X.fs:=fun b hb=>by
 rcases I.ok.stk with e| ⟨e,hf⟩
 ·rw [e]at hb;exact zjS _ hb
 ·rw [e]at hb;unfold frs at hb;rw [List.filterMap_cons,hf]at hb;exact hb
theorem Inv.stkFree (I:Inv X pins σ H s):∀b∈frs X.stack,H b=none:=fun b hb=>by
 rcases mem_cons.mp (I.stkSub b hb)with e|hb
 ·rw [e];exact I.free
 ·obtain⟨_,o,ho,_⟩:=I.ok.funs.mem hb;exact I.base.free b o ho (I.ok.frf b hb) fun z=>I.ok.exfs b z hb
theorem Inv.step {g':Array GenState}{t':Nat}{d':Drawn}{ch:List Addr}(I:Inv X pins σ H s)
  (hch:∀b∈ch,(b∈X.ex\/X.s₀.heap.objs.size<=b)/\b≠X.env.locals/\(∀x c,X.env.cells.lookup x=some c->c≠b)/\∀p∈X.pn++pins,p.1≠b)
  (keep:∀b o,b≠X.env.locals->b∉X.fs->b∉ch->s.heap.get? b=some o->H b=none->h'.get? b=some o)
  (slot:∀b o,b≠X.env.locals->b∈X.fs->b∉ch->s.heap.get? b=some o->H b=none->∃sl,h'.get? b=some {o with slots:=sl})(free:∀b o,b∉ch->s.heap.get? b=some o->H b=none->H' b=none)
  (there:∀b o,b∉ch->s.heap.get? b=some o->∃o',h'.get? b=some o')
  (tups:∀b xs,H b=some (.tup xs)->H' b=some (.tup xs))(frzs:∀b o u,H b=some (.frz o u)->H' b=some (.frz o u))(tbls:∀b ps,H b=some (.tbl ps)->∃more,H' b=some (.tbl (ps++more)))
  (ns:∀m,s.heap.Ns X.env.locals m->h'.Ns X.env.locals m)(hok:HOk X.prog X.w H' h')(hg:AllBare g'):
  Inv X pins σ H' {s with heap:=h',gens:=g',drawn:=d',toks:=t'}:=by
 have neL:∀b o,X.s₀.heap.get? b=some o->b≠X.env.locals:=fun b o e=>ne_of_lt (lt_of_lt_of_le (zjT e) I.ok.above);have neC:∀b o,X.s₀.heap.get? b=some o->b∉X.ex->b∉ch:=fun b o e hx hb=>by
  rcases(hch b hb).1 with z|z
  ·exact hx z
  ·exact absurd (lt_of_lt_of_le (zjT e) z) (lt_irrefl _)
 have cellK:∀x c,X.env.cells.lookup x=some c->∀v,s.heap.IsCell c v->h'.IsCell c v:=fun x c e v ⟨o,ho,hd⟩=>by
  have nch:c∉ch:=fun z=>(hch c z).2.2.1 x c e rfl;by_cases hc:c∈X.fs
  ·obtain⟨sl,q⟩:=slot c o (I.cne x c e) hc nch ho (I.freeC x c e);exact⟨_,q,hd⟩
  ·exact⟨o,keep c o (I.cne x c e) hc nch ho (I.freeC x c e),hd⟩
 refine⟨I.ok,I.os,hg,⟨fun b o e n hb hx=> ?_,fun b o e n hb hx=> ?_,fun b o e n hx=> ?_,fun b o e hx=> ?_,fun b xs e=>tups b xs (I.base.tups b xs e),fun b o xs e=>frzs b o xs (I.base.frzs b o xs e),fun b ps e=> ?_⟩,?_,fun x c e=> ?_,?_,fun x c e=> ?_,fun p hp=> ?_,hok,I.len⟩
 ·exact keep b o (neL b o e) hb (neC b o e hx) (I.base.keep b o e n hb hx) (I.base.free b o e n hx)
 ·obtain⟨sl,e1⟩:=I.base.slot b o e n hb hx;obtain⟨sl',e2⟩:=slot b _ (neL b o e) hb (neC b o e hx) e1 (I.base.free b o e n hx);exact⟨sl',e2⟩
 ·obtain⟨o',e1⟩:=I.base.there b o e hx;exact free b o' (neC b o e hx) e1 (I.base.free b o e n hx)
 ·obtain⟨o',e1⟩:=I.base.there b o e hx;exact there b o' (neC b o e hx) e1
 ·obtain⟨m1,e1⟩:=I.base.tbls b ps e;obtain⟨m2,e2⟩:=tbls b _ e1;exact⟨m1++m2,by rw [e2,Array.append_assoc]⟩
 ·obtain⟨m,hn,hl⟩:=I.loc;refine⟨m,ns m hn,fun i x v e1 e2 e3=> ?_⟩;obtain⟨u,r,l⟩:=hl i x v e1 e2 e3;refine⟨u,r,?_⟩;rcases l with l| ⟨k,c,e,z⟩
  ·exact .inl l
  ·exact .inr ⟨k,c,e,cellK x c e _ z⟩
 ·obtain⟨v,z⟩:=I.cell x c e;exact⟨v,cellK x c e v z⟩
 ·obtain⟨m,⟨o,_,_,ho,_⟩,_⟩:=I.loc;exact free _ o (fun z=>(hch _ z).2.1 rfl) ho I.free
 ·obtain⟨v,o,ho,hd⟩:=I.cell x c e;exact free c o (fun z=>(hch c z).2.2.1 x c e rfl) ho (I.freeC x c e)
 ·obtain⟨e,n,ne,nf,d⟩:=I.pin p hp;have nch:p.1∉ch:=fun z=>(hch p.1 z).2.2.2 p hp rfl;exact⟨keep p.1 p.2 ne nf nch e n,free p.1 p.2 nch e n,ne,nf,d⟩
theorem Inv.un {t':Nat}(I:Inv X pins σ H s)(u:Un X.fs [] H H' s.heap h')(hok:HOk X.prog X.w H' h'):Inv X pins σ H' {s with heap:=h',toks:=t'}:=by
 obtain⟨m,⟨o,es,ep,ho,r⟩,_⟩:=id I.loc;obtain⟨sl,hL⟩:=u.any ho I.free (by simp);exact I.step (g':=s.gens) (d':=s.drawn) (ch:=[]) (fun _ z=>nomatch z) (fun b o _ hb _ e n=>u.keep b o e n hb (by simp)) (fun b o _ hb _ e n=>u.slot b o e n hb (by simp)) (fun b o _ e n=>u.free b o e n (by simp)) (fun b o _ e=>u.there b o e (by simp)) u.tups u.frzs u.tbls (fun m' hm=>by
  obtain⟨o',es',ep',ho',r'⟩:=hm;rw [ho]at ho';cases ho';exact⟨_,es',ep',hL,r'⟩) hok I.bare
theorem Inv.call {g':Array GenState}{t':Nat}{d':Drawn}{ch:List Addr}(I:Inv X pins σ H s)(u:Un (frs X.stack) ch H H' s.heap h')(hok:HOk X.prog X.w H' h')(hg:AllBare g')
  (hch:∀b∈ch,(b∈X.ex\/X.s₀.heap.objs.size<=b)/\b≠X.env.locals/\(∀x c,X.env.cells.lookup x=some c->c≠b)/\∀p∈X.pn++pins,p.1≠b):
  Inv X pins σ H' {s with heap:=h',gens:=g',drawn:=d',toks:=t'}:=by
 obtain⟨m,⟨o,es,ep,ho,r⟩,_⟩:=id I.loc;obtain⟨sl,hL⟩:=u.any ho I.free fun z=>(hch _ z).2.1 rfl;exact I.step (ch:=ch) hch (fun b o hL hb hc e n=>u.keep b o e n (fun z=>(mem_cons.mp (I.stkSub b z)).elim hL hb) hc) (fun b o _ _ hc e n=>u.any e n hc) (fun b o hc e n=>u.free b o e n hc) (fun b o hc e=>u.there b o e hc) u.tups u.frzs u.tbls (fun m' hm=>by
  obtain⟨o',es',ep',ho',r'⟩:=hm;rw [ho]at ho';cases ho';exact⟨_,es',ep',hL,r'⟩) hok hg
theorem Inv.turned {t':Nat}{it:Addr}(I:Inv X pins σ H s)(k:∀b o,b≠it->s.heap.get? b=some o->h'.get? b=some o)(hn:H it=none)(hL:it≠X.env.locals)
  (h1:it∈X.ex\/X.s₀.heap.objs.size<=it)(h2:∀x c,X.env.cells.lookup x=some c->c≠it)(h3:∀p∈X.pn++pins,p.1≠it):Inv X pins σ H {s with heap:=h',toks:=t'}:=by
 have nit:∀b u,H b=some u->b≠it:=fun b u e z=>by rw [z,hn]at e;cases e
 refine I.step (g':=s.gens) (d':=s.drawn) (ch:=[it]) (fun b hb=> ?_) (fun b o _ _ hc e _=>k b o (fun z=>hc (by simp [z])) e) (fun b o _ _ hc e _=> ⟨o.slots,k b o (fun z=>hc (by simp [z])) e⟩) (fun _ _ _ _ n=>n)
  (fun b o hc e=> ⟨o,k b o (fun z=>hc (by simp [z])) e⟩) (fun _ _ e=>e) (fun _ _ _ e=>e) (fun b ps e=> ⟨#[],by rw [e];simp⟩) (fun m hm=> ?_) (fun b u e=> ?_) I.bare
 ·have e:b=it:=by simpa using hb
  subst e;exact⟨h1,hL,h2,h3⟩
 ·obtain⟨o,es,ep,ho,r⟩:=hm;exact⟨o,es,ep,k _ o (Ne.symm hL) ho,r⟩
 ·refine(I.hok b u e).stay (fun c v hc q=>k c v ?_ q) (fun _ q=>q) fun _ _ q=>q;rcases hc with z|z
  ·rw [z];exact nit b u e
  ·exact nit c _ z
theorem Inv.tok (I:Inv X pins σ H s)(t:Nat):Inv X pins σ H {s with toks:=t}:=I.un (h':=s.heap) (t':=t) Un.refl I.hok
theorem Inv.kept {t':Nat}(I:Inv X pins σ H s)(k:∀b u,s.heap.get? b=some u->h'.get? b=some u):Inv X pins σ H {s with heap:=h',toks:=t'}:=I.un (Un.kept k) (I.hok.kept k)
theorem Inv.laid {a:Addr}{o:HO}{t':Nat}(I:Inv X pins σ H s)(k:∀b u,s.heap.get? b=some u->h'.get? b=some u)(hp:s.heap.objs.size<=a)(new:ObjOk X.prog X.w (upd H a o) h' a o):
  Inv X pins σ (upd H a o) {s with heap:=h',toks:=t'}:=I.un (Un.laid k hp (I.hok.fresh hp)) (I.hok.laid k hp new)
theorem Inv.write {x e:Addr}{o:HO}{t':Nat}(I:Inv X pins σ H s)(mu:Mut (H x))(he:e=x\/H e=some (.own x))(k:∀b u,b≠e->s.heap.get? b=some u->h'.get? b=some u)(heo:∃u,h'.get? e=some u)
  (new:ObjOk X.prog X.w (upd H x o) h' x o):Inv X pins σ (upd H x o) {s with heap:=h',toks:=t'}:=I.un (Un.write mu he k heo) (I.hok.write mu he k heo new)
theorem Inv.pins_of {pins':List (Addr×Obj)}(I:Inv X pins σ H s)(h:∀p∈pins',s.heap.get? p.1=some p.2/\H p.1=none/\p.1≠X.env.locals/\p.1∉X.fs/\∀v,p.2.data≠ .cell v):Inv X pins' σ H s:=
 ⟨I.ok,I.os,I.bare,I.base,I.loc,I.cell,I.free,I.freeC,fun p hp=>(mem_append.mp hp).elim (fun z=>I.pin p (mem_append_left _ z)) (h p),I.hok,I.len⟩
theorem zV {N:List Str}(hN:N.Nodup){i j:Nat}{x:Str}(a:N[i]?=some x)(b:N[j]?=some x):i=j:=by obtain⟨h1,e1⟩:=zjW.mp a;obtain⟨h2,e2⟩:=zjW.mp b;exact(List.getElem_inj hN).mp (e1.trans e2.symm)
theorem pK {M:Model}{A:Around}{E:Value->Shared->Prop}{i:Nat}{x:Str}{v:V}{u:Value}{Q:Unit->Shared->Prop}(I:Inv X pins σ H s)(hN:X.N.Nodup)(hi:X.N[i]?=some x)(hx:Loc X.env.scope x)(r:RelV v u)
  (h:∀s',Inv X pins (σ.set i (some v)) H s'->(∃a,Heap.SameBut a s.heap s'.heap/\(a=X.env.locals\/X.env.cells.lookup x=some a))->Q () s')(hf:X.fn x=true\/X.env.scope.names.lookup x=some .local:=by first|exact .inl rfl|exact .inr rfl|assumption):wpAny M A (storeName X.env x u) Q E s:=by
 obtain⟨m,hn,hl⟩:=id I.loc;have hcls:(X.env.scope.kind== .class|| (X.env.scope.kind== .module&&X.env.locals !=X.env.globals))=false:=by rw [I.ok.kind];rfl
 have hiσ:i<σ.length:=by rw [I.len];exact(zjW.mp hi).1
 have cne:=I.cne;have tracked:∀{a:Addr}{h':Heap},(∃o,s.heap.get? a=some o/\H a=none)->Heap.SameBut a s.heap h'->HOk X.prog X.w H h':=fun{a h'} ha hs b ob e=>by
  obtain⟨_,_,hfree⟩:=ha;refine(I.hok b ob e).stay (fun c w' hc q=>(hs.2 c ?_).trans q) (fun _ q=>q) fun _ _ q=>q;rintro rfl;rcases hc with rfl|hc
  ·rw [hfree]at e;cases e
  ·rw [hfree]at hc;cases hc
 rcases hx with hk|hk
 ·refine wpAny_storeName_local hk hn (fun h' hn' hs=> ?_) hcls;obtain⟨oL,_,_,hoL,_⟩:=id hn;refine h _ ⟨I.ok,I.os,I.bare,⟨fun b o e n hb hx=> ?_,fun b o e n hb hx=> ?_,I.base.free,fun b o e hx=> ?_,I.base.tups,I.base.frzs,I.base.tbls⟩,⟨_,hn',fun j y v' e1 e2 e3=> ?_⟩,fun y c e=> ?_,I.free,I.freeC,fun p hp=> ?_,tracked ⟨oL,hoL,I.free⟩ hs,by simpa using I.len⟩ ⟨_,hs,.inl rfl⟩
  ·exact(hs.2 b (ne_of_lt (lt_of_lt_of_le (zjT e) I.ok.above))).trans (I.base.keep b o e n hb hx)
  ·obtain⟨sl,e1⟩:=I.base.slot b o e n hb hx;exact⟨sl,(hs.2 b (ne_of_lt (lt_of_lt_of_le (zjT e) I.ok.above))).trans e1⟩
  ·obtain⟨o',e1⟩:=I.base.there b o e hx;exact⟨o',(hs.2 b (ne_of_lt (lt_of_lt_of_le (zjT e) I.ok.above))).trans e1⟩
  ·by_cases hj:j=i
   ·subst hj;rw [hi]at e1;cases e1;rw [List.getElem?_set_self hiσ]at e2;cases e2;exact⟨u,r,.inl ⟨hk,by simp⟩⟩
   ·rw [List.getElem?_set_ne (Ne.symm hj)]at e2;obtain⟨u',r',q⟩:=hl j y v' e1 e2 e3;refine⟨u',r',?_⟩;rcases q with⟨k,e⟩| ⟨k,c,e,z⟩
    ·refine .inl ⟨k,?_⟩;have:y≠x:=fun e=>hj (zV hN e1 (e▸hi));simp [this,e]
    ·exact .inr ⟨k,c,e,z.sameBut hs (cne y c e)⟩
  ·obtain⟨w',z⟩:=I.cell y c e;exact⟨w',z.sameBut hs (cne y c e)⟩
  ·obtain⟨e,n,ne,nf,d⟩:=I.pin p hp;exact⟨(hs.2 p.1 ne).trans e,n,ne,nf,d⟩
 ·have hfn:X.fn x=true:=by
   rcases hf with z|z
   ·exact z
   ·rw [z]at hk;cases hk
  obtain⟨c,hc⟩:=I.ok.has x (.inl hk);obtain⟨w',z⟩:=I.cell x c hc;refine wpAny_storeName_cell I.ok.kind hk hc z (fun h' hc' hs=> ?_);obtain⟨oc,hoc,hocd⟩:=id z;refine h {s with heap:=h'} ⟨I.ok,I.os,I.bare,⟨fun b o e n hb hx=> ?_,fun b o e n hb hx=> ?_,I.base.free,fun b o e hx=> ?_,I.base.tups,I.base.frzs,I.base.tbls⟩,⟨m,hn.sameBut hs (Ne.symm (cne x c hc)),fun j y v' e1 e2 e3=> ?_⟩,fun y c' e=> ?_,I.free,I.freeC,fun p hp=> ?_,tracked ⟨oc,hoc,I.freeC x c hc⟩ hs,by simpa using I.len⟩ ⟨c,hs,.inr hc⟩
  ·exact(hs.2 b (ne_of_lt (lt_of_lt_of_le (zjT e) (I.ok.cab x c hfn hc)))).trans (I.base.keep b o e n hb hx)
  ·obtain⟨sl,e1⟩:=I.base.slot b o e n hb hx;exact⟨sl,(hs.2 b (ne_of_lt (lt_of_lt_of_le (zjT e) (I.ok.cab x c hfn hc)))).trans e1⟩
  ·obtain⟨o',e1⟩:=I.base.there b o e hx;exact⟨o',(hs.2 b (ne_of_lt (lt_of_lt_of_le (zjT e) (I.ok.cab x c hfn hc)))).trans e1⟩
  ·by_cases hj:j=i
   ·subst hj;rw [hi]at e1;cases e1;rw [List.getElem?_set_self hiσ]at e2;cases e2;exact⟨u,r,.inr ⟨.inl hk,c,hc,hc'⟩⟩
   ·rw [List.getElem?_set_ne (Ne.symm hj)]at e2;obtain⟨u',r',q⟩:=hl j y v' e1 e2 e3;refine⟨u',r',?_⟩;rcases q with q| ⟨k,c',e,z'⟩
    ·exact .inl q
    ·refine .inr ⟨k,c',e,z'.sameBut hs ?_⟩;rintro rfl;exact hj (zV hN e1 (I.ok.inj _ _ _ e hc▸hi))
  ·by_cases hcc:c'=c
   ·subst hcc;exact⟨_,hc'⟩
   ·obtain⟨w2,z2⟩:=I.cell y c' e;exact⟨w2,z2.sameBut hs hcc⟩
  ·obtain⟨e,n,ne,nf,d⟩:=I.pin p hp;refine⟨(hs.2 p.1 ?_).trans e,n,ne,nf,d⟩;intro q;rw [q,hoc]at e;have q':oc=p.2:=Option.some.inj e;exact d w' (by rw [←q'];exact hocd)
theorem kK {M:Model}{A:Around}{E:Value->Shared->Prop}{i:Nat}{x:Str}{v:V}{u:Value}{Q:Unit->Shared->Prop}(I:Inv X pins σ H s)(hN:X.N.Nodup)(hi:X.N[i]?=some x)(hx:Loc X.env.scope x)(r:RelV v u)
  (h:∀s',Inv X pins (σ.set i (some v)) H s'->Q () s')(hf:X.fn x=true\/X.env.scope.names.lookup x=some .local:=by first|exact .inl rfl|exact .inr rfl|assumption):wpAny M A (storeName X.env x u) Q E s:=
 pK I hN hi hx r (fun s' I' _=>h s' I') hf
theorem Inv.call' {s':Shared}{ch:List Addr}(I:Inv X pins σ H s)(ho:s'.os=s.os)(u:Un (frs X.stack) ch H H' s.heap s'.heap)(hok:HOk X.prog X.w H' s'.heap)(hg:AllBare s'.gens)
  (hch:∀b∈ch,(b∈X.ex\/X.s₀.heap.objs.size<=b)/\b≠X.env.locals/\(∀x c,X.env.cells.lookup x=some c->c≠b)/\∀p∈X.pn++pins,p.1≠b):Inv X pins σ H' s':=by
 obtain⟨h',g',d',t',o'⟩:=s';have e:o'=s.os:=ho;subst e;exact I.call (g':=g') (t':=t') (d':=d') u hok hg hch
end
noncomputable abbrev XK:=Value->Option Addr->Hp->Prop
noncomputable abbrev St:=List (Option V)
noncomputable abbrev VK:=V->Hp->Prop
noncomputable abbrev TE:=St->Hp->VK->Prop
noncomputable abbrev TT:=St->Hp->(Bool->Hp->Prop)->Prop
noncomputable abbrev TA:=St->Hp->(List V->Hp->Prop)->Prop
structure cY where
 nx:St->Hp->Prop
 rt:VK
 bk:St->Hp->Prop:=fun _ _=>False
 ct:St->Hp->Prop:=fun _ _=>False
noncomputable abbrev TS:=cY->St->Hp->Prop
noncomputable def EP (X:Cx)(pins:List (Addr×Obj))(σ:St)(Q:VK)(u:Value)(s':Shared):Prop:=∃v H',Inv X pins σ H' s'/\RelV v u/\Q v H'
noncomputable def TP (X:Cx)(pins:List (Addr×Obj))(σ:St)(Q:Bool->Hp->Prop)(b:Bool)(s':Shared):Prop:=∃H',Inv X pins σ H' s'/\Q b H'
noncomputable def AP (X:Cx)(pins:List (Addr×Obj))(σ:St)(Q:List V->Hp->Prop)(us:List Value)(s':Shared):Prop:=∃vs H',Inv X pins σ H' s'/\Vals vs us/\Q vs H'
noncomputable def SP (X:Cx)(pins:List (Addr×Obj))(D:cY)(f:Flow)(s':Shared):Prop:=
 match f with
 | .next=> ∃σ' H',Inv X pins σ' H' s'/\D.nx σ' H'
 | .brk=> ∃σ' H',Inv X pins σ' H' s'/\D.bk σ' H'
 | .cont=> ∃σ' H',Inv X pins σ' H' s'/\D.ct σ' H'
 | .ret u=> ∃v σ' H',Inv X pins σ' H' s'/\RelV v u/\D.rt v H'
noncomputable def PE (X:Cx)(e:Expr)(t:TE):Prop:=
 ∀(pins:List (Addr×Obj))(s:Shared)(σ:St)(H:Hp)(Q:VK),Inv X pins σ H s->t σ H Q->wpAny (model X.prog X.w) X.A (eval e X.env) (EP X pins σ Q) X.xe s
noncomputable def PT (X:Cx)(e:Expr)(t:TT):Prop:=
 ∀(pins:List (Addr×Obj))(s:Shared)(σ:St)(H:Hp)(Q:Bool->Hp->Prop),Inv X pins σ H s->t σ H Q->wpAny (model X.prog X.w) X.A (isTrue e X.env (eval e X.env)) (TP X pins σ Q) X.xe s
noncomputable def PW (X:Cx)(e:Expr)(t:TT):Prop:=
 ∀(whole:Sem Value)(pins:List (Addr×Obj))(s:Shared)(σ:St)(H:Hp)(Q:Bool->Hp->Prop),Inv X pins σ H s->t σ H Q->wpAny (model X.prog X.w) X.A (isTrue e X.env whole) (TP X pins σ Q) X.xe s
theorem PW.pt {X:Cx}{e:Expr}{t:TT}(h:PW X e t):PT X e t:=h _
noncomputable def PA (X:Cx)(es:List Expr)(t:TA):Prop:=
 ∀(pos:Pos)(pins:List (Addr×Obj))(s:Shared)(σ:St)(H:Hp)(Q:List V->Hp->Prop),Inv X pins σ H s->t σ H Q->wpAny (model X.prog X.w) X.A (spliced (backTo pos (starEach es X.env))) (AP X pins σ Q) X.xe s
noncomputable def PS (X:Cx)(st:Stmt)(t:TS):Prop:=
 ∀(pins:List (Addr×Obj))(s:Shared)(σ:St)(H:Hp)(D:cY),Inv X pins σ H s->t D σ H->wpAny (model X.prog X.w) X.A (exec st X.env) (SP X pins D) X.xe s
noncomputable def PSs (X:Cx)(st:List Stmt)(t:TS):Prop:=
 ∀(pins:List (Addr×Obj))(s:Shared)(σ:St)(H:Hp)(D:cY),Inv X pins σ H s->t D σ H->wpAny (model X.prog X.w) X.A (execs st X.env) (SP X pins D) X.xe s
theorem thn {α:Type}{t:Sem α}{Q Q':α->Shared->Prop}{M:Model}{A:Around}{E:Value->Shared->Prop}{s:Shared}(h:wpAny M A t Q E s)(hQ:∀a s,Q a s->Q' a s):wpAny M A t Q' E s:=wpAny_mono h hQ fun _ _ x=>x
section
variable {X:Cx}
noncomputable def dP (i:Nat):TE:=fun σ H Q=> ∃v,σ[i]?=some (some v)/\Q v H
noncomputable def tC (v:V):TE:=fun _ H Q=>Q v H
theorem A1t {i:Nat}{x:Str}{pos:Pos}(hN:X.N[i]?=some x)(hv:Vis X.env.scope x)(hd:(x==("__debug__":Str))=false:=by decide)(hcd:(x==("__classdict__":Str))=false:=by decide):PE X (.Name x pos) (dP i):=by
 intro pins s σ H Q I h;obtain⟨v,e,h⟩:=h;obtain⟨m,hn,hl⟩:=I.loc;obtain⟨u,r,l⟩:=hl i x v hN e hv;have fin:EP X pins σ Q u s:=⟨v,H,I,r,h⟩;rcases l with⟨hk,hm⟩| ⟨hk,c,hc,hcell⟩
 ·exact wpAny_Name (wpAny_loadName_local I.ok.kind hk hn hm fin) hd
 ·rcases hk with hk|hk
  ·exact wpAny_Name (wpAny_loadName_cell I.ok.kind hk hc hcell fin) hd
  ·exact wpAny_Name (wpAny_loadName_free I.ok.kind hk hc hcell fin hcd) hd
theorem aK {i j pos}:PE X (.Constant (.int i) j pos) (tC (.int i)):=fun _ _ _ H _ I h=>wpAny_Constant_int ⟨.int i,H,I.tok _,⟨_,rfl⟩,h⟩
theorem eR {b j pos}:PE X (.Constant (.bool b) j pos) (tC (.bl b)):=fun _ _ _ H _ I h=>Constant_bool ⟨.bl b,H,I,rfl,h⟩
noncomputable def Gl (X:Cx)(x:Str):Prop:=X.env.kindOf x=some .globalImplicit
theorem vW {E:Value->Shared->Prop}{pins:List (Addr×Obj)}{s:Shared}{σ:St}{H:Hp}{x:Str}{u:Value}{pos:Pos}{Q:Value->Shared->Prop}(I:Inv X pins σ H s)(hg:Gl X x)(hm:X.mg x=some u)(h:Q u s)
  (hd:(x==("__debug__":Str))=false:=by decide):wpAny (model X.prog X.w) X.A (eval (.Name x pos) X.env) Q E s:=
 Calls.Name_function_global I.ok.kind hg (Calls.loadGlobal_global (by rw [I.ok.glob];exact I.mod.glob.keeps I.bk) hm h) hd
theorem gL {E:Value->Shared->Prop}{pins:List (Addr×Obj)}{s:Shared}{σ:St}{H:Hp}{x:Str}{u:Value}{pos:Pos}{Q:Value->Shared->Prop}(I:Inv X pins σ H s)(hg:Gl X x)(hm:X.mg x=none)(hv:bootBuiltins x=some u)(h:Q u s)
  (hn:x≠ "__name__":=by decide)(hd:(x==("__debug__":Str))=false:=by decide):wpAny (model X.prog X.w) X.A (eval (.Name x pos) X.env) Q E s:=by
 obtain⟨mb,h1,h2⟩:=I.mod.blt;exact Calls.Name_function_global I.ok.kind hg (Calls.loadGlobal_builtin (by rw [I.ok.glob];exact I.mod.glob.keeps I.bk) hm (by rw [I.ok.blt];exact h1.keeps I.bk) ((h2 x hn).trans hv) h) hd
theorem eD {x:Str}{v:V}{u:Value}{pos:Pos}(hg:Gl X x)(hm:X.mg x=some u)(r:RelV v u)(hd:(x==("__debug__":Str))=false:=by decide):PE X (.Name x pos) (tC v):=
 fun _ _ _ H _ I h=>vW I hg hm ⟨v,H,I,r,h⟩ hd
theorem nV {x:Str}{v:V}{u:Value}{pos:Pos}(hg:Gl X x)(hm:X.mg x=none)(hv:bootBuiltins x=some u)(r:RelV v u)(hn:x≠ "__name__":=by decide)(hd:(x==("__debug__":Str))=false:=by decide):PE X (.Name x pos) (tC v):=
 fun _ _ _ H _ I h=>gL I hg hm hv ⟨v,H,I,r,h⟩ hn hd
variable {a b:Expr}{ta tb:TE}{pos:Pos}
noncomputable def PC (X:Cx)(op:CmpOp)(a b:Expr)(t:TE):Prop:=
 ∀(pins:List (Addr×Obj))(s:Shared)(σ:St)(H:Hp)(Q:VK),Inv X pins σ H s->t σ H Q->
  wpAny (model X.prog X.w) X.A (eval a X.env) (fun v s₁=>wpAny (model X.prog X.w) X.A (eval b X.env) (fun u s₂=>wpAny (model X.prog X.w) X.A (compareOp op v u) (EP X pins σ Q) X.xe s₂) X.xe s₁) X.xe s
noncomputable def tB (t:TE):TT:=fun σ H Q=>t σ H fun x H1=> ∃c,x= .bl c/\Q c H1
theorem A73 {op:CmpOp}{t:TE}(h:PC X op a b t)(h1:behindInMarks op b=false:=by first|exact nobehind _ (by decide) (by decide)|rfl):PT X (.Compare a [op] [b] pos) (tB t):=by intro pins s σ H Q I hw;refine wpAny_isTrue_Compare1 (thn (h pins s σ H _ I hw) fun v s1 h1=>thn h1 fun u s2 h2=>thn h2 fun c s3 ⟨x,H1,I1,r1,q1⟩=> ?_) h1;obtain⟨d,rfl,q⟩:=q1;cases r1;exact wpAny_truthy_bool ⟨H1,I1,q⟩
theorem bQ {e:Expr}{t:TE}(h:PE X e t)(he:∀whole,isTrue e X.env whole=(do let v←whole;standAt e.pos;holding [v] (truthy v)):=by intro _;rfl):PT X e (tB t):=by intro pins s σ H Q I hw;refine isTrue_plain (thn (h pins s σ H _ I hw) fun v s1 ⟨x,H1,I1,r1,q1⟩=> ?_) (he _);obtain⟨d,rfl,q⟩:=q1;cases r1;exact wpAny_truthy_bool ⟨H1,I1,q⟩
variable {tA tB':TT}{rest:List Expr}
noncomputable def A51 (t u:TT):TT:=fun σ H Q=>t σ H fun c H1=>if c=true then u σ H1 Q else Q false H1
noncomputable def tOr (t u:TT):TT:=fun σ H Q=>t σ H fun c H1=>if c=true then Q true H1 else u σ H1 Q
noncomputable def A2j (t:TT):TT:=fun σ H Q=>t σ H fun c H1=>Q (!c) H1
theorem rH (ha:PT X a tA):PW X (.BoolOp .And [a] pos) tA:=by
 intro wh pins s σ H Q I h;refine isTrue_and (thn (ha pins s σ H Q I h) fun c s1 e=> ?_);cases c with
 |true=>exact isTrue_and_nil e
 |false=>exact e
theorem jK (ha:PT X a tA):PW X (.BoolOp .Or [a] pos) tA:=by
 intro wh pins s σ H Q I h;refine isTrue_or (thn (ha pins s σ H Q I h) fun c s1 e=> ?_);cases c with
 |false=>exact isTrue_or_nil e
 |true=>exact e
theorem pA (ha:PT X a tA)(hb:PW X (.BoolOp .And (b::rest) pos) tB'):PW X (.BoolOp .And (a::b::rest) pos) (A51 tA tB'):=by
 intro wh pins s σ H Q I h;refine isTrue_and (thn (ha pins s σ H _ I h) fun c s1 ⟨H1,I1,q1⟩=> ?_);cases c with
 |true=>exact hb wh pins s1 σ H1 Q I1 q1
 |false=>exact⟨H1,I1,q1⟩
theorem gW (ha:PT X a tA)(hb:PW X (.BoolOp .Or (b::rest) pos) tB'):PW X (.BoolOp .Or (a::b::rest) pos) (tOr tA tB'):=by
 intro wh pins s σ H Q I h;refine isTrue_or (thn (ha pins s σ H _ I h) fun c s1 ⟨H1,I1,q1⟩=> ?_);cases c with
 |true=>exact⟨H1,I1,q1⟩
 |false=>exact hb wh pins s1 σ H1 Q I1 q1
theorem cD (ha:PT X a tA):PT X (.UnaryOp .Not a pos) (A2j tA):=by intro pins s σ H Q I h;exact isTrue_not (ha pins s σ H (fun c H1=>Q (!c) H1) I h)
noncomputable def A2s (ta tb:TE):TE:=fun σ H Q=>ta σ H fun x H1=> ∃c,x= .bl c/\if c=true then tb σ H1 Q else Q (.bl false) H1
noncomputable def A70 (ta:TE):TE:=fun σ H Q=>ta σ H fun x H1=> ∃c,x= .bl c/\Q (.bl (!c)) H1
theorem fP {op}{t:TE}(h:PE X a t):PE X (.BoolOp op [a] pos) t:=fun pins s σ H Q I hw=>BoolOp_one (h pins s σ H Q I hw)
theorem fQ (ha:PE X a ta)(hb:PE X (.BoolOp .And (b::rest) pos) tb):PE X (.BoolOp .And (a::b::rest) pos) (A2s ta tb):=by
 intro pins s σ H Q I h;refine BoolOp_and (thn (ha pins s σ H _ I h) fun v s1 ⟨x,H1,I1,r1,q1⟩=> ?_);obtain⟨c,rfl,q1⟩:=q1;cases r1;refine wpAny_truthy_bool ?_;cases c with
 |true=>exact hb pins s1 σ H1 Q I1 q1
 |false=>exact⟨.bl false,H1,I1,rfl,q1⟩
theorem A1s (ha:PE X a ta):PE X (.UnaryOp .Not a pos) (A70 ta):=by intro pins s σ H Q I h;refine UnaryOp_ (thn (ha pins s σ H _ I h) fun v s1 ⟨x,H1,I1,r1,q1⟩=> ?_);obtain⟨c,rfl,q1⟩:=q1;cases r1;exact not_of (wpAny_truthy_bool ⟨.bl (!c),H1,I1,rfl,q1⟩)
end
noncomputable def SqL (K:W.Frag)(H:Hp)(a:Addr)(xs:List V):Prop:=
 Rd H a (.lst xs)\/
  ∃(o:Obj)(its:Array Value)(n:Nat),K.lookup a=some o/\o.cls= .type "list"/\o.dict=none/\o.data= .seq its n/\its.size<=sizeLine/\Vals xs its.toList
noncomputable def SqT (K:W.Frag)(H:Hp)(a:Addr)(xs:List V):Prop:=
 Rd H a (.tup xs)\/
  ∃(o:Obj)(its:Array Value)(n:Nat),K.lookup a=some o/\o.cls= .type "tuple"/\o.data= .seq its n/\its.size<=sizeLine/\Vals xs its.toList
noncomputable def A6s:Value->Option V
 | .none=>some .non
 | .bool b=>some (.bl b)
 | .int i _=>some (.int i)
 | .str x _=>some (.str x)
 | .bytes b _=>some (.byt b)
 | .float b _=>some (.flt b)
 | .ref a=>some (.ref a)
 | .type n=>some (.ty n)
 |_=>none
theorem RelV.abs {x:V}{u:Value}(r:RelV x u):A6s u=some x:=by
 cases x with
 |non=>cases r;rfl
 |bl _=>cases r;rfl
 |int _=>obtain⟨t,rfl⟩:=r;rfl
 |str _=>obtain⟨t,rfl⟩:=r;rfl
 |byt _=>obtain⟨t,rfl⟩:=r;rfl
 |flt _=>obtain⟨t,rfl⟩:=r;rfl
 |ref _=>cases r;rfl
 |ty _=>cases r;rfl
theorem RelV.inj {x y:V}{u:Value}(r:RelV x u)(q:RelV y u):x=y:=Option.some.inj (r.abs.symm.trans q.abs)
theorem Vals.inj:∀{xs ys:List V}{us:List Value},Vals xs us->Vals ys us->xs=ys
 |_,_,_,.nil,.nil=>rfl
 |_,_,_,.cons r t,.cons r' t'=>by rw [r.inj r',Vals.inj t t']
section
variable {X:Cx}{pins:List (Addr×Obj)}{σ:St}{H:Hp}{s:Shared}{a:Addr}{xs ys:List V}
theorem SqL.of {K:W.Frag}(h:H a=some (.lst xs)):SqL K H a xs:=.inl (.inl h)
theorem SqT.of {K:W.Frag}(h:H a=some (.tup xs)):SqT K H a xs:=.inl (.inl h)
theorem Inv.list (I:Inv X pins σ H s)(h:SqL X.K H a xs):∃its:List Value,Vals xs its/\PlainL s.heap a its.toArray/\xs.length<=sizeLine:=by
 rcases h with h| ⟨o,its,n,hk,hc,hd,hs,hz,r⟩
 ·obtain⟨z,its,n,r,e⟩:=h.ok I.hok;exact⟨its,r,⟨_,n,e,rfl,rfl,rfl⟩,z⟩
 ·refine⟨its.toList,r,⟨o,n,I.kIn a o hk,hc,hd,by simpa using hs⟩,?_⟩;have e:=r.length;simp only [Array.length_toList]at e;omega
theorem Inv.tuple (I:Inv X pins σ H s)(h:SqT X.K H a xs):∃its:List Value,Vals xs its/\IsTup s.heap a its.toArray/\xs.length<=sizeLine:=by
 rcases h with h| ⟨o,its,n,hk,hc,hs,hz,r⟩
 ·obtain⟨z,its,r,p⟩:=h.ok I.hok;exact⟨its,r,p,z⟩
 ·refine⟨its.toList,r,⟨o,I.kIn a o hk,hc,n,by simpa using hs⟩,?_⟩;have e:=r.length;simp only [Array.length_toList]at e;omega
theorem Inv.list_inj (I:Inv X pins σ H s)(h:SqL X.K H a xs)(h':SqL X.K H a ys):xs=ys:=by
 obtain⟨its,r,⟨o,n,e,_,_,d⟩,_⟩:=I.list h;obtain⟨its',r',⟨o',n',e',_,_,d'⟩,_⟩:=I.list h';rw [e]at e';cases e';rw [d]at d';injection d' with d1 _
 have:its=its':=by simpa using congrArg Array.toList d1
 subst this;exact r.inj r'
theorem Inv.tuple_inj (I:Inv X pins σ H s)(h:SqT X.K H a xs)(h':SqT X.K H a ys):xs=ys:=by
 obtain⟨its,r,⟨o,e,_,n,d⟩,_⟩:=I.tuple h;obtain⟨its',r',⟨o',e',_,n',d'⟩,_⟩:=I.tuple h';rw [e]at e';cases e';rw [d]at d';injection d' with d1 _
 have:its=its':=by simpa using congrArg Array.toList d1
 subst this;exact r.inj r'
end
noncomputable abbrev Cx.wish (X:Cx)(E:Value->Shared->Prop):Cx:={X with xe:=E}
noncomputable abbrev Cx.nox (X:Cx):Cx:=X.wish fun _ _=>False
theorem Cx.Ok.wish {X:Cx}(ok:X.Ok)(E:Value->Shared->Prop):(X.wish E).Ok:=
 ⟨ok.mod,ok.kind,ok.glob,ok.blt,ok.above,ok.inj,ok.has,ok.cab,ok.hd,ok.frames,ok.stk,ok.exf,ok.bs,ok.bsz,ok.noex,ok.exfs,ok.funs,ok.frf⟩
theorem Cx.Ok.unwish {X:Cx}{E:Value->Shared->Prop}(ok:(X.wish E).Ok):X.Ok:=
 ⟨ok.mod,ok.kind,ok.glob,ok.blt,ok.above,ok.inj,ok.has,ok.cab,ok.hd,ok.frames,ok.stk,ok.exf,ok.bs,ok.bsz,ok.noex,ok.exfs,ok.funs,ok.frf⟩
section
variable {X:Cx}{pins:List (Addr×Obj)}{σ:St}{H:Hp}{s:Shared}{E:Value->Shared->Prop}
theorem Inv.wish (I:Inv X pins σ H s)(E:Value->Shared->Prop):Inv (X.wish E) pins σ H s:=⟨I.ok.wish E,I.os,I.bare,I.base,I.loc,I.cell,I.free,I.freeC,I.pin,I.hok,I.len⟩
theorem Inv.unwish (I:Inv (X.wish E) pins σ H s):Inv X pins σ H s:=⟨I.ok.unwish,I.os,I.bare,I.base,I.loc,I.cell,I.free,I.freeC,I.pin,I.hok,I.len⟩
theorem SP.unwish {D:cY}{f:Flow}{s':Shared}(h:SP (X.wish E) pins D f s'):SP X pins D f s':=by
 cases f with
 |next=>obtain⟨σ',H',I,q⟩:=h;exact⟨σ',H',I.unwish,q⟩
 |brk=>obtain⟨σ',H',I,q⟩:=h;exact⟨σ',H',I.unwish,q⟩
 |cont=>obtain⟨σ',H',I,q⟩:=h;exact⟨σ',H',I.unwish,q⟩
 |ret u=>obtain⟨v,σ',H',I,r,q⟩:=h;exact⟨v,σ',H',I.unwish,r,q⟩
theorem PSs.nox {st:List Stmt}{t:TS}(h:PSs X.nox st t):PSs X st t:=fun pins s σ H D I hw=>
 wpAny_mono (h pins s σ H D (I.wish _) hw) (fun _ _ q=>q.unwish) fun _ _ z=>False.elim z
end
section
variable {X:Cx}{st:Stmt}{rest:List Stmt}{t u:TS}{e:Expr}{te:TE}{pos:Pos}
noncomputable def A1z:TS:=fun D σ H=>D.nx σ H
noncomputable def wS (t u:TS):TS:=fun D σ H=>t {D with nx:=u D} σ H
theorem bU:PSs X [] A1z:=fun _ _ σ H _ I h=>wpAny_execs_nil ⟨σ,H,I,h⟩
theorem aN (h1:PS X st t)(h2:PSs X rest u):PSs X (st::rest) (wS t u):=by
 intro pins s σ H D I h;refine wpAny_execs_cons (thn (h1 pins s σ H {D with nx:=u D} I h) fun f s1 q=> ?_);cases f with
 |next=>
  obtain⟨σ',H',I',q⟩:=q;exact h2 pins s1 σ' H' D I' q
 |ret v=>exact q
 |brk=>exact q
 |cont=>exact q
theorem aQ (h1:PS X st t):PSs X [st] t:=by
 intro pins s σ H D I h;refine wpAny_execs_cons (thn (h1 pins s σ H D I h) fun f s1 q=> ?_);cases f with
 |next=>exact wpAny_execs_nil q
 |ret v=>exact q
 |brk=>exact q
 |cont=>exact q
theorem Inv.quiet {pins:List (Addr×Obj)}{σ:St}{H:Hp}{s:Shared}(I:Inv X pins σ H s):interactive X.env=false:=by simp [interactive,I.ok.kind]
noncomputable def A5g (te:TE):TS:=fun D σ H=>te σ H fun _ H1=>D.nx σ H1
theorem cF (he:PE X e te)(hs:swapsWith e none pos.line X.env=pure false:=by rfl):PS X (.Expr e pos) (A5g te):=by intro pins s σ H D I h;exact wpAny_Expr_any (thn (he pins s σ H _ I h) fun v s1 ⟨x,H1,I1,r1,q1⟩=> ⟨σ,H1,I1,q1⟩) I.quiet hs
noncomputable def rF (te:TE):TS:=fun D σ H=>te σ H D.rt
theorem bA (he:PE X e te):PS X (.Return (some e) pos) (rF te):=by intro pins s σ H D I h;exact wpAny_Return_some (thn (he pins s σ H _ I h) fun v s1 ⟨x,H1,I1,r1,q1⟩=> ⟨x,σ,H1,I1,r1,q1⟩)
noncomputable def A5b (c:TT)(t u:TS):TS:=fun D σ H=>c σ H fun b H1=>if b=true then t D σ H1 else u D σ H1
theorem bV {c:Expr}{a b:List Stmt}{tc:TT}(hc:PT X c tc)(ha:PSs X a t)(hb:PSs X b u):PS X (.If c a b pos) (A5b tc t u):=by
 intro pins s σ H D I h;refine wpAny_If (thn (hc pins s σ H _ I h) fun d s1 ⟨H1,I1,q1⟩=> ?_);cases d with
 |true=>exact ha pins s1 σ H1 D I1 q1
 |false=>exact hb pins s1 σ H1 D I1 q1
noncomputable def A5i:TS:=fun _ _ _=>False
theorem eY {sts:List Stmt}:PSs X sts A5i:=fun _ _ _ _ _ _ h=>h.elim
end
noncomputable abbrev TG:=V->St->Hp->(St->Hp->Prop)->Prop
noncomputable abbrev TGs:=List V->St->Hp->(St->Hp->Prop)->Prop
noncomputable def PG (X:Cx)(target:Expr)(t:TG):Prop:=
 ∀(pins:List (Addr×Obj))(s:Shared)(σ:St)(H:Hp)(v:V)(u:Value)(Q:St->Hp->Prop),Inv X pins σ H s->RelV v u->t v σ H Q->
  wpAny (model X.prog X.w) X.A (assign target X.env u) (fun _ s'=> ∃σ' H',Inv X pins σ' H' s'/\Q σ' H') X.xe s
noncomputable def PGs (X:Cx)(ts:List Expr)(t:TGs):Prop:=
 ∀(pins:List (Addr×Obj))(s:Shared)(σ:St)(H:Hp)(vs:List V)(us:List Value)(Q:St->Hp->Prop),Inv X pins σ H s->Vals vs us->t vs σ H Q->
  wpAny (model X.prog X.w) X.A (assignInOrder ((assignEach ts X.env).map (·.2)) us) (fun _ s'=> ∃σ' H',Inv X pins σ' H' s'/\Q σ' H') X.xe s
noncomputable abbrev rW:=V->V->V->Hp->(Hp->Prop)->Prop
noncomputable def A0n (X:Cx)(t:rW):Prop:=
 ∀(pins:List (Addr×Obj))(s:Shared)(σ:St)(H:Hp)(o i v:V)(ov iv u:Value)(Q:Hp->Prop),Inv X pins σ H s->RelV o ov->RelV i iv->RelV v u->t o i v H Q->
  wpAny (model X.prog X.w) X.A (setItem ov iv u) (fun _ s'=> ∃H',Inv X pins σ H' s'/\Q H') X.xe s
noncomputable abbrev TIp:=V->V->Hp->VK->Prop
noncomputable def PIp (X:Cx)(op:Operator)(t:TIp):Prop:=
 ∀(pins:List (Addr×Obj))(s:Shared)(σ:St)(H:Hp)(x y:V)(v u:Value)(Q:VK),Inv X pins σ H s->RelV x v->RelV y u->t x y H Q->
  wpAny (model X.prog X.w) X.A (inplaceOp op v u) (EP X pins σ Q) X.xe s
section
variable {X:Cx}{pos:Pos}
noncomputable def cO (i:Nat):TG:=fun v σ H Q=>Q (σ.set i (some v)) H
theorem aJ {i:Nat}{x:Str}(hN:X.N.Nodup)(hi:X.N[i]?=some x)(hx:Loc X.env.scope x)(hf:X.fn x=true\/X.env.scope.names.lookup x=some .local:=by first|exact .inl rfl|exact .inr rfl|assumption):PG X (.Name x pos) (cO i):=by intro pins s σ H v u Q I r h;exact wpAny_assign_Name (kK I hN hi hx r (fun s' I'=> ⟨_,H,I',h⟩) hf)
theorem nm1 (i:Nat)(hN:X.N.Nodup)(hi:X.N[i]?=some x:=by rfl)(hx:Loc X.env.scope x:=by exact .inl rfl)(hf:X.fn x=true\/X.env.scope.names.lookup x=some .local:=by first|exact .inl rfl|exact .inr rfl|assumption):PG X (.Name x pos) (cO i):=aJ hN hi hx hf
noncomputable def gT:TGs:=fun vs σ H Q=>vs=[]/\Q σ H
noncomputable def dU (t:TG)(u:TGs):TGs:=fun vs σ H Q=> ∃v r,vs=v::r/\t v σ H fun σ' H'=>u r σ' H' Q
theorem bM:PGs X [] gT:=by intro pins s σ H vs us Q I r h;obtain⟨e,h⟩:=h;subst e;cases r;exact assignInOrder_nil ⟨σ,H,I,h⟩
theorem aX {e:Expr}{es:List Expr}{t:TG}{u:TGs}(h1:PG X e t)(h2:PGs X es u)
  (hs:(assignEach (e::es) X.env).map (·.2)=assign e X.env::(assignEach es X.env).map (·.2):=by rfl):PGs X (e::es) (dU t u):=by
 intro pins s σ H vs us Q I r h;obtain⟨v,vr,e1,h⟩:=h;subst e1;cases r with
 |cons r rr=>
  rw [hs];refine assignInOrder_cons (thn (h1 pins s σ H _ _ _ I r h) fun _ s1 ⟨σ1,H1,I1,q1⟩=> ?_);exact h2 pins s1 σ1 H1 _ _ Q I1 rr q1
noncomputable def iA (K:W.Frag)(n:Nat)(t:TGs):TG:=fun v σ H Q=> ∃a xs,v= .ref a/\SqT K H a xs/\xs.length=n/\t xs σ H Q
theorem bN {es:List Expr}{k:Nat}{t:TGs}{n:Nat}(hc:X.calm=true)(h:PGs X es t)
  (hn:(assignEach es X.env).length=n:=by rfl)(hst:(assignEach es X.env).findIdx? (·.1)=none:=by rfl):PG X (.Tuple es k pos) (iA X.K n t):=by
 intro pins s σ H v u Q I r hw;obtain⟨a,xs,e1,hq,hl,hw⟩:=hw;subst e1;cases r;obtain⟨its,rv,ht,hz⟩:=I.tuple hq;refine assign_Tuple_tuple (I.ok.hd hc) ht (by simp [hn,←hl,rv.length]) hst fun h' hx=> ?_;have I1:Inv X pins σ H {s with heap:=h'}:=I.kept (t':=s.toks) fun b o e=>hx b o (ne_of_lt (zjT e)) e;exact h pins _ σ H xs _ Q I1 (by simpa using rv) hw
noncomputable def A1f (to ti:TE)(t:rW):TG:=fun v σ H Q=>to σ H fun o H1=>ti σ H1 fun i H2=>t o i v H2 fun H3=>Q σ H3
theorem pZ {o i:Expr}{to ti:TE}{t:rW}(ho:PE X o to)(hi:PE X i ti)(hs:A0n X t)
  (ha:∀v,assign (.Subscript o i pos) X.env v=(do
   let ov←holding [v] (eval o X.env);let iv←holding [v,ov] (eval i X.env)
   standAt pos
   holding [v,ov,iv] (setItem ov iv v)
   release [v,ov,iv] []):=by intro _;rfl):PG X (.Subscript o i pos) (A1f to ti t):=by
 intro pins s σ H v u Q I r h;rw [ha];refine zjZ (wpAny_holding (thn (ho pins s σ H _ I h) fun ov s1 ⟨x,H1,I1,r1,q1⟩=> ?_));refine zjZ (wpAny_holding (thn (hi pins s1 σ H1 _ I1 q1) fun iv s2 ⟨y,H2,I2,r2,q2⟩=> ?_));refine zjZ (wpAny_standAt (zjZ (wpAny_holding (thn (hs pins s2 σ H2 x y v ov iv u _ I2 r1 r2 r q2) fun _ s3 ⟨H3,I3,q3⟩=> ?_))));exact wpAny_release ⟨σ,H3,I3,q3⟩
noncomputable def kD (te:TE)(g:TG):TS:=fun D σ H=>te σ H fun x H1=>g x σ H1 D.nx
theorem dS {tg e:Expr}{te:TE}{g:TG}(he:PE X e te)(hg:PG X tg g)(hs:swapsWithSole [tg] e pos.line X.env=pure false:=by rfl)(hw:swappedStores [tg] e X.env=pure none:=by rfl)
  (h1:(assignEach [tg] X.env).map (·.2)=[assign tg X.env]:=by rfl):PS X (.Assign [tg] e pos) (kD te g):=by
 intro pins s σ H D I h;refine wpAny_Assign_stores (thn (he pins s σ H _ I h) fun v s1 ⟨x,H1,I1,r1,q1⟩=> ?_) hs hw;rw [h1];exact thn (hg pins s1 σ H1 x v _ I1 r1 q1) fun _ s2 q=>q
theorem bT {i:Nat}{x:Str}{e:Expr}{te:TE}{pos':Pos}(hN:X.N.Nodup)(hi:X.N[i]?=some x)(hx:Loc X.env.scope x)(he:PE X e te)(hs:swapsWith e (some (.Name x pos')) pos.line X.env=pure false:=by rfl)(hf:X.fn x=true\/X.env.scope.names.lookup x=some .local:=by first|exact .inl rfl|exact .inr rfl|assumption):
  PS X (.Assign [.Name x pos'] e pos) (kD te (cO i)):=by
 intro pins s σ H D I h;refine wpAny_Assign_Name (thn (he pins s σ H _ I h) fun v s1 ⟨y,H1,I1,r1,q1⟩=> ?_) hs;exact kK I1 hN hi hx r1 (fun s2 I2=> ⟨_,H1,I2,q1⟩) hf
noncomputable def B0a (i j:Nat)(ta:TA):TS:=fun D σ H=>ta σ H fun vs H1=> ∃v w,vs=[v,w]/\D.nx ((σ.set i (some v)).set j (some w)) H1
theorem gJ {i j:Nat}{x y:Str}{a b:Expr}{ta:TA}{px py pt:Pos}{kt k2 pt2}(hc:X.calm=true)(hN:X.N.Nodup)(hi:X.N[i]?=some x)(hj:X.N[j]?=some y)(hij:i≠j)
  (hx:X.env.scope.names.lookup x=some .local)(hy:X.env.scope.names.lookup y=some .local)(ha:PA X [a,b] ta)
  (hw:swappedStores [.Tuple [.Name x px,.Name y py] kt pt] (.Tuple [a,b] k2 pt2) X.env=pure (some [x,y]))
  (hs:swapsWithSole [.Tuple [.Name x px,.Name y py] kt pt] (.Tuple [a,b] k2 pt2) pos.line X.env=pure false:=by rfl):
  PS X (.Assign [.Tuple [.Name x px,.Name y py] kt pt] (.Tuple [a,b] k2 pt2) pos) (B0a i j ta):=by
 intro pins s σ H D I h;rw [exec_Assign_arm];refine zjZ (wpAny_standAt ?_);rw [hs];refine zjZ (zjY ?_);rw [if_neg (by decide)];refine zjZ (Tuple_ (thn (ha _ pins s σ H _ I h) fun us s1 ⟨vs,H1,I1,r1,q1⟩=> ?_));obtain⟨v,w,e1,q1⟩:=q1;subst e1;obtain⟨u1,u2,rfl,rv,rw'⟩:∃u1 u2,us=[u1,u2]/\RelV v u1/\RelV w u2:=by
  cases r1 with
  |cons p q=>
   cases q with
   |cons p' q'=>
    cases q';exact⟨_,_,rfl,p,p'⟩
 refine wpAny_newObj_type ?_ (by show 2<=sizeLine;decide);have I2:Inv X pins σ H1 {s1 with heap:=s1.heap.push {cls:=.type "tuple",data:=.seq [u1,u2].toArray}}:=I1.kept (t':=s1.toks) fun b o e=>zjX _ e;rw [hw];refine zjZ (zjY ?_)
 show wpAny (model X.prog X.w) X.A (do rule "assign.swapped-stores";let items←unpackItems (.ref s1.heap.objs.size) 2 none;assignInOrder [fun v=>bindName X.env y v,fun v=>bindName X.env x v] items.reverse;pure Flow.next) _ _ _;refine zjZ (wpAny_rule (zjZ (unpackItems_tuple (items:=#[u1,u2]) (I.ok.hd hc) (IsTup.new s1.heap _) fun h' hx'=> ?_)));have I3:=I2.kept (h':=h') (t':=s1.toks) fun b o e=>hx' b o (ne_of_lt (zjT e)) e;show wpAny _ _ (assignInOrder [fun v=>bindName X.env y v,fun v=>bindName X.env x v] [u2,u1]>>=fun _=>pure Flow.next) _ _ _;refine zjZ (assignInOrder_cons (wpAny_bindName (kK I3 hN hj (.inl hy) rw' (fun s2 I4=> ?_) (.inr hy))));refine assignInOrder_cons (wpAny_bindName (kK I4 hN hi (.inl hx) rv (fun s3 I5=>assignInOrder_nil (zjY ?_)) (.inr hx)));rw [List.set_comm _ _ (Ne.symm hij)]at I5;exact⟨_,H1,I5,q1⟩
noncomputable def B08 (i:Nat)(te:TE)(ti:TIp):TS:=fun D σ H=> ∃x,σ[i]?=some (some x)/\te σ H fun y H1=>ti x y H1 fun z H2=>D.nx (σ.set i (some z)) H2
theorem A66 {i:Nat}{x:Str}{e:Expr}{te:TE}{op:Operator}{ti:TIp}{pos':Pos}(hN:X.N.Nodup)(hi:X.N[i]?=some x)(hx:Loc X.env.scope x)(he:PE X e te)(ho:PIp X op ti)(hf:X.fn x=true\/X.env.scope.names.lookup x=some .local:=by first|exact .inl rfl|exact .inr rfl|assumption):
  PS X (.AugAssign (.Name x pos') op e pos) (B08 i te ti):=by
 intro pins s σ H D I h;obtain⟨v,e1,h⟩:=h;obtain⟨m,hn,hl⟩:=I.loc;have vis:Vis X.env.scope x:=by rcases hx with k|k;exact .inl k;exact .inr (.inl k)
 obtain⟨u,r,l⟩:=hl i x v hi e1 vis;refine wpAny_AugAssign_Name ?_;have go:wpAny (model X.prog X.w) X.A (eval e X.env) (fun w s₂=>wpAny (model X.prog X.w) X.A (inplaceOp op u w) (fun r s₃=>wpAny (model X.prog X.w) X.A (storeName X.env x r) (fun _=>SP X pins D .next) X.xe s₃) X.xe s₂) X.xe s:=by
  refine thn (he pins s σ H _ I h) fun w s1 ⟨y,H1,I1,r1,q1⟩=> ?_;refine thn (ho pins s1 σ H1 v y u w _ I1 r r1 q1) fun z s2 ⟨zv,H2,I2,r2,q2⟩=> ?_;exact kK I2 hN hi hx r2 (fun s3 I3=> ⟨_,H2,I3,q2⟩) hf
 rcases l with⟨hk,hm⟩| ⟨hk,c,hc,hcell⟩
 ·exact wpAny_loadName_local I.ok.kind hk hn hm go
 ·rcases hk with hk|hk
  ·exact wpAny_loadName_cell I.ok.kind hk hc hcell go
  ·rcases hx with k|k
   ·have:X.env.scope.names.lookup x=some .free:=hk;rw [k]at this;cases this
   ·have:X.env.scope.names.lookup x=some .free:=hk;rw [k]at this;cases this
noncomputable def ipI (f:Int->Int->Int):TIp:=fun x y H Q=> ∃i j,x= .int i/\y= .int j/\Q (.int (f i j)) H
theorem A85:PIp X .Add (ipI fun i j=>i+j):=by intro pins s σ H x y v u Q I r1 r2 h;obtain⟨i,j,e1,e2,q⟩:=h;subst e1;subst e2;obtain⟨t,rfl⟩:=r1;obtain⟨t',rfl⟩:=r2;exact iadd_int ⟨.int _,H,I.tok _,⟨_,rfl⟩,q⟩
end
section
variable {X:Cx}{pos:Pos}
noncomputable def yH (c:TT)(tb:TS):TS:=fun D σ H=> ∃W:Nat->St->Hp->Prop,(∃m,W m σ H)/\∀m σ H,W m σ H->
 c σ H fun b H1=>if b=true then∃N:St->Hp->Prop,(∀σ' H',N σ' H'->∃m',m'<m/\W m' σ' H')/\tb {D with nx:=N,ct:=N,bk:=D.nx} σ H1 else D.nx σ H1
theorem kF {c:Expr}{body:List Stmt}{tc:TT}{tb:TS}(hp:PassesOwn (model X.prog X.w) X.A X.env X.xe)(hc:PT X c tc)(hb:PSs X body tb):PS X (.While c body [] pos) (yH tc tb):=by
 intro pins s σ H D I h;obtain⟨W,⟨m0,w0⟩,turn⟩:=h;refine wpAny_While (codeAny_whileLoop (fun n s'=> ∃σ' H',Inv X pins σ' H' s'/\W n σ' H') ?_ m0 ⟨σ,H,I,w0⟩);rintro n s1 ⟨σ1,H1,I1,w1⟩;refine wpAny_passesOwn hp (thn (hc pins s1 σ1 H1 _ I1 (turn n σ1 H1 w1)) fun b s2 ⟨H2,I2,q2⟩=> ?_);cases b with
 |true=>
  obtain⟨N,hN,q2⟩:=q2;rw [if_pos rfl];refine wpAny_passesOwn hp (thn (hb pins s2 σ1 H2 _ I2 q2) fun f s3 q3=> ?_);cases f with
  |next=>
   obtain⟨σ3,H3,I3,n3⟩:=q3;obtain⟨m',hm,w3⟩:=hN σ3 H3 n3;exact⟨m',hm,σ3,H3,I3,w3⟩
  |cont=>
   obtain⟨σ3,H3,I3,n3⟩:=q3;obtain⟨m',hm,w3⟩:=hN σ3 H3 n3;exact⟨m',hm,σ3,H3,I3,w3⟩
  |brk=>exact q3
  |ret v=>exact q3
 |false=>
  rw [if_neg Bool.false_ne_true];exact wpAny_execs_nil ⟨σ1,H2,I2,q2⟩
end
structure It where
 go:Nat->Hp->Prop
 yld:Nat->Hp->V->Hp->Prop
 stop:Nat->Hp->Prop
noncomputable def fM (X:Cx)(pins:List (Addr×Obj))(H:Hp)(b:Addr):Prop:=
 H b=none/\b≠X.env.locals/\b∉X.fs/\(b∈X.ex\/X.s₀.heap.objs.size<=b)/\(∀x c,X.env.cells.lookup x=some c->c≠b)/\∀p∈X.pn++pins,p.1≠b
theorem Inv.fpOk {X:Cx}{pins:List (Addr×Obj)}{σ:St}{H H':Hp}{s:Shared}{b:Addr}(I:Inv X pins σ H s)(hb:s.heap.objs.size<=b)(hn:H' b=none):fM X pins H' b:=by
 refine⟨hn,ne_of_gt (lt_of_lt_of_le I.lt hb),I.nofs hb,.inr (le_trans I.sz hb),fun x c e z=> ?_,fun p hp z=> ?_⟩
 ·obtain⟨v,q⟩:=I.cell x c e;exact absurd (lt_of_lt_of_le q.lt (by rw [z];exact hb)) (lt_irrefl _)
 ·exact absurd (lt_of_lt_of_le (zjT (I.pin p hp).1) (by rw [z];exact hb)) (lt_irrefl _)
structure iB (P:Program)(w:World)(K:W.Frag)(tg:Expr)(J:It)(fp:List Addr)(it:Addr)(tn:Nat->Heap->Prop):Prop where
 mem:it∈fp
 obj:∀i h,tn i h->∀b∈fp,∃o,h.get? b=some o/\∀v,o.data≠ .cell v
 keep:∀i h h',tn i h->(∀b∈fp,∀o,h.get? b=some o->h'.get? b=some o)->tn i h'
 item:∀(X:Cx),X.prog=P->X.w=w->X.K=K->X.calm=true->∀(i:Nat)(pins:List (Addr×Obj))(s:Shared)(σ:St)(H:Hp)(E:Value->Shared->Prop),Inv X pins σ H s->(∀b∈fp,fM X pins H b)->tn i s.heap->J.go i H->
  wpAny (model P w) X.A (pyNext (.ref it)) (fun r s1=> ∃u,r=some u/\
   wpAny (model P w) X.A (letOwnedTupleGo tg (.ref it) u) (fun _ s2=> ∃x H',Inv X pins σ H' s2/\RelV x u/\J.yld i H x H'/\tn (i+1) s2.heap/\∀b∈fp,H' b=none) E s1) E s
 done:∀(X:Cx),X.prog=P->X.w=w->X.K=K->X.calm=true->∀(i:Nat)(pins:List (Addr×Obj))(s:Shared)(σ:St)(H:Hp)(E:Value->Shared->Prop),Inv X pins σ H s->(∀b∈fp,fM X pins H b)->tn i s.heap->J.stop i H->
  wpAny (model P w) X.A (pyNext (.ref it)) (fun r s1=>r=none/\Inv X pins σ H s1) E s
 self:∀(A:Around)(i:Nat)(s:Shared)(Q:Value->Shared->Prop)(E:Value->Shared->Prop),tn i s.heap->Q (.ref it) s->wpAny (model P w) A (pyIter (.ref it)) Q E s
noncomputable abbrev TI:=St->Hp->(It->Hp->Prop)->Prop
noncomputable def PIE (X:Cx)(pins:List (Addr×Obj))(σ:St)(tg:Expr)(R:It->Hp->Prop)(itv:Value)(s2:Shared):Prop:=
 ∃(it:Addr)(fp:List Addr)(tn:Nat->Heap->Prop)(J:It)(H':Hp),itv= .ref it/\Inv X pins σ H' s2/\iB X.prog X.w X.K tg J fp it tn/\tn 0 s2.heap/\(∀b∈fp,fM X pins H' b)/\R J H'
noncomputable def PI (X:Cx)(tg iter:Expr)(wi:TI):Prop:=
 ∀(pins:List (Addr×Obj))(s:Shared)(σ:St)(H:Hp)(R:It->Hp->Prop),Inv X pins σ H s->wi σ H R->
  wpAny (model X.prog X.w) X.A (eval iter X.env) (fun v s1=>wpAny (model X.prog X.w) X.A (pyIter v) (PIE X pins σ tg R) X.xe s1) X.xe s
theorem oF {M:Model}{A:Around}{E:Value->Shared->Prop}{s:Shared}{tg:Expr}{it:Addr}{u:Value}{o:Obj}{n:String}{vs:Array Value}{Q:Unit->Shared->Prop}(ho:s.heap.get? it=some o)(hc:o.cls= .type n)(hd:o.data= .fields vs)
    (hn:["enumerate","zip","dict_itemiterator","dict_reverseitemiterator","odict_iterator","itertools.zip_longest","itertools.pairwise"].contains n=false)(hQ:Q () s):wpAny M A (letOwnedTupleGo tg (.ref it) u) Q E s:=by
  unfold letOwnedTupleGo;cases tg<;>first
    |exact zjY hQ
    | (cases u<;>first
        |exact zjY hQ
        | (refine zjZ (wpAny_load ho ?_)
           rw [hc,hd];show wpAny M A (if (["enumerate","zip","dict_itemiterator","dict_reverseitemiterator","odict_iterator","itertools.zip_longest","itertools.pairwise"].contains n&&vs[0]?==some (rawInt _))=true then _ else _) Q E s;rw [if_neg (by intro h;rw [hn,Bool.false_and]at h;cases h)];exact zjY hQ))
noncomputable def Itl (K:W.Frag)(a:Addr):It:=
 ⟨fun i H=> ∃xs x,SqL K H a xs/\xs[i]?=some x,fun i H x H'=>H'=H/\∀xs,SqL K H a xs->xs[i]?=some x,fun i H=> ∃xs,SqL K H a xs/\xs.length<=i⟩
noncomputable def Itt (K:W.Frag)(a:Addr):It:=
 ⟨fun i H=> ∃xs x,SqT K H a xs/\xs[i]?=some x,fun i H x H'=>H'=H/\∀xs,SqT K H a xs->xs[i]?=some x,fun i H=> ∃xs,SqT K H a xs/\xs.length<=i⟩
noncomputable def Itr (lo:Int)(n:Nat):It:=⟨fun i _=>i<n,fun i H x H'=>H'=H/\x= .int (lo+i),fun i _=>n<=i⟩
theorem A5a {P:Program}{w:World}{K:W.Frag}{tg:Expr}(a it:Addr):iB P w K tg (Itl K a) [it] it (fun i h=>h.IsListIter it a i)where
 mem:=by simp
 obj:=fun i h st b hb=>by
  have e:b=it:=by simpa using hb
  subst e;obtain⟨o,e,c,d⟩:=st;exact⟨o,e,fun v z=>by rw [d]at z;cases z⟩
 keep:=fun i h h' st k=>st.at fun o e=>k it (by simp) o e
 item:=by
  intro X hP hw hK hc i pins s σ H E I hf st hg;subst hP hw hK;obtain⟨xs,x,hq,hx⟩:=hg;obtain⟨its,rv,p,hz⟩:=I.list hq;obtain⟨u,hu,ru⟩:=rv.get hx;obtain⟨f0,f1,f2,f3,f4,f5⟩:=hf it (by simp);refine wpAny_pyNext_list_item st p.isList (x:=u) (by simpa using hu) fun h' st' sb=> ?_;have I1:Inv X pins σ H {s with heap:=h'}:=I.turned (t':=s.toks) (fun b o hb e=>(sb.2 b hb).trans e) f0 f1 f3 f4 f5;obtain⟨o,e,c,d⟩:=id st';exact⟨u,rfl,oF (s:={s with heap:=h'}) e c d (by decide) ⟨x,H,I1,ru,⟨rfl,fun ys hy=>by rw [I.list_inj hy hq];exact hx⟩,st',fun b hb=>(hf b hb).1⟩⟩
 done:=by
  intro X hP hw hK hc i pins s σ H E I hf st hg;subst hP hw hK;obtain⟨xs,hq,hx⟩:=hg;obtain⟨its,rv,p,hz⟩:=I.list hq;obtain⟨f0,f1,f2,f3,f4,f5⟩:=hf it (by simp);have hl:=rv.length;exact wpAny_pyNext_list_end (I.ok.hd hc) st p.isList (by simp;omega) fun h' eb=> ⟨rfl,I.turned (t':=s.toks) (fun b o hb e=>eb b o hb e) f0 f1 f3 f4 f5⟩
 self:=fun _ _ _ _ _ st h=>wpAny_pyIter_listiter st h
theorem A2a {P:Program}{w:World}{K:W.Frag}{tg:Expr}(a it:Addr):iB P w K tg (Itt K a) [it] it (fun i h=>h.IsTupleIter it a i)where
 mem:=by simp
 obj:=fun i h st b hb=>by
  have e:b=it:=by simpa using hb
  subst e;obtain⟨o,e,c,d⟩:=st;exact⟨o,e,fun v z=>by rw [d]at z;cases z⟩
 keep:=fun i h h' st k=>st.at fun o e=>k it (by simp) o e
 item:=by
  intro X hP hw hK hc i pins s σ H E I hf st hg;subst hP hw hK;obtain⟨xs,x,hq,hx⟩:=hg;obtain⟨its,rv,p,hz⟩:=I.tuple hq;obtain⟨u,hu,ru⟩:=rv.get hx;obtain⟨f0,f1,f2,f3,f4,f5⟩:=hf it (by simp);refine wpAny_pyNext_tuple_item st (show s.heap.IsTuple a its.toArray from p) (x:=u) (by simpa using hu) fun h' st' sb=> ?_;have I1:Inv X pins σ H {s with heap:=h'}:=I.turned (t':=s.toks) (fun b o hb e=>(sb.2 b hb).trans e) f0 f1 f3 f4 f5;obtain⟨o,e,c,d⟩:=id st';exact⟨u,rfl,oF (s:={s with heap:=h'}) e c d (by decide) ⟨x,H,I1,ru,⟨rfl,fun ys hy=>by rw [I.tuple_inj hy hq];exact hx⟩,st',fun b hb=>(hf b hb).1⟩⟩
 done:=by
  intro X hP hw hK hc i pins s σ H E I hf st hg;subst hP hw hK;obtain⟨xs,hq,hx⟩:=hg;obtain⟨its,rv,p,hz⟩:=I.tuple hq;obtain⟨f0,f1,f2,f3,f4,f5⟩:=hf it (by simp);have hl:=rv.length;exact wpAny_pyNext_tuple_end (I.ok.hd hc) st (show s.heap.IsTuple a its.toArray from p) (by simp;omega) fun h' eb=> ⟨rfl,I.turned (t':=s.toks) (fun b o hb e=>eb b o hb e) f0 f1 f3 f4 f5⟩
 self:=fun _ _ _ _ _ st h=>wpAny_pyIter_tupleiter st h
theorem A2k {P:Program}{w:World}{K:PySem.W.Frag}{tg:Expr}(it:Addr)(lo:Int)(n:Nat):iB P w K tg (Itr lo n) [it] it (fun i h=>IsRangeIter h it (lo+(i:Nat)*1) ((n:Int) -(i:Nat)) 1)where
 mem:=by simp
 obj:=fun i h st b hb=>by
  have e:b=it:=by simpa using hb
  subst e;exact⟨_,st,fun v z=>by
   have z':Data.fields _=Data.cell v:=z;cases z'⟩
 keep:=fun i h h' st k=>k it (by simp) _ st
 item:=by
  intro X hP hw hK hc i pins s σ H E I hf st hg;subst hP hw hK;obtain⟨f0,f1,f2,f3,f4,f5⟩:=hf it (by simp);have W:=Walks.range (prog:=X.prog) (w:=X.w) (I.ok.hd hc) it lo 1 n;refine W.item i s _ _ hg st fun v h' tk hv st' kk=> ?_;obtain⟨t,rfl⟩:=hv;have I1:Inv X pins σ H {s with heap:=h',toks:=tk}:=I.turned (fun b o hb e=>kk b o (by simpa using hb) e) f0 f1 f3 f4 f5;refine⟨_,rfl,oF (s:={s with heap:=h',toks:=tk}) (n:="range_iterator") st' rfl rfl (by decide) ⟨.int (lo+i),H,I1,⟨t,?_⟩,⟨rfl,rfl⟩,st',fun b hb=>(hf b hb).1⟩⟩;rw [Int.mul_one]
 done:=by
  intro X hP hw hK hc i pins s σ H E I hf st hg;subst hP hw hK;obtain⟨f0,f1,f2,f3,f4,f5⟩:=hf it (by simp);exact wpAny_pyNext_range_end (I.ok.hd hc) st (by have:n<=i:=hg;omega) fun h' eb=> ⟨rfl,I.turned (t':=s.toks) (fun b o hb e=>eb b o hb e) f0 f1 f3 f4 f5⟩
 self:=fun _ _ _ _ _ st h=>wpAny_pyIter_rangeiter st h
section
variable {X:Cx}{tg:Expr}
noncomputable def B1s (K:W.Frag)(tl:TE):TI:=fun σ H R=>tl σ H fun x H1=> ∃a,x= .ref a/\(∃xs,SqL K H1 a xs)/\R (Itl K a) H1
noncomputable def A3c (K:W.Frag)(tl:TE):TI:=fun σ H R=>tl σ H fun x H1=> ∃a,x= .ref a/\(∃xs,SqT K H1 a xs)/\R (Itt K a) H1
theorem cU {l:Expr}{tl:TE}(hl:PE X l tl):PI X tg l (B1s X.K tl):=by
 intro pins s σ H R I h;refine thn (hl pins s σ H _ I h) fun v s1 ⟨x,H1,I1,r1,q1⟩=> ?_;obtain⟨a,e,⟨xs,hq⟩,q⟩:=q1;subst e;cases r1;obtain⟨its,rv,p,hz⟩:=I1.list hq;refine wpAny_pyIter_list p.isList ?_;refine⟨s1.heap.objs.size,[s1.heap.objs.size],_,_,H1,rfl,I1.kept (t':=s1.toks) fun b o e=>zjX _ e,A5a a _,⟨_,get?_push_size _ rfl,rfl,rfl⟩,fun b hb=> ?_,q⟩;have e:b=s1.heap.objs.size:=by simpa using hb
 subst e;exact I1.fpOk (zjQ _) (I1.hok.fresh (zjQ _))
theorem cQ {l:Expr}{tl:TE}(hl:PE X l tl):PI X tg l (A3c X.K tl):=by
 intro pins s σ H R I h;refine thn (hl pins s σ H _ I h) fun v s1 ⟨x,H1,I1,r1,q1⟩=> ?_;obtain⟨a,e,⟨xs,hq⟩,q⟩:=q1;subst e;cases r1;obtain⟨its,rv,p,hz⟩:=I1.tuple hq;refine wpAny_pyIter_tuple (show s1.heap.IsTuple a its.toArray from p) ?_;refine⟨s1.heap.objs.size,[s1.heap.objs.size],_,_,H1,rfl,I1.kept (t':=s1.toks) fun b o e=>zjX _ e,A2a a _,⟨_,get?_push_size _ rfl,rfl,rfl⟩,fun b hb=> ?_,q⟩;have e:b=s1.heap.objs.size:=by simpa using hb
 subst e;exact I1.fpOk (zjQ _) (I1.hok.fresh (zjQ _))
theorem A4x {pins:List (Addr×Obj)}{σ:St}{H:Hp}{s:Shared}{R:It->Hp->Prop}{E:Value->Shared->Prop}{lo hi:Int}{t u v:Tok}{tk:Nat}(I:Inv X pins σ H s)(h1:-(2^62)<=lo)(h2:lo<2^62)(h3:-(2^62)<=hi)(h4:hi<2^62)
  (q:R (Itr lo (hi - lo).toNat) H):wpAny (model X.prog X.w) X.A (pyIter (.ref s.heap.objs.size)) (PIE X pins σ tg R) E {s with heap:=s.heap.push {cls:=.type "range",data:=.fields #[.int lo t,.int hi u,.int 1 v]},toks:=tk}:=by
 refine wpAny_pyIter_range (IsRange.new ..) (small_one h1 h2 h3 h4) ?_;have I1:Inv X pins σ H {s with heap:=s.heap.push {cls:=.type "range",data:=.fields #[.int lo t,.int hi u,.int 1 v]},toks:=tk}:=I.kept fun b o e=>zjX _ e;refine⟨(s.heap.push {cls:=.type "range",data:=.fields #[.int lo t,.int hi u,.int 1 v]}).objs.size,[(s.heap.push {cls:=.type "range",data:=.fields #[.int lo t,.int hi u,.int 1 v]}).objs.size],_,_,H,rfl,
  I1.kept (t':=tk) fun b o e=>zjX _ e,A2k _ lo (hi - lo).toNat,?_,fun b hb=> ?_,q⟩
 ·have e1:lo+((0:Nat):Int)*1=lo:=by simp
  have e2:(((hi - lo).toNat:Nat):Int) -((0:Nat):Int)=Builtin.Range.rangeSize lo hi 1:=by rw [rangeSize_one];split<;>omega
  show IsRangeIter _ _ (lo+((0:Nat):Int)*1) ((((hi - lo).toNat:Nat):Int) -((0:Nat):Int)) 1;rw [e1,e2];exact get?_push_size _ rfl
 ·have e:b=(s.heap.push {cls:=.type "range",data:=.fields #[.int lo t,.int hi u,.int 1 v]}).objs.size:=by simpa using hb
  subst e;exact I1.fpOk (zjQ _) (I1.hok.fresh (zjQ _))
noncomputable def A1e (ta:TA):TI:=fun σ H R=>ta σ H fun vs H1=> ∃j:Int,vs=[.int j]/\-(2^62)<=j/\j<2^62/\R (Itr 0 j.toNat) H1
theorem lL {a:Expr}{ta:TA}{p pos:Pos}(hg:Gl X "range")(hm:X.mg "range" =none)(ha:PA X [a] ta)(hs:starEach [a] X.env=[(false,eval a X.env)]:=by rfl):PI X tg (.Call (.Name "range" p) [a] [] pos) (A1e ta):=by
 intro pins s σ H R I h;refine Call_ (gL I hg hm boot_range (PyProof.Rows.callWith_type1 (thn (ha pos pins s σ H _ I h) fun us s1 ⟨vs,H1,I1,r1,q1⟩=> ?_) hs rfl));obtain⟨j,e,q1,q2,q⟩:=q1;subst e;cases r1 with
 |cons r rr=>
  cases rr;obtain⟨t,rfl⟩:=r;exact call_range_1 (A4x I1 (by omega) (by omega) q1 q2 (by simpa using q))
noncomputable def B1g (wi:TI)(g:TG)(tb:TS):TS:=fun D σ H=>wi σ H fun J H1=> ∃W:Nat->Nat->St->Hp->Prop,(∃m,W 0 m σ H1)/\∀i m σ H,W i m σ H->
 (J.stop i H/\D.nx σ H)\/(J.go i H/\∃N:St->Hp->Prop,(∀σ' H',N σ' H'->∃m',m'<m/\W (i+1) m' σ' H')/\∀x H',J.yld i H x H'->g x σ H' fun σ2 H2=>tb {D with nx:=N,ct:=N,bk:=D.nx} σ2 H2)
noncomputable def kU (fp:List Addr)(h:Heap):List (Addr×Obj):=fp.filterMap fun b=>(h.get? b).map fun o=>(b,o)
theorem lU {fp:List Addr}{h:Heap}{b:Addr}{o:Obj}(hb:b∈fp)(e:h.get? b=some o):(b,o)∈kU fp h:=mem_filterMap.mpr ⟨b,hb,by rw [e];rfl⟩
theorem A1g {fp:List Addr}{h:Heap}{p:Addr×Obj}(hp:p∈kU fp h):p.1∈fp/\h.get? p.1=some p.2:=by
 obtain⟨b,hb,e⟩:=mem_filterMap.mp hp;cases q:h.get? b with
 |none=>rw [q]at e;cases e
 |some o=>
  rw [q]at e;have e':(b,o)=p:=Option.some.inj e;subst e';exact⟨hb,q⟩
theorem Inv.pinned {pins:List (Addr×Obj)}{σ:St}{H:Hp}{s:Shared}{fp:List Addr}(I:Inv X pins σ H s)(hf:∀b∈fp,fM X pins H b)(ho:∀b∈fp,∃o,s.heap.get? b=some o/\∀v,o.data≠ .cell v):Inv X (pins++kU fp s.heap) σ H s:=
 I.pins_of fun p hp=>(mem_append.mp hp).elim (fun z=>I.pin p (mem_append_right _ z)) fun z=>by
  obtain⟨hb,e⟩:=A1g z;obtain⟨f0,f1,f2,_⟩:=hf p.1 hb;obtain⟨o,e',d⟩:=ho p.1 hb;rw [e]at e';cases e';exact⟨e,f0,f1,f2,d⟩
theorem Inv.unpinned {pins pl:List (Addr×Obj)}{σ:St}{H:Hp}{s:Shared}(I:Inv X (pins++pl) σ H s):Inv X pins σ H s:=I.pins_of fun p hp=>I.pin p (mem_append_right _ (mem_append_left _ hp))
theorem fF {iter:Expr}{body:List Stmt}{wi:TI}{g:TG}{tb:TS}{pos:Pos}(hp:PassesOwn (model X.prog X.w) X.A X.env X.xe)(hc:X.calm=true)(hi:PI X tg iter wi)(hg:PG X tg g)(hb:PSs X body tb)
  (hs:∀x,foldedSetIterable iter X.env x=pure x:=by intro _;rfl):PS X (.For tg iter body [] pos) (B1g wi g tb):=by
 intro pins s σ H D I h;refine wpAny_For (thn (hi pins s σ H _ I h) fun v s1 h1=>thn h1 fun itv s2 h2=> ?_) hs;obtain⟨it,fp,tn,J,H2,e,I2,T,st2,f2,W,⟨m0,w0⟩,turn⟩:=h2;subst e;have stat:∀{H':Hp},(∀b∈fp,H' b=none)->∀b∈fp,fM X pins H' b:=fun hn b hb=> ⟨hn b hb,(f2 b hb).2⟩;refine codeAny_forLoop_any (fun n s'=> ∃i σ' H',Inv X pins σ' H' s'/\tn i s'.heap/\(∀b∈fp,H' b=none)/\W i n σ' H') ?_ m0 ⟨0,σ,H2,I2,st2,fun b hb=>(f2 b hb).1,w0⟩;rintro n s3 ⟨i,σ3,H3,I3,st3,fr3,w3⟩;rcases turn i n σ3 H3 w3 with⟨stop,qn⟩| ⟨go,N,hN,step⟩
 ·refine wpAny_passesOwn hp (thn (T.done X rfl rfl rfl hc i pins s3 σ3 H3 X.xe I3 (stat fr3) st3 stop) fun r s4 ⟨hr,I4⟩=> ?_);subst hr;exact wpAny_execs_nil ⟨σ3,H3,I4,qn⟩
 ·refine wpAny_passesOwn hp (thn (T.item X rfl rfl rfl hc i pins s3 σ3 H3 X.xe I3 (stat fr3) st3 go) fun r s4 ⟨u,hr,h4⟩=> ?_);subst hr;refine wpAny_passesOwn hp (thn h4 fun _ s5 ⟨x,H5,I5,r5,y5,st5,fr5⟩=> ?_);have I5':=I5.pinned (stat fr5) (T.obj _ _ st5);refine wpAny_passesOwn hp (thn (hg _ s5 σ3 H5 x u _ I5' r5 (step x H5 y5)) fun _ s6 ⟨σ6,H6,I6,q6⟩=> ?_);refine wpAny_passesOwn hp (thn (hb _ s6 σ6 H6 _ I6 q6) fun f s7 q7=> ?_);have again:∀{σ7:St}{H7:Hp},Inv X (pins++kU fp s5.heap) σ7 H7 s7->N σ7 H7->∃m,m<n/\∃i σ' H',Inv X pins σ' H' s7/\tn i s7.heap/\(∀b∈fp,H' b=none)/\W i m σ' H':=fun{σ7 H7} I7 n7=>by
   obtain⟨m',hm,w7⟩:=hN σ7 H7 n7;refine⟨m',hm,i+1,σ7,H7,I7.unpinned,T.keep _ _ _ st5 fun b hb o e=>(I7.pin (b,o) (mem_append_right _ (mem_append_right _ (lU hb e)))).1,fun b hb=> ?_,w7⟩;obtain⟨o,e,d⟩:=T.obj _ _ st5 b hb;exact(I7.pin (b,o) (mem_append_right _ (mem_append_right _ (lU hb e)))).2.1
  cases f with
  |next=>obtain⟨σ7,H7,I7,n7⟩:=q7;exact again I7 n7
  |cont=>obtain⟨σ7,H7,I7,n7⟩:=q7;exact again I7 n7
  |brk=>obtain⟨σ7,H7,I7,q7⟩:=q7;exact⟨σ7,H7,I7.unpinned,q7⟩
  |ret v=>obtain⟨x7,σ7,H7,I7,r7,q7⟩:=q7;exact⟨x7,σ7,H7,I7.unpinned,r7,q7⟩
end
theorem dQ {K:PySem.W.Frag}{a:Addr}{xs:List V}{g:TG}{tb:TS}{D:cY}{σ:St}{H:Hp}(Pv:Nat->St->Hp->Prop)(h0:Pv 0 σ H)(hl:∀i σ H,i<=xs.length->Pv i σ H->SqL K H a xs)
  (hs:∀i x σ H,xs[i]?=some x->Pv i σ H->g x σ H fun σ2 H2=>tb {D with nx:=Pv (i+1),ct:=Pv (i+1),bk:=D.nx} σ2 H2)(hd:∀σ H,Pv xs.length σ H->D.nx σ H):
  ∃W:Nat->Nat->St->Hp->Prop,(∃m,W 0 m σ H)/\∀i m σ H,W i m σ H->
   ((Itl K a).stop i H/\D.nx σ H)\/((Itl K a).go i H/\∃N:St->Hp->Prop,(∀σ' H',N σ' H'->∃m',m'<m/\W (i+1) m' σ' H')/\∀x H',(Itl K a).yld i H x H'->g x σ H' fun σ2 H2=>tb {D with nx:=N,ct:=N,bk:=D.nx} σ2 H2):=by
 refine⟨fun i m σ H=>m=xs.length - i/\i<=xs.length/\Pv i σ H,⟨xs.length,by simp,zero_le _,h0⟩,?_⟩;rintro i m σ H ⟨rfl,hi,p⟩;have q:=hl i σ H hi p;by_cases hlt:i<xs.length
 ·refine .inr ⟨⟨xs,xs[i],q,by simp [hlt]⟩,Pv (i+1),fun σ' H' p'=> ⟨xs.length -(i+1),by omega,rfl,hlt,p'⟩,fun x H' y=> ?_⟩;obtain⟨e,y⟩:=y;subst e;exact hs i x σ _ (y xs q) p
 ·have e:i=xs.length:=by omega
  subst e;exact .inl ⟨⟨xs,q,zjQ _⟩,hd σ H p⟩
theorem gM {K:PySem.W.Frag}{a:Addr}{xs:List V}{g:TG}{tb:TS}{D:cY}{σ:St}{H:Hp}(Pv:Nat->St->Hp->Prop)(h0:Pv 0 σ H)(hl:∀i σ H,i<=xs.length->Pv i σ H->SqT K H a xs)
  (hs:∀i x σ H,xs[i]?=some x->Pv i σ H->g x σ H fun σ2 H2=>tb {D with nx:=Pv (i+1),ct:=Pv (i+1),bk:=D.nx} σ2 H2)(hd:∀σ H,Pv xs.length σ H->D.nx σ H):
  ∃W:Nat->Nat->St->Hp->Prop,(∃m,W 0 m σ H)/\∀i m σ H,W i m σ H->
   ((Itt K a).stop i H/\D.nx σ H)\/((Itt K a).go i H/\∃N:St->Hp->Prop,(∀σ' H',N σ' H'->∃m',m'<m/\W (i+1) m' σ' H')/\∀x H',(Itt K a).yld i H x H'->g x σ H' fun σ2 H2=>tb {D with nx:=N,ct:=N,bk:=D.nx} σ2 H2):=by
 refine⟨fun i m σ H=>m=xs.length - i/\i<=xs.length/\Pv i σ H,⟨xs.length,by simp,zero_le _,h0⟩,?_⟩;rintro i m σ H ⟨rfl,hi,p⟩;have q:=hl i σ H hi p;by_cases hlt:i<xs.length
 ·refine .inr ⟨⟨xs,xs[i],q,by simp [hlt]⟩,Pv (i+1),fun σ' H' p'=> ⟨xs.length -(i+1),by omega,rfl,hlt,p'⟩,fun x H' y=> ?_⟩;obtain⟨e,y⟩:=y;subst e;exact hs i x σ _ (y xs q) p
 ·have e:i=xs.length:=by omega
  subst e;exact .inl ⟨⟨xs,q,zjQ _⟩,hd σ H p⟩
theorem mN {lo:Int}{n:Nat}{g:TG}{tb:TS}{D:cY}{σ:St}{H:Hp}(Pv:Nat->St->Hp->Prop)(h0:Pv 0 σ H)
  (hs:∀i σ H,i<n->Pv i σ H->g (.int (lo+i)) σ H fun σ2 H2=>tb {D with nx:=Pv (i+1),ct:=Pv (i+1),bk:=D.nx} σ2 H2)(hd:∀σ H,Pv n σ H->D.nx σ H):
  ∃W:Nat->Nat->St->Hp->Prop,(∃m,W 0 m σ H)/\∀i m σ H,W i m σ H->
   ((Itr lo n).stop i H/\D.nx σ H)\/((Itr lo n).go i H/\∃N:St->Hp->Prop,(∀σ' H',N σ' H'->∃m',m'<m/\W (i+1) m' σ' H')/\∀x H',(Itr lo n).yld i H x H'->g x σ H' fun σ2 H2=>tb {D with nx:=N,ct:=N,bk:=D.nx} σ2 H2):=by
 refine⟨fun i m σ H=>m=n - i/\i<=n/\Pv i σ H,⟨n,by simp,zero_le _,h0⟩,?_⟩;rintro i m σ H ⟨rfl,hi,p⟩;by_cases hlt:i<n
 ·refine .inr ⟨hlt,Pv (i+1),fun σ' H' p'=> ⟨n -(i+1),by omega,rfl,hlt,p'⟩,fun x H' y=> ?_⟩;obtain⟨e,y⟩:=y;subst e y;exact hs i σ _ hlt p
 ·have e:i=n:=by omega
  subst e;exact .inl ⟨zjQ _,hd σ H p⟩
theorem A78 {c:TT}{tb:TS}{D:cY}{σ:St}{H:Hp}(Pv:St->Hp->Prop)(μ:St->Hp->Nat)(h0:Pv σ H)
  (hs:∀σ H,Pv σ H->c σ H fun b H1=>if b=true then tb {D with nx:=fun σ' H'=>Pv σ' H'/\μ σ' H'<μ σ H,ct:=fun σ' H'=>Pv σ' H'/\μ σ' H'<μ σ H,bk:=D.nx} σ H1 else D.nx σ H1)
  (mono:∀σ H Q Q',(∀b H1,Q b H1->Q' b H1)->c σ H Q->c σ H Q'):yH c tb D σ H:=by
 refine⟨fun m σ H=>m=μ σ H/\Pv σ H,⟨_,rfl,h0⟩,?_⟩;rintro m σ H ⟨rfl,p⟩;refine mono σ H _ _ (fun b H1 q=> ?_) (hs σ H p);cases b with
 |true=>exact⟨_,fun σ' H' ⟨p',l⟩=> ⟨_,l,rfl,p'⟩,q⟩
 |false=>exact q
noncomputable abbrev R2:=V->V->Hp->VK->Prop
noncomputable def OpR (X:Cx)(f:Value->Value->Sem Value)(r:R2):Prop:=
 ∀(pins:List (Addr×Obj))(s:Shared)(σ:St)(H:Hp)(x y:V)(v u:Value)(Q:VK),Inv X pins σ H s->RelV x v->RelV y u->r x y H Q->
  wpAny (model X.prog X.w) X.A (f v u) (EP X pins σ Q) X.xe s
noncomputable def UnR (X:Cx)(f:Value->Sem Value)(r:V->Hp->VK->Prop):Prop:=
 ∀(pins:List (Addr×Obj))(s:Shared)(σ:St)(H:Hp)(x:V)(v:Value)(Q:VK),Inv X pins σ H s->RelV x v->r x H Q->
  wpAny (model X.prog X.w) X.A (f v) (EP X pins σ Q) X.xe s
noncomputable def dZ (X:Cx)(f:Value)(r:List V->Hp->VK->Prop):Prop:=
 ∀(pins:List (Addr×Obj))(s:Shared)(σ:St)(H:Hp)(xs:List V)(us:List Value)(Q:VK),Inv X pins σ H s->Vals xs us->r xs H Q->
  wpAny (model X.prog X.w) X.A (call f us) (EP X pins σ Q) X.xe s
noncomputable def tOp (r:R2)(ta tb:TE):TE:=fun σ H Q=>ta σ H fun x H1=>tb σ H1 fun y H2=>r x y H2 Q
noncomputable def tUn (r:V->Hp->VK->Prop)(ta:TE):TE:=fun σ H Q=>ta σ H fun x H1=>r x H1 Q
noncomputable def rI (C:Int->Int->Prop)(g:Int->Int->V):R2:=fun x y H Q=> ∃i j,x= .int i/\y= .int j/\C i j/\Q (g i j) H
noncomputable def rI0 (g:Int->Int->V):R2:=fun x y H Q=> ∃i j,x= .int i/\y= .int j/\Q (g i j) H
noncomputable def rU (g:Int->V):V->Hp->VK->Prop:=fun x H Q=> ∃i,x= .int i/\Q (g i) H
section
variable {X:Cx}{a b c:Expr}{ta tb tc:TE}{pos:Pos}
theorem qS (ha:PE X a ta)(hb:PE X b tb){pins:List (Addr×Obj)}{s:Shared}{σ:St}{H:Hp}{R:V->V->Hp->Prop}(I:Inv X pins σ H s)
  (h:ta σ H fun x H1=>tb σ H1 fun y H2=>R x y H2){Q:Value->Shared->Prop}{f:Value->Value->Sem Value}
  (hf:∀v u s2 x y H2,Inv X pins σ H2 s2->RelV x v->RelV y u->R x y H2->wpAny (model X.prog X.w) X.A (f v u) Q X.xe s2):
  wpAny (model X.prog X.w) X.A (eval a X.env) (fun v s₁=>wpAny (model X.prog X.w) X.A (eval b X.env) (fun u s₂=>wpAny (model X.prog X.w) X.A (f v u) Q X.xe s₂) X.xe s₁) X.xe s:=by
 refine thn (ha pins s σ H _ I h) fun v s1 ⟨x,H1,I1,r1,q1⟩=> ?_;refine thn (hb pins s1 σ H1 _ I1 q1) fun u s2 ⟨y,H2,I2,r2,q2⟩=> ?_;exact hf v u s2 x y H2 I2 r1 r2 q2
theorem bF {op:Operator}{r:R2}(ho:OpR X (binaryOp op) r)(ha:PE X a ta)(hb:PE X b tb):PE X (.BinOp a op b pos) (tOp r ta tb):=by intro pins s σ H Q I h;exact wpAny_BinOp (qS ha hb I h fun v u s2 x y H2 I2 rx ry q=>ho pins s2 σ H2 x y v u Q I2 rx ry q)
theorem jR {op:UnaryOp}{r:V->Hp->VK->Prop}(ho:UnR X (unaryOp op) r)(ha:PE X a ta):PE X (.UnaryOp op a pos) (tUn r ta):=by intro pins s σ H Q I h;exact UnaryOp_ (thn (ha pins s σ H _ I h) fun v s1 ⟨x,H1,I1,r1,q1⟩=>ho pins s1 σ H1 x v Q I1 r1 q1)
theorem opI {f:Value->Value->Sem Value}{C:Int->Int->Prop}{g:Int->Int->Int}
  (rule:∀(i j:Int)(t u:Tok)(s:Shared)(Q:Value->Shared->Prop)(E:Value->Shared->Prop),C i j->Q (.int (g i j) s.toks) {s with toks:=s.toks+1}->wpAny (model X.prog X.w) X.A (f (.int i t) (.int j u)) Q E s):
  OpR X f (rI C fun i j=> .int (g i j)):=by
 intro pins s σ H x y v u Q I rx ry h;obtain⟨i,j,rfl,rfl,hc,q⟩:=h;obtain⟨t,rfl⟩:=rx;obtain⟨t',rfl⟩:=ry;exact rule i j t t' s _ _ hc ⟨.int (g i j),H,I.tok _,⟨_,rfl⟩,q⟩
theorem uB {f:Value->Value->Sem Value}{g:Int->Int->Int}
  (rule:∀(i j:Int)(t u:Tok)(s:Shared)(Q:Value->Shared->Prop)(E:Value->Shared->Prop),Q (.int (g i j) s.toks) {s with toks:=s.toks+1}->wpAny (model X.prog X.w) X.A (f (.int i t) (.int j u)) Q E s):
  OpR X f (rI0 fun i j=> .int (g i j)):=by
 intro pins s σ H x y v u Q I rx ry h;obtain⟨i,j,rfl,rfl,q⟩:=h;obtain⟨t,rfl⟩:=rx;obtain⟨t',rfl⟩:=ry;exact rule i j t t' s _ _ ⟨.int (g i j),H,I.tok _,⟨_,rfl⟩,q⟩
theorem mK {f:Value->Value->Sem Value}{g:Int->Int->Bool}
  (rule:∀(i j:Int)(t u:Tok)(s:Shared)(Q:Value->Shared->Prop)(E:Value->Shared->Prop),Q (.bool (g i j)) s->wpAny (model X.prog X.w) X.A (f (.int i t) (.int j u)) Q E s):
  OpR X f (rI0 fun i j=> .bl (g i j)):=by
 intro pins s σ H x y v u Q I rx ry h;obtain⟨i,j,rfl,rfl,q⟩:=h;obtain⟨t,rfl⟩:=rx;obtain⟨t',rfl⟩:=ry;exact rule i j t t' s _ _ ⟨.bl (g i j),H,I,rfl,q⟩
noncomputable def A65 (i j:Int):Prop:=0<j/\j<1073741824
noncomputable def A7h (i j:Int):Prop:=0<=j/\j<=1000000/\i.natAbs<2^64
noncomputable def CMul (i j:Int):Prop:=(-(2^64)<i/\i<2^64)\/(-(2^64)<j/\j<2^64)
theorem CMul.ok {i j:Int}(h:CMul i j):IntMulOk i j:=by
 rcases h with⟨h1,h2⟩| ⟨h1,h2⟩
 ·exact .of_left (intBits_le_64 h1 h2)
 ·exact .of_right (intBits_le_64 h1 h2)
theorem eO:OpR X (binaryOp .Add) (rI0 fun i j=> .int (i+j)):=uB fun _ _ _ _ _ _ _ q=>add_int q
theorem fJ:OpR X (binaryOp .Sub) (rI0 fun i j=> .int (i - j)):=uB fun _ _ _ _ _ _ _ q=>sub_int q
theorem fO:OpR X (binaryOp .Mult) (rI CMul fun i j=> .int (i*j)):=opI fun _ _ _ _ _ _ _ hc q=>mul_int q hc.ok
theorem lV:OpR X (binaryOp .FloorDiv) (rI A65 fun i j=> .int (i/j)):=opI fun i j _ _ _ _ _ hc q=>by
 have h1:(0:Int)<j:=hc.1;have h2:j<1073741824:=hc.2;exact floordiv_int (by omega) (by rw [Int.fdiv_eq_ediv_of_nonneg i (by omega)];exact q) (.inl (PyProof.noPylong_small (by omega)))
theorem gR:OpR X (binaryOp .Mod) (rI (fun _ j=>0<j) fun i j=> .int (i%j)):=opI fun i j _ _ _ _ _ hc q=>by
 have h1:(0:Int)<j:=hc;exact mod_int' (by omega) (by rw [Int.fmod_eq_emod_of_nonneg i (by omega)];exact q)
theorem A69:OpR X (binaryOp .Pow) (rI A7h fun i j=> .int (i^j.toNat)):=opI fun _ _ _ _ _ _ _ hc q=>pow_int_small hc.1 hc.2.1 hc.2.2 q
theorem unI {f:Value->Sem Value}{g:Int->Int}
  (rule:∀(i:Int)(t:Tok)(s:Shared)(Q:Value->Shared->Prop)(E:Value->Shared->Prop),Q (.int (g i) s.toks) {s with toks:=s.toks+1}->wpAny (model X.prog X.w) X.A (f (.int i t)) Q E s):
  UnR X f (rU fun i=> .int (g i)):=by
 intro pins s σ H x v Q I rx h;obtain⟨i,rfl,q⟩:=h;obtain⟨t,rfl⟩:=rx;exact rule i t s _ _ ⟨.int (g i),H,I.tok _,⟨_,rfl⟩,q⟩
theorem iY:UnR X (unaryOp .USub) (rU fun i=> .int (-i)):=unI fun _ _ _ _ _ q=>neg_int q
end
noncomputable def scal:V->V->Bool
 | .non,.non=>true| .non,.int _=>true| .int _,.non=>true| .non,.bl _=>true| .bl _,.non=>true| .non,.str _=>true| .str _,.non=>true
 | .int _,.int _=>true| .bl _,.bl _=>true| .str _,.str _=>true| .byt _,.byt _=>true
 | .int _,.str _=>true| .str _,.int _=>true| .bl _,.str _=>true| .str _,.bl _=>true
 |_,_=>false
noncomputable def rEq:R2:=fun x y H Q=>scal x y=true/\Q (.bl (decide (x=y))) H
theorem A8t {i j:Int}:decide (V.int i=V.int j)=(i==j):=by rw [Bool.eq_iff_iff];simp
theorem A2c {i j:Bool}:decide (V.bl i=V.bl j)=(i==j):=by rw [Bool.eq_iff_iff];simp
theorem A7z {i j:Str}:decide (V.str i=V.str j)=(i==j):=by rw [Bool.eq_iff_iff];simp
theorem B0v {i j:Array UInt8}:decide (V.byt i=V.byt j)=(i.toList==j.toList):=by rw [Bool.eq_iff_iff];cases i;cases j;simp
section
variable {X:Cx}{a b c:Expr}{ta tb tc:TE}{pos:Pos}
theorem eU {pins:List (Addr×Obj)}{σ:St}{H:Hp}{s:Shared}{Q:VK}{k k':Bool}(I:Inv X pins σ H s)(q:Q (.bl k) H)(e:k=k'):EP X pins σ Q (.bool k') s:=by subst e;exact⟨.bl k,H,I,rfl,q⟩
theorem eW:OpR X (compareOp .Eq) rEq:=by
 intro pins s σ H x y v u Q I rx ry h;obtain⟨hs,q⟩:=h;cases x with
 |non=>
  cases rx;cases y with
  |non=>cases ry;exact PySem.EqNone.eq_none_none (eU I q (by simp))
  |bl j=>cases ry;exact PySem.EqNone.eq_none_bool (eU I q (by simp))
  |int j=>obtain⟨t',rfl⟩:=ry;exact PySem.EqNone.eq_none_int (eU I q (by simp))
  |str j=>obtain⟨t',rfl⟩:=ry;exact PySem.EqNone.eq_none_str (eU I q (by simp))
  |_=>exact absurd (show false=true from hs) Bool.false_ne_true
 |bl i=>
  cases rx;cases y with
  |non=>cases ry;exact PySem.EqNone.eq_bool_none (eU I q (by simp))
  |bl j=>cases ry;exact eq_bool (eU I q A2c)
  |str j=>obtain⟨t',rfl⟩:=ry;exact PySem.EqMixed.eq_bool_str (eU I q (by simp))
  |_=>exact absurd (show false=true from hs) Bool.false_ne_true
 |int i=>
  obtain⟨t,rfl⟩:=rx;cases y with
  |non=>cases ry;exact PySem.EqNone.eq_int_none (eU I q (by simp))
  |int j=>obtain⟨t',rfl⟩:=ry;exact eq_int (eU I q A8t)
  |str j=>obtain⟨t',rfl⟩:=ry;exact PySem.EqMixed.eq_int_str (eU I q (by simp))
  |_=>exact absurd (show false=true from hs) Bool.false_ne_true
 |str i=>
  obtain⟨t,rfl⟩:=rx;cases y with
  |non=>cases ry;exact PySem.EqNone.eq_str_none (eU I q (by simp))
  |bl j=>cases ry;exact PySem.EqMixed.eq_str_bool (eU I q (by simp))
  |int j=>obtain⟨t',rfl⟩:=ry;exact PySem.EqMixed.eq_str_int (eU I q (by simp))
  |str j=>obtain⟨t',rfl⟩:=ry;exact eq_str (eU I q A7z)
  |_=>exact absurd (show false=true from hs) Bool.false_ne_true
 |byt i=>
  obtain⟨t,rfl⟩:=rx;cases y with
  |byt j=>obtain⟨t',rfl⟩:=ry;exact W.eq_bytes (eU I q B0v)
  |_=>exact absurd (show false=true from hs) Bool.false_ne_true
 |_=>cases y<;>exact absurd (show false=true from hs) Bool.false_ne_true
theorem jG:OpR X (compareOp .Lt) (rI0 fun i j=> .bl (decide (i<j))):=mK fun _ _ _ _ _ _ _ q=>lt_int q
theorem iE:OpR X (compareOp .LtE) (rI0 fun i j=> .bl (decide (i<=j))):=mK fun _ _ _ _ _ _ _ q=>le_int q
theorem nI:OpR X (compareOp .Gt) (rI0 fun i j=> .bl (decide (j<i))):=mK fun _ _ _ _ _ _ _ q=>gt_int q
theorem rX:OpR X (compareOp .GtE) (rI0 fun i j=> .bl (decide (j<=i))):=mK fun _ _ _ _ _ _ _ q=>ge_int q
theorem nomark (b:Expr){op:CmpOp}(h:op≠ .In:=by decide)(h2:op≠ .NotIn:=by decide):behindInMarks op b=false:=by
 have e1:(op==CmpOp.In)=false:=by cases op<;>first|rfl|exact absurd rfl h
 have e2:(op==CmpOp.NotIn)=false:=by cases op<;>first|rfl|exact absurd rfl h2
 cases b<;>simp [behindInMarks,e1,e2]
theorem eL {op:CmpOp}{r:R2}(ho:OpR X (compareOp op) r)(ha:PE X a ta)(hb:PE X b tb)(hm:behindInMarks op b=false):PE X (.Compare a [op] [b] pos) (tOp r ta tb):=by intro pins s σ H Q I h;exact wpAny_Compare1 (qS ha hb I h fun v u s2 x y H2 I2 rx ry q=>ho pins s2 σ H2 x y v u Q I2 rx ry q) hm
noncomputable def A92 (t:TE):TT:=fun σ H Q=>t σ H fun x H'=> ∃k,x= .bl k/\Q k H'
theorem bX {op:CmpOp}{r:R2}(ho:OpR X (compareOp op) r)(ha:PE X a ta)(hb:PE X b tb)(hm:behindInMarks op b=false):PT X (.Compare a [op] [b] pos) (A92 (tOp r ta tb)):=by
 intro pins s σ H Q I h;refine wpAny_isTrue_Compare1 (thn (ha pins s σ H _ I h) fun v s1 ⟨x,H1,I1,r1,q1⟩=>thn (hb pins s1 σ H1 _ I1 q1) fun u s2 ⟨y,H2,I2,r2,q2⟩=>
  thn (ho pins s2 σ H2 x y v u _ I2 r1 r2 q2) fun c s3 ⟨z,H3,I3,r3,k,e,q3⟩=> ?_) hm
 subst e;cases r3;exact wpAny_truthy_bool ⟨H3,I3,q3⟩
noncomputable def A4m (r r':R2)(ta tb tc:TE):TE:=fun σ H Q=>ta σ H fun x H1=>tb σ H1 fun y H2=>r x y H2 fun z H3=> ∃k,z= .bl k/\
 (if k=true then tc σ H3 fun w' H4=>r' y w' H4 Q else Q (.bl false) H3)
theorem sZ {op op':CmpOp}{r r':R2}(ho:OpR X (compareOp op) r)(ho':OpR X (compareOp op') r')(ha:PE X a ta)(hb:PE X b tb)(hc:PE X c tc)
  (hm:lastMarks [op,op'] [b,c]=false:=by with_unfolding_all rfl):PE X (.Compare a [op,op'] [b,c] pos) (A4m r r' ta tb tc):=by
 intro pins s σ H Q I h;refine Compare_chain (thn (ha pins s σ H _ I h) fun v s1 ⟨x,H1,I1,r1,q1⟩=>chain_link (thn (hb pins s1 σ H1 _ I1 q1) fun u s2 ⟨y,H2,I2,r2,q2⟩=>
  thn (ho pins s2 σ H2 x y v u _ I2 r1 r2 q2) fun d s3 ⟨z,H3,I3,r3,k,e,q3⟩=> ?_)) hm
 subst e;cases r3;refine wpAny_truthy_bool ?_;cases k with
 |false=>exact ite_ff ⟨.bl false,H3,I3,rfl,q3⟩
 |true=>exact ite_tt (chain_last (thn (hc pins s3 σ H3 _ I3 q3) fun w' s4 ⟨z',H4,I4,r4,q4⟩=>ho' pins s4 σ H4 y z' u w' Q I4 r2 r4 q4))
theorem lG:(sizeLine:Nat)<2^63:=by rw [sizeLine_eq];decide
theorem eK {x:V}{us:List Value}(r:Vals [x] us):∃u,us=[u]/\RelV x u:=by
 cases r with
 |cons r1 r2=>cases r2;exact⟨_,rfl,r1⟩
theorem nU {x y:V}{us:List Value}(r:Vals [x,y] us):∃u w',us=[u,w']/\RelV x u/\RelV y w':=by
 cases r with
 |cons r1 r2=>
  cases r2 with
  |cons r3 r4=>cases r4;exact⟨_,_,rfl,r1,r3⟩
theorem iR:dZ X (.builtin "abs") (fun xs H Q=> ∃i,xs=[.int i]/\Q (.int (if i<0 then -i else i)) H):=by intro pins s σ H xs us Q I r h;obtain⟨i,rfl,q⟩:=h;obtain⟨u,rfl,t,rfl⟩:=eK r;exact call_abs_int fun u tk=> ⟨.int (if i<0 then -i else i),H,I.tok _,⟨_,rfl⟩,q⟩
theorem wV:dZ X (.type "int") (fun xs H Q=>(∃i,xs=[.int i]/\Q (.int i) H)\/ ∃k,xs=[.bl k]/\Q (.int (if k then 1 else 0)) H):=by
 intro pins s σ H xs us Q I r h;rcases h with⟨i,rfl,q⟩| ⟨k,rfl,q⟩
 ·obtain⟨u,rfl,t,rfl⟩:=eK r;exact call_int_int ⟨.int i,H,I,⟨_,rfl⟩,q⟩
 ·obtain⟨u,rfl,r1⟩:=eK r;cases r1;exact call_int_bool ⟨.int (if k then 1 else 0),H,I.tok _,⟨_,rfl⟩,q⟩
end
structure ObjM (h:Heap)(x dx C:Addr)(mA:Str->Option Value):Prop where
 obj:h.get? x=some (W.instObj C dx)
 ns:h.Ns1 dx mA
 ne:dx≠x
theorem A5j {h:Heap}{dx:Addr}{mA:Str->Option Value}(n:h.Ns1 dx mA):∃od,h.get? dx=some od/\∀name,W.lookIn name od=some (mA name):=by
 obtain⟨o,es,ep,ho,hd,hk,_,hm⟩:=n;refine⟨o,ho,fun name=> ?_⟩;have e:=hm name;unfold nsFind findBy at e;rw [←Array.find?_toList]at e;unfold W.lookIn;rw [hd];dsimp only
 split
 ·rename_i y q;rw [q]at e;exact congrArg some e
 ·rename_i q;rw [q]at e;have a:es.toList.any (·.refKey)=false:=by
   rw [List.any_eq_false];intro y hy;obtain⟨z,t,hkey⟩:=hk y (Array.mem_toList_iff.mp hy);simp [DictEntry.refKey,hkey]
  have a':¬es.toList.any (·.refKey)=true:=by rw [a];exact Bool.false_ne_true
  rw [if_neg a'];exact congrArg some e
theorem ObjM.look {h:Heap}{x dx C:Addr}{mA:Str->Option Value}(I:ObjM h x dx C mA):∃od,W.InstAt h x (W.instObj C dx) C (some od)/\∀name,W.lookIn name od=some (mA name):=
 let ⟨od,ho,hl⟩:=A5j I.ns
 ⟨od,⟨I.obj,rfl,rfl,ho⟩,hl⟩
section
variable {prog:Program}{w:World}{A:Around}{E:Value->Shared->Prop}{s:Shared}{K:W.Frag}{x dx C f:Addr}{mA:Str->Option Value}{name:Str}{v:Value}
end
noncomputable def fK (f:Str)(v:V):List (Str×V)->List (Str×V)
 | []=> [(f,v)]
 | (g,x)::r=>if g=f then(g,v)::r else(g,x)::fK f v r
theorem RelO.some_of {v:V}{o:Option Value}(r:RelO (some v) o):∃u,o=some u/\RelV v u:=by
 cases o with
 |none=>exact(show False from r).elim
 |some u=>exact⟨u,rfl,r⟩
section
variable {P:Program}{w:World}{H H':Hp}{h h':Heap}{a C dx:Addr}{fs fs':List (Str×V)}
theorem A2t (hok:HOk P w H h)(e:H a=some (.ins C dx fs)):∃mA,ObjM h a dx C mA/\(∀f,RelO (fs.lookup f) (mA f))/\PySem.Within mA (fs.map (·.1))/\fs.length<=1000/\H dx=some (.own a):=by obtain⟨d,z,ne,ob,mA,n,r,q⟩:=(show ObjOk P w H h a (.ins C dx fs)from hok a _ e);exact⟨mA,⟨ob,n,ne⟩,r,q,z,d⟩
end
structure Cls (K:W.Frag)(C:Addr):Prop where
 pg:W.plainGet K C Str.empty=true
 hd:W.hasDictIn K C=true
 po:W.plainOver K C=true
 sa:W.findIn K (.ref C) "__setattr__" =some (some (.builtin "object.__setattr__"))
theorem Cls.get {K:W.Frag}{C:Addr}(c:Cls K C)(f:Str):W.plainGet K C f=true:=c.pg
section
variable {X:Cx}{pins:List (Addr×Obj)}{σ:St}{H:Hp}{s:Shared}{a C dx:Addr}{fs:List (Str×V)}{f:Str}{v:V}{A:Around}{E:Value->Shared->Prop}
end
section
variable {X:Cx}{o e value:Expr}{f:Str}{pos pos' tpos:Pos}{ta tv:TE}
end
section
variable {X:Cx}{pins:List (Addr×Obj)}{σ:St}{H:Hp}{s:Shared}{A:Around}{E:Value->Shared->Prop}{Q:Value->Shared->Prop}{c:Value}{b:Bool}
inductive TyOf (K:W.Frag) (H:Hp):V->Value->Prop where
 |non:TyOf K H .non (.type "NoneType")
 |bl (x:Bool):TyOf K H (.bl x) (.type "bool")
 |int (i:Int):TyOf K H (.int i) (.type "int")
 |str (x:Str):TyOf K H (.str x) (.type "str")
 |flt (x:UInt64):TyOf K H (.flt x) (.type "float")
 |lst {a:Addr} {xs:List V} (e:H a=some (.lst xs)):TyOf K H (.ref a) (.type "list")
 |frz {a:Addr} {o:Obj} {xs:List V} (e:H a=some (.frz o (.lst xs))):TyOf K H (.ref a) (.type "list")
 |tup {a:Addr} {xs:List V} (e:H a=some (.tup xs)):TyOf K H (.ref a) (.type "tuple")
 |dK {a:Addr} {kvs:List (Key×V)} (e:H a=some (.dK kvs)):TyOf K H (.ref a) (.type "dict")
 |dT {a:Addr} {kvs:List (List Key×V)} (e:H a=some (.dT kvs)):TyOf K H (.ref a) (.type "dict")
 |ins {a C dx:Addr} {fs:List (Str×V)} (e:H a=some (.ins C dx fs)) (cl:Cls K C) (ha:W.findIn K (.ref C) "__class__" =some (some (.builtin "object.__class__")))
   (hn:W.specialIn K (.builtin "object.__class__") "__get__" =some (some (.builtin "getset_descriptor.__get__"))) (htk:W.takesIn K (.builtin "object.__class__")=some true)
   (hm:W.mroIn K C (.type "object")=some true):TyOf K H (.ref a) (.ref C)
theorem A42 {x:V}{u t:Value}(I:Inv X pins σ H s)(rx:RelV x u)(ty:TyOf X.K H x t)(e:W.kitOne X.K t c=some b)(h:∀tk,Q (.bool b) {s with toks:=tk}):
  wpAny (model X.prog X.w) A (call (.builtin "isinstance") [u,c]) Q E s:=by
 cases ty with
 |non=>cases (show u=Value.none from rx);exact W.kia_one W.kitx_none I.kIn True.intro e (fun z=>nomatch z) h
 |bl y=>cases (show u=Value.bool y from rx);exact W.kia_one W.kitx_bool I.kIn True.intro e (fun z=>nomatch z) h
 |int i=>obtain⟨t,q⟩:=(show∃t,u=Value.int i t from rx);cases q;exact W.kia_one W.kitx_int I.kIn True.intro e (fun z=>nomatch z) h
 |str y=>obtain⟨t,q⟩:=(show∃t,u=Value.str y t from rx);cases q;exact W.kia_one W.kitx_str I.kIn True.intro e (fun z=>nomatch z) h
 |flt y=>obtain⟨t,q⟩:=(show∃t,u=Value.float y t from rx);cases q;exact W.kia_one W.kitx_float I.kIn True.intro e (fun z=>nomatch z) h
 | @lst a xs ea=>
  cases (show u=Value.ref a from rx);obtain⟨_,_,n,_,h1⟩:=(show ObjOk X.prog X.w H s.heap a (.lst xs)from I.hok a _ ea);exact W.kia_one W.kitx_list I.kIn ⟨_,h1,rfl⟩ e (fun z=>nomatch z) h
 | @frz a ob xs ea=>
  cases (show u=Value.ref a from rx);obtain⟨_,_,_,n,_,h1⟩:=(show ObjOk X.prog X.w H s.heap a (.frz ob (.lst xs))from I.hok a _ ea);exact W.kia_one W.kitx_list I.kIn ⟨_,h1,rfl⟩ e (fun z=>nomatch z) h
 | @tup a xs ea=>
  cases (show u=Value.ref a from rx);obtain⟨_,_,_,p⟩:=(show ObjOk X.prog X.w H s.heap a (.tup xs)from I.hok a _ ea);obtain⟨o,h1,h2,_⟩:=p;exact W.kia_one W.kitx_tuple I.kIn ⟨o,h1,h2⟩ e (fun z=>nomatch z) h
 | @dK a kvs ea=>
  cases (show u=Value.ref a from rx);obtain⟨_,_,vs,_,p⟩:=(show ObjOk X.prog X.w H s.heap a (.dK kvs)from I.hok a _ ea);obtain⟨o,es,ep,h1,h2,_⟩:=p;exact W.kia_one W.kitx_dict I.kIn ⟨o,h1,h2.1⟩ e (fun z=>nomatch z) h
 | @dT a kvs ea=>
  cases (show u=Value.ref a from rx);obtain⟨_,_,xs,_,o,es,ep,h1,h2,_⟩:=(show ObjOk X.prog X.w H s.heap a (.dT kvs)from I.hok a _ ea);exact W.kia_one W.kitx_dict I.kIn ⟨o,h1,h2.1⟩ e (fun z=>nomatch z) h
 | @ins a C dx fs ea cl ha hn htk hm=>
  cases (show u=Value.ref a from rx);obtain⟨mA,O,_⟩:=A2t I.hok ea;obtain⟨od,J,_⟩:=O.look;exact W.kia_one (W.kitx_own (cl.get _) cl.hd ha hn htk hm) I.kIn J e (fun z=>nomatch z) h
end
structure Room (k:Nat)(A:Around):Prop where
 hd:A.handled=none
 dp:A.depth+3*k+5<recursionLimit
 un:A.units+16*k+200<cLine
 gd:A.guards=some []
theorem Room.mono {j k:Nat}{A:Around}(r:Room k A)(h:j<=k):Room j A:=⟨r.hd,by have:=r.dp;omega,by have:=r.un;omega,r.gd⟩
theorem Room.deeper {k:Nat}{A:Around}(r:Room (k+1) A)(env:Env):Room k (A.deeper env):=
 ⟨r.hd,by have:=r.dp;show A.depth+1+3*k+5<_;omega,by have:=r.un;show A.units+3+16*k+200<_;omega,r.gd⟩
theorem Room.depth {k:Nat}{A:Around}(r:Room k A):A.depth<recursionLimit:=by have:=r.dp;omega
theorem Room.units {k:Nat}{A:Around}(r:Room k A):A.units+64<cLine:=by have:=r.un;omega
noncomputable def kS:TA:=fun _ H Q=>Q [] H
noncomputable def dJ (ta:TE)(tr:TA):TA:=fun σ H Q=>ta σ H fun x H1=>tr σ H1 fun xs H2=>Q (x::xs) H2
section
variable {X:Cx}{e:Expr}{es:List Expr}{te:TE}{t:TA}{pos:Pos}
theorem aA:PA X [] kS:=fun _ _ _ _ H Q I h=>Calls.spliced_nil ⟨[],H,I,.nil,h⟩
theorem bB (ha:PE X e te)(hr:PA X es t)(hs:starEach (e::es) X.env=(false,eval e X.env)::starEach es X.env:=by rfl):PA X (e::es) (dJ te t):=by intro pos pins s σ H Q I h;rw [hs];show wpAny _ _ (spliced ((false,eval e X.env)::backTo pos (starEach es X.env))) _ _ s;refine Calls.spliced_cons (thn (ha pins s σ H _ I h) fun u s1 ⟨x,H1,I1,r1,q1⟩=> ?_);exact thn (hr pos pins s1 σ H1 _ I1 q1) fun us s2 ⟨xs,H2,I2,r2,q2⟩=> ⟨x::xs,H2,I2,.cons r1 r2,q2⟩
noncomputable def nS (t:TA):TE:=fun σ H Q=>t σ H fun xs H1=>xs.length<=sizeLine/\∀p,H1 p=none->Q (.ref p) (upd H1 p (.tup xs))
noncomputable def pH (t:TA):TE:=fun σ H Q=>t σ H fun xs H1=>xs.length<=sizeLine/\∀p,H1 p=none->Q (.ref p) (upd H1 p (.lst xs))
theorem dN {x1}(h:PA X es t):PE X (.Tuple es x1 pos) (nS t):=by intro pins s σ H Q I hq;refine wpAny_Tuple_spliced (thn (h pos pins s σ H _ I hq) fun us s1 ⟨xs,H1,I1,r,z,q⟩=> ⟨by rw [←r.length];exact z,?_⟩);have hf:H1 s1.heap.objs.size=none:=I1.hok.fresh (zjQ _);refine⟨.ref s1.heap.objs.size,upd H1 s1.heap.objs.size (.tup xs),I1.laid (t':=s1.toks) (fun b u e=>zjX _ e) (zjQ _) ?_,rfl,q _ hf⟩;exact⟨z,us,r,⟨_,get?_push_size _ rfl,rfl,_,rfl⟩⟩
theorem cN (h:PA X es t):PE X (.List es pos) (pH t):=by intro pins s σ H Q I hq;refine wpAny_List_spliced (thn (h pos pins s σ H _ I hq) fun us s1 ⟨xs,H1,I1,r,z,q⟩=> ⟨by rw [←r.length];exact z,?_⟩);have hf:H1 s1.heap.objs.size=none:=I1.hok.fresh (zjQ _);refine⟨.ref s1.heap.objs.size,upd H1 s1.heap.objs.size (.lst xs),I1.laid (t':=s1.toks) (fun b u e=>zjX _ e) (zjQ _) ?_,rfl,q _ hf⟩;exact⟨z,us,0,r,get?_push_size _ rfl⟩
end
noncomputable abbrev Sp:=List V->Hp->VK->XK->Prop
noncomputable abbrev CXT:=List Env->Hp->Shared->XK->Value->Shared->Prop
structure mZ (P:Program)(w:World)(K:W.Frag)(mg:Str->Option Value)(base:Heap)(A:Around)(outer:List Env)(s:Shared)(H:Hp):Prop where
 frames:A.frames=some outer
 mod:Mod K mg base
 bs:∀b o,base.get? b=some o->s.heap.get? b=some o/\H b=none
 bsz:base.objs.size<=s.heap.objs.size
 funs:s.heap.FunFrames base outer
 frf:∀b∈frs outer,H b=none
 hok:HOk P w H s.heap
 bare:AllBare s.gens
noncomputable def CE (outer:List Env)(P:Program)(w:World)(H:Hp)(s:Shared)(Q:VK)(u:Value)(s':Shared):Prop:=
 ∃v H',s'.os=s.os/\AllBare s'.gens/\Un (frs outer) [] H H' s.heap s'.heap/\HOk P w H' s'.heap/\RelV v u/\Q v H'
noncomputable def CR (CX:CXT)(outer:List Env)(P:Program)(w:World)(H:Hp)(s:Shared)(Q:VK)(E:XK)(r:Result)(s':Shared):Prop:=
 match r with
 | .ok (.ret u)=>CE outer P w H s Q u s'
 | .ok _=>False
 | .error e=>CX outer H s E e s'
structure gD (P:Program)(w:World)(K:W.Frag)(mg:Str->Option Value)(base:Heap)(CX:CXT)(k:Nat)(f:Addr)(fd:FuncData)(ps:List Str)(sp:Sp):Prop where
 len:∀vs H Q E,sp vs H Q E->vs.length=ps.length
 run:∀(A:Around)(outer:List Env)(s:Shared)(H:Hp)(args:Args)(us:List Value)(vs:List V)(Q:VK)(E:XK),Room k A->mZ P w K mg base A outer s H->BindsTo s fd args (ps.zip us)->Vals vs us->sp vs H Q E->
  codeAny (model P w) A (.call (.ref f) args) (CR CX outer P w H s Q E) s
section
variable {X:Cx}{pins:List (Addr×Obj)}{σ:St}{H:Hp}{s s':Shared}
theorem Inv.env0 (I:Inv X pins σ H s):mZ X.prog X.w X.K X.mg X.base X.A X.stack s H:=
 ⟨I.ok.frames,I.ok.mod,I.bs,le_trans I.ok.bsz I.sz,I.stack,I.stkFree,I.hok,I.bare⟩
theorem Inv.after {Q:VK}{u:Value}(I:Inv X pins σ H s)(h:CE X.stack X.prog X.w H s Q u s'):EP X pins σ Q u s':=by obtain⟨v,H',os,bare,un,hok,r,q⟩:=h;obtain⟨hh,g,d,t,os'⟩:=s';obtain rfl:os'=s.os:=os;exact⟨v,H',I.call (h':=hh) (g':=g) (d':=d) (t':=t) (ch:=[]) un hok bare (fun b z=>absurd z (by simp)),r,q⟩
end
noncomputable def uM (sp:Sp)(dvs:List V)(E:XK)(t:TA):TE:=fun σ H Q=>t σ H fun vs H1=>sp (vs++dvs) H1 Q E
noncomputable def Binds (K:W.Frag)(fd:FuncData)(ps:List Str)(ds:List Value):Prop:=
 ∀(s:Shared)(us:List Value),K.In s.heap->(us++ds).length=ps.length->BindsTo s fd ⟨us,[]⟩ (ps.zip (us++ds))
theorem Binds.all {K:W.Frag}{fd:FuncData}{ps:List Str}(h:∀us:List Value,us.length=ps.length->bindArgs fd ⟨us,[]⟩=pure (ps.zip us)):Binds K fd ps []:=fun s us _ hl=>by
 rw [append_nil]at hl⊢;exact .of_eq (h us hl)
noncomputable def oO (CX:CXT)(X:Cx)(E:XK):Prop:=∀(pins:List (Addr×Obj))(σ:St)(H:Hp)(s:Shared)(e:Value)(s':Shared),Inv X pins σ H s->CX X.stack H s E e s'->X.xe e s'
section
variable {X:Cx}{CX:CXT}{k:Nat}{f C:Addr}{fd:FuncData}{ps:List Str}{sp:Sp}{dvs:List V}{ds:List Value}{E:XK}{x m:Str}{p pos apos:Pos}{e o:Expr}{es:List Expr}{ta:TE}{t:TA}
theorem A8u {pins:List (Addr×Obj)}{σ:St}{H:Hp}{s:Shared}{Q:VK}{us:List Value}{vs:List V}(F:gD X.prog X.w X.K X.mg X.base CX k f fd ps sp)(hr:Room k X.A)(hb:Binds X.K fd ps ds)(hd:Vals dvs ds)(hx:oO CX X E)
  (I:Inv X pins σ H s)(r:Vals vs us)(h:sp (vs++dvs) H Q E):wpAny (model X.prog X.w) X.A (call (.ref f) us) (EP X pins σ Q) X.xe s:=by
 have r2:Vals (vs++dvs) (us++ds):=r.append hd;have hl:(us++ds).length=ps.length:=by rw [←r2.length];exact F.len _ _ _ _ h
 refine wpAny_call (codeAny_mono (F.run X.A X.stack s H ⟨us,[]⟩ (us++ds) (vs++dvs) Q E hr I.env0 (hb s us I.kIn hl) r2 h) fun r s' hq=> ?_);cases r with
 |error e=>exact hx pins σ H s e s' I hq
 |ok fl=>
  cases fl with
  |ret u=>exact I.after hq
  |next=>exact False.elim hq
  |brk=>exact False.elim hq
  |cont=>exact False.elim hq
theorem A8x (F:gD X.prog X.w X.K X.mg X.base CX k f fd ps sp)(hr:Room k X.A)(hg:Gl X x)(hm:X.mg x=some (.ref f))(hk:W.keepIn X.K (.ref f)=true)(hb:Binds X.K fd ps ds)(hd:Vals dvs ds)(hx:oO CX X E)
  (ha:PA X (e::es) t)(hdb:(x==("__debug__":Str))=false:=by decide)(he:starEach (e::es) X.env=(false,eval e X.env)::starEach es X.env:=by rfl)(hpl:(backTo pos (starEach es X.env)).any (·.1)=false:=by rfl):
  PE X (.Call (.Name x p) (e::es) [] pos) (uM sp dvs E t):=by
 intro pins s σ H Q I h;refine wpAny_Call_Name_kw (vW I hg hm ?_ hdb);refine W.callWith_K (h₀:=X.base) I.ok.mod.kin hk (thn (ha pos pins s σ H _ I h) fun us s1 ⟨vs,H1,I1,r,q⟩=> ⟨I1.kIn,?_⟩) he hpl;exact A8u F hr hb hd hx I1 r q
end
section
variable {X:Cx}{CX:CXT}{k:Nat}{f C:Addr}{fd:FuncData}{ps ks:List Str}{sp:Sp}{E:XK}{x m:Str}{p pos apos kpos:Pos}{e o:Expr}{es:List Expr}{kws:List Keyword}{te ta:TE}{t tk:TA}{nm:Option Str}
variable {g:List Value->List Value->List Value}{gV:List V->List V->List V}
end
structure gK (N P:List Str)(sc:Scope):Prop where
 kind:sc.kind= .function
 co:sc.isCoroutine=false
 gen:sc.isGenerator=false
 nd:N.Nodup
 pre:N.take P.length=P
 par:∀x∈P,sc.names.lookup x=some .local\/sc.names.lookup x=some .cell
 nofree:∀y∈sc.names,y.2≠ .free
theorem xY {kindOf:Str->Option NameKind}{x:Str}:∀{binds:List (Str×Value)}{m:Str->Option Value},(∀v,(x,v)∉binds)->bindL kindOf binds m x=m x
 | [],_,_=>rfl
 | (n,v)::r,m,h=>by
  unfold bindL;rw [xY fun w hw=>h w (zjS _ hw)]
  split
  ·have:x≠n:=by rintro rfl;exact h v zjR
   simp [this]
  ·rfl
theorem xL {kindOf:Str->Option NameKind}{x:Str}:∀{binds:List (Str×Value)}{m:Str->Option Value},(∀v,(x,v)∉binds)->bindC kindOf binds m x=m x
 | [],_,_=>rfl
 | (n,v)::r,m,h=>by
  unfold bindC;rw [xL fun w hw=>h w (zjS _ hw)]
  split
  ·rfl
  ·have:x≠n:=by rintro rfl;exact h v zjR
   simp [this]
theorem uA {kindOf:Str->Option NameKind}{x:Str}{v:Value}:∀{P:List Str}{vs:List Value}{i:Nat}{m:Str->Option Value},P.Nodup->P[i]?=some x->vs[i]?=some v->kindOf x=some .local->
  bindL kindOf (P.zip vs) m x=some v
 | [],_,_,_,_,h,_,_=>by simp at h
 |_::_,[],_,_,_,_,h,_=>by simp at h
 |p::P,w::vs,0,m,nd,h1,h2,hk=>by
  simp at h1 h2;subst h1;subst h2;show bindL kindOf ((p,w)::P.zip vs) m p=_;unfold bindL;rw [xY fun v hv=>(nodup_cons.mp nd).1 (of_mem_zip hv).1,if_pos hk];simp
 |p::P,w::vs,i+1,m,nd,h1,h2,hk=>by
  show bindL kindOf ((p,w)::P.zip vs) m x=_;unfold bindL;exact uA (i:=i) (nodup_cons.mp nd).2 (by simpa using h1) (by simpa using h2) hk
theorem yJ {kindOf:Str->Option NameKind}{x:Str}{v:Value}:∀{P:List Str}{vs:List Value}{i:Nat}{m:Str->Option Value},P.Nodup->P[i]?=some x->vs[i]?=some v->kindOf x≠some .local->
  bindC kindOf (P.zip vs) m x=some v
 | [],_,_,_,_,h,_,_=>by simp at h
 |_::_,[],_,_,_,_,h,_=>by simp at h
 |p::P,w::vs,0,m,nd,h1,h2,hk=>by
  simp at h1 h2;subst h1;subst h2;show bindC kindOf ((p,w)::P.zip vs) m p=_;unfold bindC;rw [xL fun v hv=>(nodup_cons.mp nd).1 (of_mem_zip hv).1,if_neg hk];simp
 |p::P,w::vs,i+1,m,nd,h1,h2,hk=>by
  show bindC kindOf ((p,w)::P.zip vs) m x=_;unfold bindC;exact yJ (i:=i) (nodup_cons.mp nd).2 (by simpa using h1) (by simpa using h2) hk
noncomputable def start (N:List Str)(vs:List V):St:=vs.map some++replicate (N.length - vs.length) none
noncomputable def fH (CX:CXT)(P:Program)(w:World)(K:W.Frag)(mg:Str->Option Value)(base:Heap)(N:List Str)(qual:Str)(scope:Scope)(f:Addr)(cd:Value)(A:Around)(outer:List Env)(s:Shared)(H:Hp)(E:XK):Cx where
 prog:=P
 w:=w
 K:=K
 mg:=mg
 base:=base
 A:=A.deeper (envOfC qual scope s.heap.objs.size f cd)
 N:=N
 s₀:=s
 H₀:=H
 env:=envOfC qual scope s.heap.objs.size f cd
 outer:=outer
 stack:=envOfC qual scope s.heap.objs.size f cd::outer
 ex:=[]
 calm:=true
 fn:=fun _=>true
 pn:=[]
 xe:=fun e s'=>wpAny (model P w) (A.deeper (envOfC qual scope s.heap.objs.size f cd)) (leaving (envOfC qual scope s.heap.objs.size f cd) e) (fun _ s''=>CX outer H s E e s'') (fun e' s''=>CX outer H s E e' s'') s'
theorem zL {sc:Scope}{n:Nat}{x:Str}(h:sc.names.lookup x=some .cell):∃c,(cellsFrom n sc.names []).lookup x=some c:=by have q:=W.cellsFrom_some sc.names n [] (.inl h);exact Option.isSome_iff_exists.mp q
theorem A7t {CX:CXT}{P:Program}{w:World}{K:W.Frag}{mg:Str->Option Value}{base:Heap}{N ps:List Str}{qual:Str}{scope:Scope}{f:Addr}{cd:Value}{A:Around}{outer:List Env}{s s1:Shared}{H:Hp}{E:XK}{us:List Value}{vs:List V}
  (S:gK N ps scope)(hd:A.handled=none)(e0:mZ P w K mg base A outer s H)(hl:vs.length=ps.length)(r:Vals vs us)
  (x:InCallC s s.heap.objs.size (bindL (envOfC qual scope s.heap.objs.size f cd).kindOf (ps.zip us) fun _=>none) (cellsFrom (s.heap.objs.size+1) scope.names []) (bindC (envOfC qual scope s.heap.objs.size f cd).kindOf (ps.zip us) fun _=>none) s1):
  Inv (fH CX P w K mg base N qual scope f cd A outer s H E) [] (start N vs) H s1:=by
 have hpl:ps.length<=N.length:=by have:=congrArg List.length S.pre;rw [length_take]at this;omega
 obtain⟨h1,tk,rfl,hk⟩:=x.done;have noA:∀b:Addr,b∉(fH CX P w K mg base N qual scope f cd A outer s H E).ex:=fun b z=>absurd (show b∈([]:List Addr)from z) (by simp);refine⟨⟨e0.mod,S.kind,rfl,rfl,zjQ _,fun y z c h1 h2=> ?_,fun y hy=> ?_,fun y c _ h=> ?_,fun _=>hd,Around.frames_deeper e0.frames,.inr ⟨rfl,rfl⟩,fun b z=>absurd z (noA b),e0.bs,e0.bsz,fun b _ _=>noA b,fun b z=>absurd z (noA b),e0.funs,e0.frf⟩,
  rfl,e0.bare,Un.kept hk,⟨_,x.toInCall.ns,fun i y v h1 h2 h3=> ?_⟩,fun y c h=> ⟨_,x.cell y c h⟩,e0.hok.fresh (zjQ _),fun y c h=> ?_,fun p hp=>absurd (show p∈([]:List (Addr×Obj))from hp) (by simp),e0.hok.kept hk,?_⟩
 ·exact name_of_addr x.apart (PySem.mem_of_lookup h1) (PySem.mem_of_lookup h2)
 ·have hy:scope.names.lookup y=some .cell\/scope.names.lookup y=some .free:=hy;rcases hy with hy|hy
  ·exact zL hy
  ·exact absurd rfl (S.nofree _ (PySem.mem_of_lookup hy))
 ·exact le_of_lt (x.above y c (PySem.mem_of_lookup h))
 ·have hi:i<vs.length:=by
   unfold start at h2;by_cases hi:i<vs.length
   ·exact hi
   ·rw [getElem?_append_right (by simpa using hi)]at h2;rw [List.getElem?_replicate]at h2
    split at h2<;>cases h2
  have ha:vs[i]?=some v:=by
   unfold start at h2;rw [getElem?_append_left (by simpa using hi),getElem?_map]at h2;cases e:vs[i]? with
   |none=>rw [e]at h2;cases h2
   |some a=>rw [e]at h2;cases h2;rfl
  obtain⟨u,hu,rv⟩:=r.get ha;have hp:ps[i]?=some y:=by
   rw [←S.pre,List.getElem?_take_of_lt (by omega)];exact h1
  have ndP:ps.Nodup:=by rw [←S.pre];exact S.nd.sublist (take_sublist _ _)
  refine⟨u,rv,?_⟩;rcases S.par y (mem_of_getElem? hp)with k|k
  ·exact .inl ⟨k,uA ndP hp hu k⟩
  ·obtain⟨c,e⟩:=zL (n:=s.heap.objs.size+1) k;refine .inr ⟨.inl k,c,e,?_⟩;have q:=x.cell y c e;rw [yJ ndP hp hu (by show scope.names.lookup y≠_;rw [k];decide)]at q;exact q
 ·exact e0.hok.fresh (le_of_lt (x.above y c (PySem.mem_of_lookup h)))
 ·unfold start;show _=N.length;rw [length_append,length_map,List.length_replicate];omega
theorem A1v {CX:CXT}{P:Program}{w:World}{K:W.Frag}{mg:Str->Option Value}{base:Heap}{k:Nat}{f:Addr}{name qual:Str}{params:Arguments}{body:List Stmt}{scope:Scope}{dV kV doc pm cdv ct oc:Value}{an od:Option Addr}
  {osl:Array (Option Value)}{N ps:List Str}{sp:Sp}(lk:K.lookup f=some ⟨oc,od,.func (W.fnOf name qual params body scope dV kV doc pm an cdv ct),osl⟩)(hcd:W.codeIn K cdv qual=true)(S:gK N ps scope)
  (len:∀vs H Q E,sp vs H Q E->vs.length=ps.length)
  (hbody:∀(A:Around)(outer:List Env)(s:Shared)(H:Hp)(vs:List V)(Q:VK)(E:XK),Room k (A.deeper (envOfC qual scope s.heap.objs.size f cdv))->sp vs H Q E->
   ∃t,PSs (fH CX P w K mg base N qual scope f cdv A outer s H E) body t/\t {nx:=fun _ H'=>Q .non H',rt:=Q} (start N vs) H):
  gD P w K mg base CX (k+1) f (W.fnOf name qual params body scope dV kV doc pm an cdv ct) ps sp:=by
 refine⟨len,fun A outer s H args us vs Q E hr e0 hb r hsp=> ?_⟩;have hl:=len _ _ _ _ hsp;have KX:K.In s.heap:=e0.mod.kin.keeps fun b o e=>(e0.bs b o e).1;have lim:s.heap.NoLimit:=e0.mod.nolimit.keeps fun b o e=>(e0.bs b o e).1;have hkind:∀y∈ps.zip us,scope.names.lookup y.1=some .local\/(scope.names.lookup y.1=some .cell/\((cellsFrom (s.heap.objs.size+1) scope.names []).lookup y.1).isSome=true):=fun⟨n,v⟩ hy=>by
  rcases S.par n (of_mem_zip hy).1 with q|q
  ·exact .inl q
  ·exact .inr ⟨q,W.cellsFrom_some _ _ _ (.inl q)⟩
 refine codeAny_call_function hr.depth (KX _ _ lk) rfl S.co S.gen rfl (W.codeRec_of KX hcd) (hb _ _ _ _ ?_);refine wpAny_newFunctionEnv_cells S.kind hkind fun env he s1 x=> ?_;subst he;refine⟨lim.keeps x.toInCall.keep,codeAny_func ?_⟩;obtain⟨t,ht,hq⟩:=hbody A outer s H vs Q E (hr.deeper _) hsp;have I:Inv (fH CX P w K mg base N qual scope f cdv A outer s H E) [] (start N vs) H s1:=A7t S hr.hd e0 hl r x;refine wpAny_mono (ht [] s1 (start N vs) H _ I hq) (fun fl s' hs=> ?_) fun e s' hs=>hs;have fin:∀{σ':St}{H':Hp}{v:V}{u:Value},Inv (fH CX P w K mg base N qual scope f cdv A outer s H E) [] σ' H' s'->RelV v u->Q v H'->CE outer P w H s Q u s':=
  fun{σ' H' v u} J rv q=> ⟨v,H',J.os,J.bare,J.base,J.hok,rv,q⟩
 cases fl with
 |ret u=>
  obtain⟨v,σ',H',J,rv,q⟩:=hs;exact fin J rv q
 |next=>
  obtain⟨σ',H',J,q⟩:=hs;exact fin (v:=V.non) (u:=Value.none) J rfl q
 |brk=>
  obtain⟨_,_,_,q⟩:=hs;exact False.elim q
 |cont=>
  obtain⟨_,_,_,q⟩:=hs;exact False.elim q
section
variable {X:Cx}{x:Str}{p pos:Pos}{e:Expr}{es:List Expr}{t:TA}{id T:String}{r:List V->Hp->VK->Prop}
noncomputable def tCB (r:List V->Hp->VK->Prop)(t:TA):TE:=fun σ H Q=>t σ H fun vs H1=>r vs H1 Q
theorem bH (hc:dZ X (.builtin id) r)(hg:Gl X x)(hm:X.mg x=none)(hv:bootBuiltins x=some (.builtin id))(ha:PA X (e::es) t)(hn:x≠ "__name__":=by decide)(hdb:(x==("__debug__":Str))=false:=by decide)
  (he:starEach (e::es) X.env=(false,eval e X.env)::starEach es X.env:=by rfl)(hpl:(backTo pos (starEach es X.env)).any (·.1)=false:=by rfl):PE X (.Call (.Name x p) (e::es) [] pos) (tCB r t):=by
 intro pins s σ H Q I h;refine wpAny_Call_Name_kw (gL I hg hm hv ?_ hn hdb);exact PyProof.Rows.callWith_builtin1 (thn (ha pos pins s σ H _ I h) fun us s1 ⟨vs,H1,I1,r1,q1⟩=>hc pins s1 σ H1 vs us Q I1 r1 q1) he hpl
theorem fG (hc:dZ X (.type T) r)(hg:Gl X x)(hm:X.mg x=none)(hv:bootBuiltins x=some (.type T))(ha:PA X (e::es) t)(hn:x≠ "__name__":=by decide)(hdb:(x==("__debug__":Str))=false:=by decide)
  (he:starEach (e::es) X.env=(false,eval e X.env)::starEach es X.env:=by rfl)(hpl:(backTo pos (starEach es X.env)).any (·.1)=false:=by rfl):PE X (.Call (.Name x p) (e::es) [] pos) (tCB r t):=by
 intro pins s σ H Q I h;refine wpAny_Call_Name_kw (gL I hg hm hv ?_ hn hdb);exact PyProof.Rows.callWith_type1 (thn (ha pos pins s σ H _ I h) fun us s1 ⟨vs,H1,I1,r1,q1⟩=>hc pins s1 σ H1 vs us Q I1 r1 q1) he hpl
end
end L2
namespace HT
open PySem PyProof.Rows
noncomputable def lexLt:List Int->List Int->Bool
 | [],[]=>false
 | [],_::_=>true
 |_::_,[]=>false
 |x::xs,y::ys=>if x=y then lexLt xs ys else decide (x<y)
theorem lexLt_cons (x y:Int)(xs ys:List Int):lexLt (x::xs) (y::ys)=if x=y then lexLt xs ys else decide (x<y):=rfl
theorem B0n:lexLt [] []=false:=rfl
theorem A35 (y:Int)(ys:List Int):lexLt [] (y::ys)=true:=rfl
theorem B1a (x:Int)(xs:List Int):lexLt (x::xs) []=false:=rfl
theorem A7g (A:Around)(s:Shared)(a:Int)(t:Tok)(c:Int)(u:Tok):∃e,SeqAt.EqAt A s (.int a t) (.int c u) e/\(e=true↔a=c):=
 ⟨(a==c),SeqAt.EqAt.int_int a t c u,by simp⟩
theorem A2w (A:Around)(s:Shared)(a:Int)(t:Tok)(c:Int)(u:Tok)(prog:Program)(w:World)(E:Value->Shared->Prop)(Q:Value->Shared->Prop)(h:Q (.bool (decide (a<c))) s):
  wpAny (model prog w) A (richCompare .Lt (.int a t) (.int c u)) Q E s:=
 (PyProof.Rows.lt_int h:wpAny (model prog w) A (compareOp .Lt (.int a t) (.int c u)) Q E s)
section
open PySem.SeqAt
open PySem.AutoSeq1 (wpAny_loadPart')
open PySem.MeetsSeq PySem.MeetsSeq2 PySem.MeetsSeq3
theorem A26 (l b:Addr)(items items2:Array Value)(n n2:Nat)(dd dd2:Option Addr)(sl sl2:Array (Option Value))(ns ms:List Int)(hi:IntsAre items.toList ns)(hj:IntsAre items2.toList ms):
  Meets (Builtin.«tuple.__lt__» ⟨[.ref l,.ref b],[]⟩)
   (fun _ R s=>s.heap.get? l=some {cls:=.type "tuple",dict:=dd,data:=.seq items n,slots:=sl}/\s.heap.get? b=some {cls:=.type "tuple",dict:=dd2,data:=.seq items2 n2,slots:=sl2}/\
    R (.ok (.ret (.bool (lexLt ns ms)))) s):=
 .of_wp fun prog w A R s h=>by
  obtain⟨hp,g,d,tk,os⟩:=s;obtain⟨hl,hb,h⟩:=h;have f2:=AutoSeq1.sub_tuple_tuple;have z1:items.size=ns.length:=by rw [←hi.length];simp
  have z2:items2.size=ms.length:=by rw [←hj.length];simp
  wp_walk using wpAny_loadPart' hl,wpAny_loadPart' hb,wpAny_forIn_list _ (fun rest b s'=>b.1=none/\s'=⟨hp,g,d,tk,os⟩/\∃(vs ws:List Value)(ns' ms':List Int),rest=vs.zip ws/\
   IntsAre vs ns'/\IntsAre ws ms'/\ns'.length+items2.size=ms'.length+items.size/\R (.ok (.ret (.bool (lexLt ns' ms')))) ⟨hp,g,d,tk,os⟩) _
  case turn=>
   rintro⟨y,x⟩ rest b s' ⟨hb',rfl,vs,ws,ns',ms',hz,hvi,hwi,hlen,hR⟩;cases hvi with
   |nil=>rw [List.zip_nil_left]at hz;cases hz
   |cons a t hvi'=>
    cases hwi with
    |nil=>rw [List.zip_nil_right]at hz;cases hz
    |cons c u hwi'=>
     rw [zip_cons_cons]at hz;injection hz with hyx hrest
     injection hyx with hy hx;subst hy hx;rw [lexLt_cons]at hR;simp only [length_cons]at hlen;obtain⟨e,he,hiff⟩:=A7g A.in1 ⟨hp,g,d,tk,os⟩ a t c u;refine zjZ (he prog w _ _ ?_);cases e with
     |true=>
      rw [if_pos (hiff.mp rfl)]at hR
      wp_walk
      exact⟨rfl,rfl,_,_,_,_,hrest,hvi',hwi',by omega,hR⟩
     |false=>
      rw [if_neg (fun q=>absurd (hiff.mpr q) Bool.false_ne_true)]at hR;have hri:=A2w A.in1 ⟨hp,g,d,tk,os⟩ a t c u prog w
      wp_walk using hri
      exact⟨_,rfl,by simpa using hR⟩
  case fin=>
   rintro⟨b1,b2⟩ s' ⟨hb',rfl,vs,ws,ns',ms',hz,hvi,hwi,hlen,hR⟩;simp only at hb';subst hb';have hv:lexLt ns' ms'=decide (items.size<items2.size):=by
    cases hvi with
    |nil=>
     cases hwi with
     |nil=>
      simp only [length_nil]at hlen;rw [B0n];exact(zjU (by omega)).symm
     |cons c u hw=>
      simp only [length_nil,length_cons]at hlen;rw [A35];exact(zjV (by omega)).symm
    |cons a t hv=>
     cases hwi with
     |nil=>
      simp only [length_nil,length_cons]at hlen;rw [B1a];exact(zjU (by omega)).symm
     |cons c u hw=>
      rw [zip_cons_cons]at hz;cases hz
   rw [hv]at hR
   wp_walk
   exact⟨_,rfl,by simpa [Builtin.Tuple.tupleCompareSizes]using hR⟩
  case h=>
   exact⟨rfl,rfl,items.toList,items2.toList,ns,ms,rfl,hi,hj,by omega,h⟩
end
section
variable {prog:Program}{w:World}{A:Around}{E:Value->Shared->Prop}{s:Shared}
theorem lt_tupInts {l b:Addr}{items items2:Array Value}{ns ms:List Int}{Q:Value->Shared->Prop}(hl:IsTup s.heap l items)(hb:IsTup s.heap b items2)(hi:IntsAre items.toList ns)(hj:IntsAre items2.toList ms)
  (hu:A.units<cLine)(h:Q (.bool (lexLt ns ms)) s):wpAny (model prog w) A (compareOp .Lt (.ref l) (.ref b)) Q E s:=by
 obtain⟨⟨cls,dd,data,sl⟩,ho,hc,n,hd⟩:=id hl;obtain⟨⟨cls2,dd2,data2,sl2⟩,ho2,hc2,n2,hd2⟩:=id hb;simp only at hc hd hc2 hd2;subst hc hd hc2 hd2;exact richCompare_meets_room (op:=.Lt) ⟨_,ho,rfl⟩ ⟨_,ho2,rfl⟩ PySem.F.slot_tuple_lt PySem.F.entry_tuple_lt (PySem.F.args_tuple_lt_2 _ _) (A26 l b items items2 n n2 dd dd2 sl sl2 ns ms hi hj)
  ⟨ho,ho2,show Value.bool (lexLt ns ms)≠Value.notImplemented/\Q (.bool (lexLt ns ms)) s from⟨(fun x=>nomatch x),h⟩⟩ hu
theorem cat_tup {t b:Addr}{vs ws:List Value}{Q:Value->Shared->Prop}(ht:IsTup s.heap t vs.toArray)(hb:IsTup s.heap b ws.toArray)(hv:vs≠[])
  (h1:ws=[]->Q (.ref t) s)(h2:ws≠[]->Q (.ref s.heap.objs.size) {s with heap:=s.heap.push {cls:=.type "tuple",data:=.seq (vs++ws).toArray}})
  (hsz:vs.length+ws.length<=sizeLine):wpAny (model prog w) A (binaryOp .Add (.ref t) (.ref b)) Q E s:=by
 obtain⟨⟨cls,dd,data,sl⟩,ho,hc,n,hd⟩:=id ht;obtain⟨⟨cls2,dd2,data2,sl2⟩,ho2,hc2,n2,hd2⟩:=id hb;simp only at hc hd hc2 hd2;subst hc hd hc2 hd2;have e:vs.toArray++ws.toArray=(vs++ws).toArray:=by simp
 by_cases hw:ws=[]
 ·exact concat_meets ⟨_,ho,rfl⟩ ⟨_,ho2,rfl⟩ noFill_tuple_add seq_tuple_add PySem.F.slot_tuple_add PySem.F.entry_tuple_add (PySem.F.args_tuple_add_2 _ _)
   (tuple_addW1 t b vs.toArray ws.toArray n n2 dd dd2 sl sl2 (by simpa using hv) (by simp [hw])) ⟨ho,ho2,h1 hw⟩
 ·refine concat_meets ⟨_,ho,rfl⟩ ⟨_,ho2,rfl⟩ noFill_tuple_add seq_tuple_add PySem.F.slot_tuple_add PySem.F.entry_tuple_add (PySem.F.args_tuple_add_2 _ _)
   (tuple_addW2 t b vs.toArray ws.toArray n n2 dd dd2 sl sl2 (by simpa using hv) (by simpa using hw) (by rw [size_toArray,size_toArray];exact hsz)) ⟨ho,ho2,?_⟩
  rw [e];exact h2 hw
noncomputable def sIx (n d:Nat):Option Int->Nat
 |none=>d
 |some v=>if v<0 then(v+(n:Int)).toNat else min v.toNat n
theorem sIx_nat (n d k:Nat):sIx n d (some (k:Int))=min k n:=by show(if (k:Int)<0 then((k:Int)+(n:Int)).toNat else min (k:Int).toNat n)=min k n;rw [if_neg (by omega),Int.toNat_natCast]
end
end HT
namespace L2
open PySem PySem.Spec PyProof.Rows
noncomputable abbrev TO:=St->Hp->(Option Int->Hp->Prop)->Prop
noncomputable def PO (X:Cx)(e:Option Expr)(t:TO):Prop:=
 ∀(pins:List (Addr×Obj))(s:Shared)(σ:St)(H:Hp)(Q:Option Int->Hp->Prop),Inv X pins σ H s->t σ H Q->
  wpAny (model X.prog X.w) X.A (evalPart e X.env) (fun u s'=> ∃o H',Inv X pins σ H' s'/\IsPart u o/\Q o H') X.xe s
noncomputable def A8j:TO:=fun _ H Q=>Q none H
noncomputable def B0t (t:TE):TO:=fun σ H Q=>t σ H fun x H1=> ∃i,x= .int i/\Q (some i) H1
theorem A1a {ns:List Int}:∀{us:List Value},Vals (ns.map V.int) us->IntsAre us ns:=by
 induction ns with
 |nil=>intro us r;rw [map_nil]at r;cases r;exact .nil
 |cons n ns ih=>
  intro us r;rw [map_cons]at r;cases r with
  |cons r1 r2=>
   obtain⟨t,e⟩:=r1;subst e;exact .cons n t (ih r2)
section
variable {X:Cx}{e:Expr}{te:TE}{lo hi:Option Expr}{tl th:TO}{pos p2:Pos}
theorem nH:PO X none A8j:=by intro pins s σ H Q I h;rw [evalPart_none];exact zjY ⟨none,H,I,.none,h⟩
theorem hJ (h:PE X e te):PO X (some e) (B0t te):=by intro pins s σ H Q I hw;rw [evalPart_some];refine thn (h pins s σ H _ I hw) fun u s1 ⟨x,H1,I1,r1,q1⟩=> ?_;obtain⟨i,rfl,q⟩:=q1;obtain⟨t,rfl⟩:=r1;exact⟨some i,H1,I1,.int i t,q⟩
noncomputable def SlR (X:Cx)(r:V->Option Int->Option Int->Hp->VK->Prop):Prop:=
 ∀(pins:List (Addr×Obj))(s:Shared)(σ:St)(H:Hp)(x:V)(v vl vu:Value)(lo hi:Option Int)(sl:Addr)(Q:VK),Inv X pins σ H s->RelV x v->s.heap.IsSliceOf sl vl vu .none->IsPart vl lo->IsPart vu hi->r x lo hi H Q->
  ∃T id,typeLookup (.type T) "__getitem__" =pure (some (.builtin id))/\s.TypeIs v T/\wpAny (model X.prog X.w) X.A (getItem v (.ref sl)) (EP X pins σ Q) X.xe s
noncomputable def tSl (r:V->Option Int->Option Int->Hp->VK->Prop)(te:TE)(tl th:TO):TE:=fun σ H Q=>te σ H fun x H1=>tl σ H1 fun l H2=>th σ H2 fun u H3=>r x l u H3 Q
theorem iZ {r:V->Option Int->Option Int->Hp->VK->Prop}(hr:SlR X r)(he:PE X e te)(hl:PO X lo tl)(hu:PO X hi th):PE X (.Subscript e (.Slice lo hi none p2) pos) (tSl r te tl th):=by intro pins s σ H Q I h;refine Subscript_ (thn (he pins s σ H _ I h) fun v s1 ⟨x,H1,I1,r1,q1⟩=> ?_);refine wpAny_Slice (thn (hl pins s1 σ H1 _ I1 q1) fun vl s2 ⟨l,H2,I2,pl,q2⟩=>thn (hu pins s2 σ H2 _ I2 q2) fun vu s3 ⟨u,H3,I3,pu,q3⟩=> ?_);rw [evalPart_none];refine zjY ?_;have I4:Inv X pins σ H3 {s3 with heap:=s3.heap.push {cls:=.type "slice",data:=.fields #[vl,vu,.none]}}:=I3.kept (t':=s3.toks) fun b ob q=>zjX _ q;obtain⟨T,id,hT,ht,hg⟩:=hr pins {s3 with heap:=s3.heap.push {cls:=.type "slice",data:=.fields #[vl,vu,.none]}} σ H3 x v vl vu l u s3.heap.objs.size Q I4 r1 (Heap.IsSliceOf.new ..) pl pu q3;show wpAny (model X.prog X.w) X.A (subscriptTail e (.Slice lo hi none p2) v (.ref s3.heap.objs.size)) (EP X pins σ Q) X.xe {s3 with heap:=s3.heap.push {cls:=.type "slice",data:=.fields #[vl,vu,.none]}};exact tail_any (ops:=[.ref s3.heap.objs.size,v]) ht hT hg (by with_unfolding_all rfl)
noncomputable def cutV (xs:List V)(lo hi:Option Int):List V:=(xs.drop (HT.sIx xs.length 0 lo)).take (HT.sIx xs.length xs.length hi - HT.sIx xs.length 0 lo)
theorem kX (xs:List V)(lo hi:Option Int):(cutV xs lo hi).length<=xs.length:=by unfold cutV;rw [length_take,length_drop];omega
noncomputable def B0l (K:W.Frag):R2:=fun x y H Q=> ∃a b ns ms,x= .ref a/\y= .ref b/\SqT K H a (ns.map V.int)/\SqT K H b (ms.map V.int)/\Q (.bl (HT.lexLt ns ms)) H
theorem B1d (hu:X.A.units<cLine):OpR X (compareOp .Lt) (B0l X.K):=by intro pins s σ H x y v u Q I rx ry h;obtain⟨a,b,ns,ms,rfl,rfl,ha,hb,q⟩:=h;cases rx;cases ry;obtain⟨its,r1,p1,_⟩:=I.tuple ha;obtain⟨its2,r2,p2,_⟩:=I.tuple hb;have i1:IntsAre its.toArray.toList ns:=A1a r1;have i2:IntsAre its2.toArray.toList ms:=A1a r2;exact HT.lt_tupInts p1 p2 i1 i2 hu ⟨.bl (HT.lexLt ns ms),H,I,rfl,q⟩
theorem Vals.nil_iff {xs:List V}{us:List Value}(r:Vals xs us):us=[]↔xs=[]:=by
 cases r with
 |nil=>simp
 |cons _ _=>simp
end
noncomputable def ixN (n:Nat)(i:Int):Option Nat:=if 0<=i then(if i<n then some i.toNat else none)else if -(n:Int)<=i then some (i+n).toNat else none
noncomputable def atI {α:Type}(xs:List α)(i:Int):Option α:=(ixN xs.length i).bind fun j=>xs[j]?
theorem vB {n:Nat}{i:Int}{j:Nat}(h:ixN n i=some j):seqIndex? i n=some j/\j<n/\-(n:Int)<=i/\i<n:=by
 unfold ixN at h;by_cases h0:0<=i
 ·rw [if_pos h0]at h;by_cases h1:i<n
  ·rw [if_pos h1]at h;have e:i.toNat=j:=Option.some.inj h;exact⟨by rw [seqIndex_of h0 h1,e],by omega,by omega,h1⟩
  ·rw [if_neg h1]at h;cases h
 ·rw [if_neg h0]at h;by_cases h1:-(n:Int)<=i
  ·rw [if_pos h1]at h;have e:(i+n).toNat=j:=Option.some.inj h;exact⟨by rw [seqIndex_neg (by omega) h1,e],by omega,h1,by omega⟩
  ·rw [if_neg h1]at h;cases h
theorem kI {α:Type}{xs:List α}{i:Int}{v:α}(h:atI xs i=some v):∃j,seqIndex? i xs.length=some j/\xs[j]?=some v/\j<xs.length/\-(xs.length:Int)<=i/\i<xs.length:=by
 unfold atI at h;cases e:ixN xs.length i with
 |none=>rw [e]at h;cases h
 |some j=>
  rw [e]at h;obtain⟨h1,h2,h3,h4⟩:=vB e;exact⟨j,h1,h,h2,h3,h4⟩
theorem bR {α:Type}{xs:List α}{j:Nat}{v:α}(h:xs[j]?=some v):atI xs (j:Int)=some v:=by
 have hj:j<xs.length:=(zjW.mp h).1;have e:ixN xs.length (j:Int)=some j:=by
  unfold ixN;rw [if_pos (by omega),if_pos (by omega)];simp
 unfold atI;rw [e];exact h
noncomputable def B1r (b:Expr):Prop:=∀o i,subscripted b false o i=operate [o,i] (getItem o i)
noncomputable def IxR (X:Cx)(r:R2):Prop:=
 ∀(value slice:Expr)(pins:List (Addr×Obj))(s:Shared)(σ:St)(H:Hp)(x y:V)(v u:Value)(Q:VK),Inv X pins σ H s->RelV x v->RelV y u->r x y H Q->
  subscripted slice false v u=operate [v,u] (getItem v u)->wpAny (model X.prog X.w) X.A (subscriptTail value slice v u) (EP X pins σ Q) X.xe s
noncomputable def MtR (X:Cx)(id:String)(r:V->List V->Hp->VK->Prop):Prop:=
 ∀(pins:List (Addr×Obj))(s:Shared)(σ:St)(H:Hp)(x:V)(xs:List V)(v:Value)(us:List Value)(Q:VK),Inv X pins σ H s->RelV x v->Vals xs us->r x xs H Q->
  wpAny (model X.prog X.w) X.A (call (.builtin id) (v::us)) (EP X pins σ Q) X.xe s
section
variable {X:Cx}{a b:Expr}{ta tb:TE}{pos:Pos}
theorem bI {r:R2}(hr:IxR X r)(ha:PE X a ta)(hb:PE X b tb)(hs:B1r b):PE X (.Subscript a b pos) (tOp r ta tb):=by intro pins s σ H Q I h;exact Subscript_ (qS ha hb I h fun v u s2 x y H2 I2 rx ry q=>hr a b pins s2 σ H2 x y v u Q I2 rx ry q (hs _ _))
noncomputable def A20 (K:W.Frag):R2:=fun x y H Q=> ∃p xs i v,x= .ref p/\y= .int i/\SqL K H p xs/\atI xs i=some v/\Q v H
noncomputable def iI (K:W.Frag):R2:=fun x y H Q=> ∃p xs i v,x= .ref p/\y= .int i/\SqT K H p xs/\atI xs i=some v/\Q v H
theorem dM:IxR X (A20 X.K):=by
 intro value slice pins s σ H x y v u Q I rx ry h hs;obtain⟨p,xs,i,z,rfl,rfl,hq,he,q⟩:=h;cases rx;obtain⟨t,rfl⟩:=ry;obtain⟨its,r,pl,hz⟩:=I.list hq;obtain⟨j,h1,h2,h3,h4,h5⟩:=kI he;obtain⟨w,ew,rw'⟩:=r.get h2;have hl:=r.length;have hn:=lG;have fin:EP X pins σ Q w s:=⟨z,H,I,rw',q⟩;by_cases h0:0<=i
 ·have hj:i.toNat=j:=by
   rw [seqIndex_of h0 h5]at h1;exact Option.some.inj h1
  exact item_listR pl.isList h0 (by omega) (by rw [hj];simpa using ew) fin hs
 ·have hj:(i+(its.toArray.size:Int)).toNat=j:=by
   rw [seqIndex_neg (by omega) h4]at h1;rw [size_toArray,←hl];exact Option.some.inj h1
  exact subscriptTail_builtinR (x:=w) pl.isList.typeIs slot_list_getitem.lookup
   (wpAny_getItem_list_neg (Q:=fun r s'=>r=w/\EP X pins σ Q r s') pl.isList (by omega) (by rw [size_toArray]<;>omega) (by omega) (by rw [hj];simpa using ew) ⟨rfl,fin⟩) hs
theorem cB:IxR X (iI X.K):=by
 intro value slice pins s σ H x y v u Q I rx ry h hs;obtain⟨p,xs,i,z,rfl,rfl,hq,he,q⟩:=h;cases rx;obtain⟨t,rfl⟩:=ry;obtain⟨its,r,pl,hz⟩:=I.tuple hq;obtain⟨j,h1,h2,h3,h4,h5⟩:=kI he;obtain⟨w,ew,rw'⟩:=r.get h2;have hl:=r.length;have hn:=lG;have fin:EP X pins σ Q w s:=⟨z,H,I,rw',q⟩;exact subscriptTail_builtinR (x:=w) pl.typeIs slot_tuple_getitem.lookup
  (getItem_tuple (j:=j) (Q:=fun r s'=>r=w/\EP X pins σ Q r s') pl (by omega) (by omega) (by rw [size_toArray,←hl];exact h1) (by simpa using ew) ⟨rfl,fin⟩) hs
theorem A3s (its:List Value)(n j:Nat)(u:Value):Obj.mapSeq (·.setIfInBounds j u) {cls:=.type "list",data:=.seq its.toArray n}={cls:=.type "list",data:=.seq (its.set j u).toArray n}:=by simp [Obj.mapSeq]
theorem Inv.lst {pins:List (Addr×Obj)}{σ:St}{H:Hp}{s:Shared}{p:Addr}{xs:List V}(I:Inv X pins σ H s)(h:H p=some (.lst xs)):
  ∃(its:List Value)(n:Nat),Vals xs its/\s.heap.get? p=some {cls:=.type "list",data:=.seq its.toArray n}/\xs.length<=sizeLine:=by
 obtain⟨z,its,n,r,e⟩:=I.hok p _ h;exact⟨its,n,r,e,z⟩
theorem Inv.lstUpd {pins:List (Addr×Obj)}{σ:St}{H:Hp}{s:Shared}{p:Addr}{xs ys:List V}{its its':List Value}{n n':Nat}{f:Obj->Obj}(I:Inv X pins σ H s)(h:H p=some (.lst xs))
  (ho:s.heap.get? p=some {cls:=.type "list",data:=.seq its.toArray n})(hf:f {cls:=.type "list",data:=.seq its.toArray n}={cls:=.type "list",data:=.seq its'.toArray n'})(r:Vals ys its')(hz:ys.length<=sizeLine)(t:Nat):
  Inv X pins σ (upd H p (.lst ys)) {s with heap:=s.heap.update p f,toks:=t}:=by
 have e:(s.heap.update p f).get? p=some {cls:=.type "list",data:=.seq its'.toArray n'}:=by
  rw [get?_update_self f ho (by rw [hf]<;>rfl),hf]
 refine I.write (x:=p) (e:=p) (by rw [h];trivial) (.inl rfl) (fun b u hb q=>(get?_update_other _ _ (Ne.symm hb)).trans q) ⟨_,e⟩ ?_;exact⟨hz,its',n',r,e⟩
noncomputable def A8e:V->V->V->Hp->(Hp->Prop)->Prop:=fun o i v H Q=> ∃p xs k j,o= .ref p/\i= .int k/\H p=some (.lst xs)/\ixN xs.length k=some j/\Q (upd H p (.lst (xs.set j v)))
theorem rV:A0n X A8e:=by
 intro pins s σ H o i v ov iv u Q I ro ri rv h;obtain⟨p,xs,k,j,rfl,rfl,hp,hj,q⟩:=h;cases ro;obtain⟨t,rfl⟩:=ri;obtain⟨its,n,r,ho,hz⟩:=I.lst hp;obtain⟨h1,h2,h3,h4⟩:=vB hj;have hl:=r.length;have hn:=lG;have I':Inv X pins σ (upd H p (.lst (xs.set j v))) {s with heap:=s.heap.update p (Obj.mapSeq (·.setIfInBounds j u))}:=
  I.lstUpd hp ho (A3s its n j u) (r.set rv j) (by rw [List.length_set];exact hz) s.toks
 by_cases h0:0<=k
 ·have hk:k.toNat=j:=by
   rw [seqIndex_of h0 h4]at h1;exact Option.some.inj h1
  exact W.ki_setAt ho h0 (by omega) (by rw [size_toArray,←hl];exact h4) (by rw [hk];exact⟨_,I',q⟩)
 ·have hk:(k+(its.toArray.size:Int)).toNat=j:=by
   rw [seqIndex_neg (by omega) h3]at h1;rw [size_toArray,←hl];exact Option.some.inj h1
  exact W.ki_setBack ho (by omega) (by rw [size_toArray,←hl];exact h3) (by omega) (by rw [hk];exact⟨_,I',q⟩)
theorem A2h (lo hi:Option Int)(n:Nat):(sliceBounds lo hi none n).1=((HT.sIx n 0 lo:Nat):Int)/\(sliceBounds lo hi none n).2.1=((HT.sIx n n hi:Nat):Int)/\(sliceBounds lo hi none n).2.2=1:=by
 refine⟨?_,?_,rfl⟩
 ·cases lo with
  |none=>simp [sliceBounds,HT.sIx]
  |some i=>
   simp only [sliceBounds,HT.sIx,Option.getD_none,show(1:Int)>0 by decide,if_true];by_cases h:i<0
   ·simp only [h,if_true]<;>omega
   ·simp only [h,if_false]<;>omega
 ·cases hi with
  |none=>simp [sliceBounds,HT.sIx]
  |some i=>
   simp only [sliceBounds,HT.sIx,Option.getD_none,show(1:Int)>0 by decide,if_true];by_cases h:i<0
   ·simp only [h,if_true]<;>omega
   ·simp only [h,if_false]<;>omega
theorem A9m (its:List Value)(lo hi:Option Int):slicePick its.toArray lo hi none=((its.drop (HT.sIx its.length 0 lo)).take (HT.sIx its.length its.length hi - HT.sIx its.length 0 lo)).toArray:=by obtain⟨h1,h2,h3⟩:=A2h lo hi its.toArray.size;unfold slicePick;rw [h1,h2,h3];simp only [sliceRange_one,pick_run,size_toArray]<;>rfl
noncomputable def A2p (K:W.Frag):V->Option Int->Option Int->Hp->VK->Prop:=fun x lo hi H Q=> ∃a xs,x= .ref a/\SqL K H a xs/\∀p,H p=none->Q (.ref p) (upd H p (.lst (cutV xs lo hi)))
theorem jD:SlR X (A2p X.K):=by intro pins s σ H x v vl vu lo hi sl Q I rx hs pl pu h;obtain⟨a,xs,rfl,hx,q⟩:=h;cases rx;obtain⟨its,r,ht,hz⟩:=I.list hx;have hlen:=r.length;refine⟨"list",_,slot_list_getitem.lookup,ht.isList.typeIs,?_⟩;refine wpAny_getItem_list_slice ht.isList hs pl pu .none (by simp) ?_ (by rw [size_toArray]<;>omega);rw [A9m,←hlen];refine⟨.ref s.heap.objs.size,_,I.laid (t':=s.toks) (o:=.lst (cutV xs lo hi)) (fun b ob q=>zjX _ q) (zjQ _) ?_,rfl,q _ (I.hok.fresh (zjQ _))⟩;exact⟨le_trans (kX xs lo hi) hz,_,0,(r.drop (HT.sIx xs.length 0 lo)).take (HT.sIx xs.length xs.length hi - HT.sIx xs.length 0 lo),get?_push_size _ rfl⟩
theorem fE:dZ X (.builtin "len") (fun xs H Q=> ∃p ys,xs=[.ref p]/\(SqL X.K H p ys\/SqT X.K H p ys)/\Q (.int ys.length) H):=by
 intro pins s σ H xs us Q I r h;obtain⟨p,ys,rfl,hq,q⟩:=h;obtain⟨u,rfl,rx⟩:=eK r;cases rx;have hn:=lG;rcases hq with hq|hq
 ·obtain⟨its,r',pl,hz⟩:=I.list hq;have hlen:=r'.length;exact Calls.call_len_list pl.isList (by simp only [size_toArray]<;>omega) ⟨.int ys.length,H,I.tok _,⟨s.toks+1,by rw [size_toArray,hlen]⟩,q⟩
 ·obtain⟨its,r',pl,hz⟩:=I.tuple hq;have hlen:=r'.length;exact len_tuple pl (by simp only [size_toArray]<;>omega) ⟨.int ys.length,H,I.tok _,⟨s.toks+1,by rw [size_toArray,hlen]⟩,q⟩
theorem gF:dZ X (.type "tuple") (fun xs H Q=> ∃p ys,xs=[.ref p]/\((SqL X.K H p ys/\∀l,H l=none->Q (.ref l) (upd H l (.tup ys)))\/(SqT X.K H p ys/\Q (.ref p) H))):=by
 intro pins s σ H xs us Q I r h;obtain⟨p,ys,rfl,h⟩:=h;obtain⟨u,rfl,rx⟩:=eK r;cases rx;rcases h with⟨hq,q⟩| ⟨hq,q⟩
 ·obtain⟨its,r',pl,hz⟩:=I.list hq;have hlen:=r'.length;refine call_tuple_list pl.isList (fun h' kp=> ?_) (by simp only [size_toArray]<;>omega);have I1:Inv X pins σ H {s with heap:=h'}:=I.kept (t':=s.toks) kp;have I2:Inv X pins σ (upd H h'.objs.size (.tup ys)) {s with heap:=h'.push {cls:=.type "tuple",data:=.seq its.toArray}}:=
   I1.laid (t':=s.toks) (fun b o e=>zjX _ e) (zjQ _) (show ObjOk X.prog X.w _ _ _ (.tup ys)from⟨hz,its,r',IsTup.new _ _⟩)
  exact⟨.ref h'.objs.size,_,I2,rfl,q _ (I1.hok.fresh (zjQ _))⟩
 ·obtain⟨its,r',pl,hz⟩:=I.tuple hq;exact call_tuple_same pl ⟨.ref p,H,I,rfl,q⟩
noncomputable def tyV (K:W.Frag)(T:String)(x:V)(H:Hp):Prop:=match x with
 | .str _=>T= "str"
 | .int _=>T= "int"
 | .ref p=>(T= "list"/\∃xs,SqL K H p xs)\/(T= "tuple"/\∃o,K.lookup p=some o/\o.cls= .type "tuple"/\o.dict=none)\/
   (T= "dict"/\((∃kvs,H p=some (.dK kvs))\/ ∃kvs,H p=some (.dT kvs)))\/(T= "set"/\∃S n,H p=some (.set S n))
 |_=>False
theorem A3k {pins:List (Addr×Obj)}{σ:St}{H:Hp}{s:Shared}{T:String}{x:V}{v:Value}(I:Inv X pins σ H s)(r:RelV x v)(ty:tyV X.K T x H):
  s.TypeIs v T/\∀a,v= .ref a->∃ob,s.heap.get? a=some ob/\ob.dict=none:=by
 cases x with
 |str z=>
  obtain⟨t,rfl⟩:=r;cases (show T= "str" from ty);exact⟨typeIs_str s z t,fun _ e=>nomatch e⟩
 |int i=>
  obtain⟨t,rfl⟩:=r;cases (show T= "int" from ty);exact⟨typeIs_int s i t,fun _ e=>nomatch e⟩
 |ref p=>
  cases r;rcases ty with⟨rfl,xs,hq⟩| ⟨rfl,o,hk,hc,hd⟩| ⟨rfl,hk⟩| ⟨rfl,S,n,hk⟩
  ·obtain⟨its,_,pl,_⟩:=I.list hq;refine⟨pl.isList.typeIs,fun a e=> ?_⟩;cases e;obtain⟨o,n,e,c,hd,_⟩:=pl;exact⟨o,e,hd⟩
  ·refine⟨⟨o,I.kIn p o hk,hc⟩,fun a e=> ?_⟩;cases e;exact⟨o,I.kIn _ o hk,hd⟩
  ·have z:∃o,s.heap.get? p=some o/\o.ExactDict:=by
    rcases hk with⟨kvs,hk⟩| ⟨kvs,hk⟩
    ·obtain⟨_,_,_,_,o,_,_,e,ex,_⟩:=I.hok p _ hk;exact⟨o,e,ex⟩
    ·obtain⟨_,_,_,_,o,_,_,e,ex,_⟩:=I.hok p _ hk;exact⟨o,e,ex⟩
   obtain⟨o,e,ex⟩:=z;refine⟨⟨o,e,ex.1⟩,fun a e2=> ?_⟩;cases e2;exact⟨o,e,ex.2.1⟩
  ·obtain⟨o,_,_,_,e,ex,_⟩:=I.hok p _ hk;refine⟨⟨o,e,ex.1⟩,fun a e2=> ?_⟩;cases e2;exact⟨o,e,ex.2.1⟩
 |_=>exact False.elim ty
noncomputable def tBM (K:W.Frag)(T:String)(r:V->List V->Hp->VK->Prop)(to:TE)(t:TA):TE:=fun σ H Q=>to σ H fun x H1=>tyV K T x H1/\t σ H1 fun xs H2=>r x xs H2 Q
variable {o e:Expr}{es:List Expr}{to:TE}{t:TA}{name:Str}{apos cpos:Pos}{T id:String}{r:V->List V->Hp->VK->Prop}
theorem iK (pa:PlainAttrs T)(slot:Slot T name id)(hty:typeOf (.builtin id)=pure (.type "method_descriptor"))(hm:MtR X id r)(ho:PE X o to)(ha:PA X (e::es) t)
  (hbase:attributeBase o name X.env (eval o X.env)=eval o X.env:=by rfl)
  (hfew:((backTo cpos (starEach (e::es) X.env)).all (fun x=> !x.1)&&(backToKw cpos (keywordEach [] X.env)).all (fun x=>x.1.isSome)
   &&decide ((e::es).length+([]:List Keyword).length+(if ([]:List Keyword).isEmpty then 0 else 1)<30))=true:=by rfl)
  (hline:(apos.endLine==cpos.line)=true:=by rfl)(hs:starEach (e::es) X.env=(false,eval e X.env)::starEach es X.env:=by rfl)(hplain:(backTo cpos (starEach es X.env)).any (·.1)=false:=by rfl):
  PE X (.Call (.Attribute o name apos) (e::es) [] cpos) (tBM X.K T r to t):=by
 intro pins s σ H Q I h;refine wpAny_Call_method_late hbase hfew hline rfl (thn (ho pins s σ H _ I h) fun v s1 ⟨x,H1,I1,r1,ty,q1⟩=> ?_);obtain⟨h1,h2⟩:=A3k I1 r1 ty;refine⟨T,id,pa,slot,hty,h1,h2,?_⟩;have hA:=ha cpos pins s1 σ H1 _ I1 q1;rw [hs]at hA⊢;refine Calls.callWith_builtin (by show(false|| (backTo cpos (starEach es X.env)).any (·.1))=false;rw [hplain]<;>rfl) (Calls.evalArgs_plain ?_);exact thn hA fun us s2 ⟨vs,H2,I2,r2,q2⟩=>hm pins s2 σ H2 x vs v us Q I2 r1 r2 q2
/- xs.append(e),list.index on a module's tuple .. are MtR facts of 06m -/
end
noncomputable def MtM (X:Cx)(id:String)(r:V->List V->Hp->VK->Prop):Prop:=
 ∀(pins:List (Addr×Obj))(s:Shared)(σ:St)(H:Hp)(x:V)(xs:List V)(v:Value)(us:List Value)(Q:VK),Inv X pins σ H s->RelV x v->Vals xs us->r x xs H Q->
  wpAny (model X.prog X.w) X.A (call (.builtin id) (v::us)) (EP X pins σ Q) X.xe s
theorem Vals.one:∀{x:V}{us:List Value},Vals [x] us->∃u,us=[u]/\RelV x u
 |_,_,.cons r .nil=> ⟨_,rfl,r⟩
theorem Vals.two:∀{x y:V}{us:List Value},Vals [x,y] us->∃u v,us=[u,v]/\RelV x u/\RelV y v
 |_,_,_,.cons r (.cons q .nil)=> ⟨_,_,rfl,r,q⟩
theorem Vals.rep {xs:List V}{us:List Value}(h:Vals xs us):∀k:Nat,Vals (replicate k xs).flatten (replicate k us).flatten
 |0=> .nil
 |k+1=>by
  rw [replicate_succ,replicate_succ,flatten_cons,flatten_cons];exact Vals.append h (Vals.rep h k)
theorem A0o (its:List Value):∀(k:Nat)(acc:List Value),
  foldl (fun x1 x2=>x1++x2) acc.toArray (replicate k its.toArray)=(acc++(replicate k its).flatten).toArray
 |0,acc=>by simp
 |k+1,acc=>by
  have e:acc.toArray++its.toArray=(acc++its).toArray:=by simp
  have e2:(acc++its)++(replicate k its).flatten=acc++(replicate (k+1) its).flatten:=by
   rw [replicate_succ,flatten_cons,append_assoc]
  rw [←e2,←A0o its k (acc++its),←e,replicate_succ,foldl_cons]
section
variable {X:Cx}{pins:List (Addr×Obj)}{σ:St}{H:Hp}{s:Shared}{l b:Addr}{xs ys zs:List V}
theorem Inv.lset {its its':List Value}{n:Nat}{f:Array Value->Array Value}{t':Nat}(I:Inv X pins σ H s)(hH:H l=some (.lst xs))
  (e:s.heap.get? l=some {cls:=.type "list",data:=.seq its.toArray n})(hf:f its.toArray=its'.toArray)(hv:Vals ys its')(hz:ys.length<=sizeLine):
  Inv X pins σ (upd H l (.lst ys)) {s with heap:=s.heap.update l (Obj.mapSeq f),toks:=t'}:=by
 have q:=PySem.IsL.update e f;rw [hf]at q;refine I.write (x:=l) (e:=l) (by rw [hH];exact trivial) (.inl rfl) (fun b' u hb hu=>(get?_update_other s.heap (Obj.mapSeq f) (Ne.symm hb)).trans hu) ⟨_,q⟩ ?_;exact⟨hz,its',_,hv,q⟩
theorem Inv.lnew {its:List Value}{t':Nat}(I:Inv X pins σ H s)(hv:Vals ys its)(hz:ys.length<=sizeLine):
  Inv X pins σ (upd H s.heap.objs.size (.lst ys)) {s with heap:=s.heap.push {cls:=.type "list",data:=.seq its.toArray},toks:=t'}:=
 I.laid (fun _ _ q=>zjX _ q) (zjQ _) ⟨hz,its,0,hv,get?_push_size _ rfl⟩
theorem Inv.fresh (I:Inv X pins σ H s):H s.heap.objs.size=none:=I.hok.fresh (zjQ _)
theorem Inv.lstM (I:Inv X pins σ H s)(hH:H l=some (.lst xs)):xs.length<=sizeLine/\∃(its:List Value)(n:Nat),Vals xs its/\xs.length=its.length/\s.heap.get? l=some {cls:=.type "list",data:=.seq its.toArray n}:=by obtain⟨z,its,n,r,e⟩:=I.hok l _ hH;exact⟨z,its,n,r,r.length,e⟩
theorem tL {n:Nat}(h:n<=sizeLine):Builtin.List.listTooLong n=false:=by unfold Builtin.List.listTooLong;exact zjU (by omega)
end
section
variable {X:Cx}
noncomputable def A7d:V->List V->Hp->VK->Prop:=fun x vs H Q=> ∃l xs y,x= .ref l/\vs=[y]/\H l=some (.lst xs)/\xs.length<sizeLine/\Q .non (upd H l (.lst (xs++[y])))
theorem kJ:MtM X "list.append" A7d:=by intro pins s σ H x vs v us Q I rx rv h;obtain⟨l,xs,y,rfl,rfl,hH,hz,q⟩:=h;cases rx;obtain⟨u,rfl,ru⟩:=rv.one;obtain⟨z,its,n,r,hl,e⟩:=I.lstM hH;refine call_meets F.slot_list_append ⟨_,e,rfl⟩ F.entry_list_append (F.args_list_append_2 _ _) (PySem.list_append l its.toArray n u (by rw [size_toArray];omega)) ⟨e,?_⟩;refine⟨.non,_,I.lset (its':=its++[u]) hH e (by simp) (r.append (.cons ru .nil)) ?_,rfl,q⟩;rw [length_append,length_singleton];omega
noncomputable def A7b:V->List V->Hp->VK->Prop:=fun x vs H Q=> ∃l b xs zs,x= .ref l/\vs=[.ref b]/\H l=some (.lst xs)/\H b=some (.lst zs)/\xs.length+zs.length<=sizeLine/\Q .non (upd H l (.lst (xs++zs)))
theorem pP:MtM X "list.extend" A7b:=by
 intro pins s σ H x vs v us Q I rx rv h;obtain⟨l,b,xs,zs,rfl,rfl,hH,hB,hz,q⟩:=h;cases rx;obtain⟨u,rfl,ru⟩:=rv.one;cases ru;obtain⟨z,its,n,r,hl,e⟩:=I.lstM hH;obtain⟨z2,its2,n2,r2,hl2,e2⟩:=I.lstM hB;have hsz:its.toArray.size+its2.toArray.size<=sizeLine:=by rw [size_toArray,size_toArray];omega
 have hlong:¬(!its.toArray.isEmpty&&Builtin.List.listTooLong (its.toArray.size+its2.toArray.size))=true:=by
  rw [tL hsz,Bool.and_false];exact Bool.false_ne_true
 refine call_meets F.slot_list_extend ⟨_,e,rfl⟩ F.entry_list_extend (F.args_list_extend_2 _ _)
  (AutoSeq1.list_extend_list_list_0 l its.toArray n b its2.toArray n2 hlong (by rw [size_toArray];omega) (by omega)) ⟨e,e2,?_⟩
 refine⟨.non,_,I.lset (its':=its++its2) hH e (by simp) (r.append r2) ?_,rfl,q⟩;rw [length_append];omega
noncomputable def A6d:R2:=fun x y H Q=> ∃l b xs zs,x= .ref l/\y= .ref b/\H l=some (.lst xs)/\H b=some (.lst zs)/\xs.length+zs.length<=sizeLine/\∀p,H p=none->Q (.ref p) (upd H p (.lst (xs++zs)))
theorem nM:OpR X (binaryOp .Add) A6d:=by
 intro pins s σ H x y v u Q I rx ry h;obtain⟨l,b,xs,zs,rfl,rfl,hH,hB,hz,q⟩:=h;cases rx;cases ry;obtain⟨z,its,n,r,hl,e⟩:=I.lstM hH;obtain⟨z2,its2,n2,r2,hl2,e2⟩:=I.lstM hB;refine PySem.P.add_list e e2 ?_ (by rw [size_toArray,size_toArray];omega);have ea:its.toArray++its2.toArray=(its++its2).toArray:=by simp
 rw [ea];exact⟨.ref _,_,I.lnew (t':=s.toks) (r.append r2) (by rw [length_append];omega),rfl,q _ I.fresh⟩
noncomputable def A9f:R2:=fun x y H Q=> ∃l k xs,x= .ref l/\y= .int k/\H l=some (.lst xs)/\-(2^63)<=k/\k<2^63/\xs.length*k.toNat<=sizeLine/\
 ∀p,H p=none->Q (.ref p) (upd H p (.lst (replicate k.toNat xs).flatten))
theorem A15 {α:Type}(xs:List α)(k:Nat):(replicate k xs).flatten.length=k*xs.length:=by
 induction k with
 |zero=>simp
 |succ k ih=>rw [replicate_succ,flatten_cons,length_append,ih,Nat.succ_mul,Nat.add_comm]
theorem xR:OpR X (binaryOp .Mult) A9f:=by
 intro pins s σ H x y v u Q I rx ry h;obtain⟨l,k,xs,rfl,rfl,hH,h1,h2,hz,q⟩:=h;cases rx;obtain⟨t,rfl⟩:=ry;obtain⟨z,its,n,r,hl,e⟩:=I.lstM hH;have hlen:its.toArray.size*k.toNat<=sizeLine:=by rw [size_toArray,←hl];exact hz
 have hcap:¬its.toArray.size*k.toNat>(2^63 - 1)/8:=by
  have:(sizeLine:Nat)<=(2^63 - 1)/8:=by decide
  omega
 have hfit:¬(!Builtin.List.listFitsIndex k)=true:=by
  rw [fitsIndex_both h1 h2];exact Bool.false_ne_true
 have hlong:¬Builtin.List.listTooLong (its.toArray.size*k.toNat)=true:=by
  rw [tL hlen];exact Bool.false_ne_true
 have hnew:foldl (fun x1 x2=>x1++x2) #[] (replicate (if its.toArray.isEmpty=true then 0 else k.toNat) its.toArray)=(replicate k.toNat its).flatten.toArray:=by
  have f0:∀m:Nat,foldl (fun x1 x2=>x1++x2) #[] (replicate m its.toArray)=(replicate m its).flatten.toArray:=fun m=>by
   have:=A0o its m [];rw [nil_append]at this;exact this
  rw [f0];cases its with
  |nil=>simp
  |cons a r'=>rw [if_neg (by simp)]
 refine wpAny_binaryOp_repeat_ref (T:="list") (U:="int") (by decide) ⟨_,e,rfl⟩ (fun s'=>typeIs_int s' k t) noFill_list_mul F.fills_int_mul F.slot_int_rmul repeat_list F.slot_int_index.lookup
  (call_meets F.slot_int_rmul (typeIs_int s k t) F.entry_int_rmul (F.args_int_rmul_2 _ _) (int___rmul___int_list k t l its.toArray n)
   ⟨e,rfl,⟨_,e,rfl⟩,call_meets F.slot_list_mul ⟨_,e,rfl⟩ F.entry_list_mul (F.args_list_mul_2 _ _) (AutoListH.list___mul___list_int_3 l its.toArray n k t hfit hcap hlong) ⟨e,?_⟩⟩)
 rw [hnew];exact⟨.ref _,_,I.lnew (t':=s.toks) (r.rep k.toNat) (by rw [A15,mul_comm];exact hz),rfl,q _ I.fresh⟩
end
section
variable {prog:Program}{w:World}{A:Around}{E:Value->Shared->Prop}{s:Shared}
set_option maxRecDepth 100000 in
end
section
variable {X:Cx}
end
end L2
namespace Att
open PySem PySem.W PySem.Calls PyProof.Rows
theorem A1q {P:Params}{h:Heap}:∀(ns:List Int)(vs:List Value),WellAll P h vs (ns.map WData.int)->IntsAre vs ns:=by
 intro ns
 induction ns with
 |nil=>
  intro vs w;rw [map_nil]at w;cases w;exact .nil
 |cons n ns ih=>
  intro vs w;rw [map_cons]at w;cases w with
  |cons a b=>
   cases a;exact .cons _ _ (ih _ b)
theorem A31 {l:OpenLaw}{n:Nat}(hn:l.most=some n){P:Params}{h:Heap}{args:List WData}{vals:List Value}
  (hpre:l.row.toRowW.claim.pre args=true)(hwl:WellAll P h vals args):
  ∃a vs ns,vals=[Value.ref a]/\args=[WData.list (ns.map WData.int)]/\h.get? a=some {cls:=.type "list",data:=.seq vs.toArray}/\IntsAre vs ns/\ns.length<=n:=by
 have hsh:WShape.hasAll [] args [.list .int]=true:=(pre_splitW hpre).1;have hc:l.pre.holds [] {args:=args}=true:=(pre_splitW hpre).2;obtain⟨d,r,rfl,h1,h2⟩:=hasAllW_cons hsh;obtain rfl:=hasAllW_nil h2;obtain⟨xs,rfl,h3⟩:=hasW_list h1;obtain⟨ns,rfl⟩:=items_int h3;have hlen:ns.length<=n:=by
  unfold OpenLaw.pre at hc;have h4:(WTm.not (.lt (.lit (.int (n:Int))) (.len (.arg 0)))).holds [] {args:=[.list (ns.map .int)]}=true:=by
   have h4:=(holds_andW hc).1;rw [hn]at h4;exact h4
  have h5:=condW_of h4 (w_not (w_lt w_lit (w_len_list (w_arg rfl))));rw [length_map]at h5;refine Nat.le_of_not_lt fun q=> ?_;have q':(n:Int)<((ns.length:Nat):Int):=by omega
  first
   | (rw [zjV q']at h5;exact absurd h5 (by decide))
   | (simp at h5;omega)
 cases hwl with
 |cons w1 w2=>
  cases w2;cases w1 with
  |list ho hall=>exact⟨_,_,ns,rfl,rfl,ho,A1q ns _ hall,hlen⟩
theorem A9a (l:OpenLaw)(args:List WData):l.row.toRowW.claim.post args (.bool true) args=true:=
 postW_of (r:=l.row.toRowW) (X:=(true==true))
  (show WShape.has [] (.bool true) .bool=true by first|rfl|decide|simp [WShape.has,WShape.arms,WShape.armsAll])
  (show(WTm.eq .res (.lit (.bool true))).value [] {args:=args,res:=some (.bool true),after:=args}=some (.bool (true==true))from w_eq_bool (w_res rfl) w_lit) rfl
theorem attach_call {l:OpenLaw}{n:Nat}{q:Program}{loose:List Str}{XP:(Str->Option Value)->Heap->Prop}{YP:World->Heap->Prop}{d:DefRec}
  (hn:l.most=some n)(hdf:d.params.defaults=[])
  (call:∀(w:World)(s₀ s₁:Shared)(mg mb:Str->Option Value)(fa:Addr)(o:Obj)(pm cd doc:Value)(a:Addr)(vs:List Value)(ns:List Int),
   Ground q loose [] XP w s₀ mg mb s₁.heap->YP w s₁.heap->
   s₁.heap.get? fa=some o->o.data= .func (docDef d.name d.params d.body d.scope pm cd doc)->s₁.heap.CodeRec cd d.name->mg d.name=some (.ref fa)->
   s₁.heap.get? a=some {cls:=.type "list",data:=.seq vs.toArray}->IntsAre vs ns->ns.length<=n->s₁.gens= #[]->
   codeAny (model l.prog w) callerA (.call (.ref fa) ⟨[.ref a],[]⟩) (fun r s'=>r= .ok (.ret (.bool true))/\OldK s₁.heap s'.heap/\s'.os=s₁.os/\AllBare s'.gens) s₁):
  WalkO q loose XP YP l.row.toRowW d [] (fun f vs=>PySem.call f vs):=by
 intro w s₀ s₁ mg mb G Y fa o pm cd doc dV kV ho hd hcd hD hmg hg args vals as hpre hlay hrd hwl hlo;obtain rfl:dV= .none:=Dflts.none hD hdf;obtain rfl:kV= .none:=Dflts.noKw hD;obtain⟨a,vs,ns,rfl,rfl,hobj,hints,hlen⟩:=A31 hn hpre hwl;refine enter_call (codeAny_mono (call w s₀ s₁ mg mb fa o pm cd doc a vs ns G Y ho (fd_plain hd) hcd hmg hobj hints hlen hg) fun r s' hq=> ?_);obtain⟨rfl,h2,h3,h4⟩:=hq;exact⟨.inl ⟨.bool true,.bool true,[],rfl,fun _=>rfl,.bool true,A9a l _,fun _=> ⟨List.Pairwise.nil,fun _ hm=>(nomatch hm)⟩⟩,h2,h3,h4⟩
section
variable {prog:Program}{w:World}{A:Around}{E:Value->Shared->Prop}{s:Shared}{K:Frag}
noncomputable def ledger (h:Heap)(L d:Addr):List (Addr×Obj):=(List.range h.objs.size).filterMap fun a=>if a=L\/a=d then none else(h.get? a).map fun o=>(a,o)
end
end Att
namespace L2
open PySem PySem.Spec PyProof.Rows
theorem A0q:∀{vs:List Value}{ns:List Int},IntsAre vs ns->Vals (ns.map V.int) vs
 |_,_,.nil=> .nil
 |_,_,.cons n t h=> .cons ⟨t,rfl⟩ (A0q h)
noncomputable def sV (H:Hp):Prop:=∀b,H b=none\/ ∃o xs,H b=some (.frz o (.lst xs))
theorem A5n {P:Program}{w:World}{K:W.Frag}{mg mb:Str->Option Value}{CX:CXT}{k:Nat}{fa a:Addr}{fd:FuncData}{x:Str}{sp:Sp}{s₁:Shared}{vs:List Value}{ns:List Int}
  (KX:K.In s₁.heap)(hns:s₁.heap.Ns mainGlobals mg)(hb:s₁.heap.Ns builtinsNs mb)(hbb:∀x:Str,x≠ "__name__"->mb x=bootBuiltins x)(hlim:s₁.heap.NoLimit)(hg:s₁.gens= #[])
  (ha:s₁.heap.get? a=some {cls:=.type "list",data:=.seq vs.toArray})(hi:IntsAre vs ns)(hl:ns.length<=sizeLine)(hr:Room k callerA)
  (F:∀base:Heap,K.In base->base.Ns mainGlobals mg->gD P w K mg base CX k fa fd [x] sp)(hbind:∀(s:Shared)(u:Value),BindsTo s fd ⟨[u],[]⟩ [(x,u)])
  (hsp:∀H:Hp,sV H->SqL K H a (ns.map V.int)->sp [.ref a] H (fun v _=>v= .bl true) fun _ _ _=>False)
  (hCX:∀H e s',CX [] H s₁ (fun _ _ _=>False) e s'->False):
  codeAny (model P w) callerA (.call (.ref fa) ⟨[.ref a],[]⟩) (fun r s'=>r= .ok (.ret (.bool true))/\OldK s₁.heap s'.heap/\s'.os=s₁.os/\AllBare s'.gens) s₁:=by
 have rv:=A0q hi;have lenV:=hi.length;have core:∀H:Hp,sV H->SqL K H a (ns.map V.int)->HOk P w H s₁.heap->(∀b,H b≠none->b=a)->(H a≠none->K.lookup a=none)->
   codeAny (model P w) callerA (.call (.ref fa) ⟨[.ref a],[]⟩) (fun r s'=>r= .ok (.ret (.bool true))/\OldK s₁.heap s'.heap/\s'.os=s₁.os/\AllBare s'.gens) s₁:=by
  intro H hO hS hok hA hK;have base_of:∀{b:Addr}{o:Obj},s₁.heap.get? b=some o->H b=none->(gI s₁.heap H).get? b=some o:=fun e n=>B1h e n;have noA:∀{b:Addr}{o:Obj}{es:Array DictEntry}{ep:Nat},s₁.heap.get? b=some o->o.data= .dict es ep->H b=none:=fun{b o es ep} e d=>by
   cases q:H b with
   |none=>rfl
   |some u=>
    have e':b=a:=hA b (by rw [q];simp);subst e';rw [ha]at e;cases e;have d':Data.seq vs.toArray _=Data.dict es ep:=d;cases d'
  have nsK:∀{b:Addr}{m:Str->Option Value},s₁.heap.Ns b m->(gI s₁.heap H).Ns b m:=fun{b m} ⟨o,es,ep,e,d,r⟩=> ⟨o,es,ep,base_of e (noA e d),d,r⟩;have hKb:K.In (gI s₁.heap H):=fun b o e=>base_of (KX b o e) (by
   cases q:H b with
   |none=>rfl
   |some u=>
    have e':b=a:=hA b (by rw [q];simp);subst e';rw [hK (by rw [q];simp)]at e;cases e)
  have hM:Mod K mg (gI s₁.heap H):=⟨hKb,nsK hns,⟨mb,nsK hb,hbb⟩,let ⟨mc,h1,h2⟩:=hlim;⟨mc,nsK h1,h2⟩⟩;have e0:mZ P w K mg (gI s₁.heap H) callerA [] s₁ H:=⟨rfl,hM,fun b o e=>A37 e,le_of_eq (A5w _ _),trivial,fun b hb=>absurd (show b∈([]:List Addr)from hb) (by simp),hok,.of_eq hg⟩;refine codeAny_mono ((F _ hKb (nsK hns)).run callerA [] s₁ H ⟨[.ref a],[]⟩ [.ref a] [.ref a] _ _ hr e0 (hbind s₁ (.ref a)) (.cons rfl .nil) (hsp H hO hS)) fun r s' h=> ?_;cases r with
  |error e=>exact(hCX H e s' h).elim
  |ok fl=>
   cases fl with
   |next=>exact False.elim h
   |brk=>exact False.elim h
   |cont=>exact False.elim h
   |ret u=>
    obtain⟨v,H',os,bare,un,hok',r',q⟩:=h;have q':v= .bl true:=q;subst q';obtain rfl:u=Value.bool true:=r';refine⟨rfl,OldK.of_keep fun b o e=> ?_,os,bare⟩;cases q:H b with
    |none=>exact un.keep b o e q (by intro z;exact absurd (show b∈([]:List Addr)from z) (by simp)) (by simp)
    |some u=>
     rcases hO b with z| ⟨ob,xs,z⟩
     ·rw [q]at z;cases z
     ·have z2:=un.frzs b ob _ z;obtain⟨e1,_⟩:=hok b _ z;obtain⟨e2,_⟩:=hok' b _ z2;rw [e]at e1;cases e1;exact e2
 cases hk:K.lookup a with
 |some o=>
  have e:=KX a o hk;rw [ha]at e;cases e;refine core (fun _=>none) (fun _=> .inl rfl) (.inr ⟨_,vs.toArray,_,hk,rfl,rfl,rfl,by rw [size_toArray,lenV];exact hl,by simpa using rv⟩) (fun b u z=>by have z':(none:Option HO)=some u:=z;cases z') (fun b z=>absurd rfl z) fun z=>absurd rfl z
 |none=>
  refine core (fun b=>if b=a then some (.frz {cls:=.type "list",data:=.seq vs.toArray} (.lst (ns.map V.int)))else none) (fun b=> ?_) (.inl (.inr ⟨{cls:=.type "list",data:=.seq vs.toArray},if_pos rfl⟩)) (fun b u z=> ?_) (fun b z=> ?_) fun _=>hk
  ·by_cases hb:b=a
   ·exact .inr ⟨_,_,if_pos hb⟩
   ·exact .inl (if_neg hb)
  ·by_cases hb:b=a
   ·have z':=(if_pos hb).symm.trans z;cases z';subst hb;exact⟨ha,by rw [length_map];exact hl,vs,_,rv,ha⟩
   ·have z':=(if_neg hb).symm.trans z;cases z'
  ·by_cases hb:b=a
   ·exact hb
   ·exact absurd (if_neg hb) z
theorem walk_of {l:W.OpenLaw}{n k:Nat}{q:Program}{loose:List Str}{XP:(Str->Option Value)->Heap->Prop}{YP:World->Heap->Prop}{d:DefRec}{K:Params->W.Frag}{CX:World->CXT}{sp:World->Sp}{x:Str}
  (hn:l.most=some n)(hn2:n<=sizeLine)(hdf:d.params.defaults=[])(hr:Room k callerA)
  (hY:∀(w:World)(h:Heap),YP w h->(K w.params).In h)
  (F:∀(w:World)(mg:Str->Option Value)(fa:Addr)(h:Heap),(K w.params).In h->h.Ns mainGlobals mg->mg d.name=some (.ref fa)->
   ∃fd:FuncData,(∀(s:Shared)(u:Value),BindsTo s fd ⟨[u],[]⟩ [(x,u)])/\
    ∀base:Heap,(K w.params).In base->base.Ns mainGlobals mg->gD l.prog w (K w.params) mg base (CX w) k fa fd [x] (sp w))
  (hsp:∀(w:World)(H:Hp)(a:Addr)(ns:List Int),ns.length<=n->sV H->SqL (K w.params) H a (ns.map V.int)->sp w [.ref a] H (fun v _=>v= .bl true) fun _ _ _=>False)
  (hCX:∀(w:World)(H:Hp)(s:Shared)(e:Value)(s':Shared),CX w [] H s (fun _ _ _=>False) e s'->False):
  W.WalkO q loose XP YP l.row.toRowW d [] (fun f vs=>PySem.call f vs):=by
 refine Att.attach_call hn hdf fun w s₀ s₁ mg mb fa o pm cd doc a vs ns G Y ho hd hcd hmg hobj hints hlen hg=> ?_;have KX:=hY w _ Y;obtain⟨fd,hb,hF⟩:=F w mg fa _ KX G.T.g hmg;exact A5n KX G.T.g G.T.b G.T.builtins G.T.nolimit hg hobj hints (le_trans hlen hn2) hr hF hb (fun H hO hS=>hsp w H a ns hlen hO hS) fun H e s'=>hCX w H s₁ e s'
noncomputable def iF (s:Stmt):Arguments:=match s with
 | .FunctionDef _ a _ _ _ _ _ _ _ _=>a
 |_=> {posonlyargs:=[],args:=[],vararg:=none,kwonlyargs:=[],kw_defaults:=[],kwarg:=none,defaults:=[]}
noncomputable def cR (s:Stmt):List Stmt:=match s with
 | .FunctionDef _ _ b _ _ _ _ _ _ _=>b
 |_=> []
noncomputable def bC (s:Stmt):Scope:=match s with
 | .FunctionDef _ _ _ _ _ _ sc _ _ _=>sc
 |_=> {kind:=.function,names:=[],isGenerator:=false,isCoroutine:=false}
noncomputable abbrev CX0:CXT:=fun _ _ _ _ _ _=>False
noncomputable abbrev E0:XK:=fun _ _ _=>False
theorem A2d {X:Cx}:oO CX0 X E0:=fun _ _ _ _ _ _ _ h=>h.elim
structure Fun (K:W.Frag)(x qual:Str)(st:Stmt)(f:Addr)(fd:FuncData):Prop where
 ex:∃(oc:Value)(od:Option Addr)(kV doc pm:Value)(an:Option Addr)(cdv ct:Value)(osl:Array (Option Value)),
  fd=W.fnOf x qual (iF st) (cR st) (bC st) .none kV doc pm an cdv ct/\K.lookup f=some ⟨oc,od,.func fd,osl⟩/\W.codeIn K cdv qual=true
 kp:W.keepIn K (.ref f)=true
section
variable {P:Program}{w:World}{K:W.Frag}{mg:Str->Option Value}{base:Heap}
theorem Fun.ok {x qual:Str}{st:Stmt}{f:Addr}{fd:FuncData}{N ps:List Str}{k:Nat}{sp:Sp}(F:Fun K x qual st f fd)(S:gK N ps (bC st))(len:∀vs H Q E,sp vs H Q E->vs.length=ps.length)
  (hbody:∀(cdv:Value)(A:Around)(outer:List Env)(s:Shared)(H:Hp)(vs:List V)(Q:VK)(E:XK),Room k (A.deeper (envOfC qual (bC st) s.heap.objs.size f cdv))->sp vs H Q E->
   ∃t,PSs (fH CX0 P w K mg base N qual (bC st) f cdv A outer s H E).nox (cR st) t/\t {nx:=fun _ H'=>Q .non H',rt:=Q} (start N vs) H):gD P w K mg base CX0 (k+1) f fd ps sp:=by
 obtain⟨oc,od,kV,doc,pm,an,cdv,ct,osl,rfl,lk,hcd⟩:=F.ex;refine A1v lk hcd S len fun A outer s H vs Q E hr hsp=> ?_;obtain⟨t,h,q⟩:=hbody cdv A outer s H vs Q E hr hsp;exact⟨t,h.nox,q⟩
theorem Fun.binds {x qual:Str}{st:Stmt}{f:Addr}{fd:FuncData}{ps:List Str}(F:Fun K x qual st f fd)
  (h:∀(kV doc pm:Value)(an:Option Addr)(cdv ct:Value)(us:List Value),us.length=ps.length->bindArgs (W.fnOf x qual (iF st) (cR st) (bC st) .none kV doc pm an cdv ct) ⟨us,[]⟩=pure (ps.zip us)):Binds K fd ps []:=by
 obtain⟨oc,od,kV,doc,pm,an,cdv,ct,osl,rfl,lk,hcd⟩:=F.ex;exact .all (h kV doc pm an cdv ct)
theorem A3a {x qual:Str}{st:Stmt}{f:Addr}{oc:Value}{od an:Option Addr}{osl:Array (Option Value)}{kV doc pm cdv ct:Value}(l:K.lookup f=some ⟨oc,od,.func (W.fnOf x qual (iF st) (cR st) (bC st) .none kV doc pm an cdv ct),osl⟩)
  (c:W.codeIn K cdv qual=true)(k:W.keepIn K (.ref f)=true):Fun K x qual st f (W.fnOf x qual (iF st) (cR st) (bC st) .none kV doc pm an cdv ct):=⟨⟨oc,od,kV,doc,pm,an,cdv,ct,osl,rfl,l,c⟩,k⟩
end
theorem A6o {A:Around}{k:Nat}(hr:Room k A):A.units+1<cLine:=lt_of_le_of_lt (Nat.add_le_add_left (by decide:1<=64) _) hr.units
theorem cA {n:Nat}(h:n<=1000):n<sizeLine:=lt_of_le_of_lt h (by decide)
section
variable {X:Cx}
theorem pv (i:Nat){x:Str}{pos:Pos}(hN:X.N[i]?=some x:=by rfl)(hv:Vis X.env.scope x:=by first|exact Or.inl rfl|exact Or.inr (Or.inl rfl)|exact Or.inr (Or.inr rfl))(hd:(x==("__debug__":Str))=false:=by decide)
  (hcd:(x==("__classdict__":Str))=false:=by decide):PE X (.Name x pos) (dP i):=A1t hN hv hd hcd
end
theorem bL {A B:Prop}(h:B):if false=true then A else B:=by rw [if_neg Bool.false_ne_true];exact h
theorem fR {A B:Prop}(h:A):if true=true then A else B:=by rw [if_pos rfl];exact h
noncomputable def Same (H H':Hp):Prop:=∀b o,H b=some o->H' b=some o
theorem Same.refl (H:Hp):Same H H:=fun _ _ h=>h
theorem Same.trans {H H1 H2:Hp}(a:Same H H1)(b:Same H1 H2):Same H H2:=fun c o h=>b c o (a c o h)
theorem Same.free {H H':Hp}(e:Same H H'){l:Addr}(h:H' l=Option.none):H l=Option.none:=by
 cases q:H l with
 |none=>rfl
 |some o=>
  rw [e l o q]at h;cases h
theorem Same.seq {K:W.Frag}{H H':Hp}{a:Addr}{xs:List V}(e:Same H H')(h:SqL K H a xs):SqL K H' a xs:=by
 rcases h with(h| ⟨o,h⟩)|h
 ·exact .inl (.inl (e _ _ h))
 ·exact .inl (.inr ⟨o,e _ _ h⟩)
 ·exact .inr h
section
variable {κ:Type} [DecidableEq κ]
noncomputable def cS (kvs:List (κ×V))(k:κ):Option V:=(kvs.find? fun kv=>decide (kv.1=k)).map (·.2)
noncomputable def eA (kvs:List (κ×V))(k:κ)(v:V):List (κ×V):=
 if (kvs.any fun kv=>decide (kv.1=k))=true then kvs.map (fun kv=>if kv.1=k then(kv.1,v)else kv)else kvs++[(k,v)]
theorem nJ {p:κ×V}{r:List (κ×V)}{k:κ}(e:p.1=k):cS (p::r) k=some p.2:=by simp [cS,find?_cons,e]
theorem mV {p:κ×V}{r:List (κ×V)}{k:κ}(e:¬p.1=k):cS (p::r) k=cS r k:=by simp [cS,find?_cons,e]
theorem nR (k:κ):∀kvs:List (κ×V),(kvs.any fun kv=>decide (kv.1=k))=(cS kvs k).isSome
 | []=>rfl
 |p::r=>by
  rw [any_cons];by_cases e:p.1=k
  ·simp only [nJ e,zjV e,Bool.true_or,Option.isSome_some]
  ·rw [mV e,zjU e,Bool.false_or];exact nR k r
theorem oH (kvs:List (κ×V))(k:κ)(v:V):(eA kvs k v).length<=kvs.length+1:=by
 unfold eA
 split
 ·rw [length_map];omega
 ·rw [length_append,length_cons,length_nil];omega
theorem A3d {kvs:List (κ×V)}{k:κ}(v:V)(h:cS kvs k=none):eA kvs k v=kvs++[(k,v)]:=by unfold eA;rw [nR,h];exact if_neg (by decide)
theorem RelO.isSome_eq {o:Option V}{u:Option Value}(r:RelO o u):o.isSome=u.isSome:=by
 cases o with
 |none=>cases u with
  |none=>rfl
  |some _=>exact(show False from r).elim
 |some _=>cases u with
  |none=>exact(show False from r).elim
  |some _=>rfl
theorem RelO.getD {o:Option V}{u:Option Value}{d:V}{d':Value}(r:RelO o u)(rd:RelV d d'):RelV (o.getD d) (u.getD d'):=by
 cases o with
 |none=>cases u with
  |none=>exact rd
  |some _=>exact(show False from r).elim
 |some _=>cases u with
  |none=>exact(show False from r).elim
  |some _=>exact r
theorem KV.val {kvs:List (κ×V)}{vs:List (κ×Value)}(r:KV kvs vs)(k:κ):RelO (cS kvs k) (valueAt vs k):=by
 unfold KV at r
 induction r with
 |nil=>exact True.intro
 | @cons p q ps qs h t ih=>
  obtain⟨h1,h2⟩:=h;by_cases e:p.1=k
  ·have e':q.1=k:=h1.symm.trans e;have b:valueAt (q::qs) k=some q.2:=by simp [valueAt,find?_cons,e']
   rw [nJ e,b];exact h2
  ·have e':¬q.1=k:=fun z=>e (h1.trans z);have b:valueAt (q::qs) k=valueAt qs k:=by simp [valueAt,find?_cons,e']
   rw [mV e,b];exact ih
theorem KV.any {kvs:List (κ×V)}{vs:List (κ×Value)}(r:KV kvs vs)(k:κ):(kvs.any fun kv=>decide (kv.1=k))=vs.any fun kv=>decide (kv.1=k):=by
 unfold KV at r
 induction r with
 |nil=>rfl
 |cons h t ih=>rw [any_cons,any_cons,ih,h.1]
theorem KV.repl {kvs:List (κ×V)}{vs:List (κ×Value)}(r:KV kvs vs)(k:κ){y:V}{u:Value}(ry:RelV y u):
  KV (kvs.map fun kv=>if kv.1=k then(kv.1,y)else kv) (vs.map fun kv=>if kv.1=k then(kv.1,u)else kv):=by
 unfold KV at r⊢
 induction r with
 |nil=>exact .nil
 | @cons p q ps qs h t ih=>
  rw [map_cons,map_cons];refine .cons ?_ ih;obtain⟨h1,h2⟩:=h;by_cases e:p.1=k
  ·rw [if_pos e,if_pos (h1.symm.trans e)];exact⟨h1,ry⟩
  ·rw [if_neg e,if_neg (fun z=>e (h1.trans z))];exact⟨h1,h2⟩
theorem KV.put {kvs:List (κ×V)}{vs:List (κ×Value)}(r:KV kvs vs)(k:κ){y:V}{u:Value}(ry:RelV y u):KV (eA kvs k y) (stored vs k u):=by
 unfold eA stored;rw [r.any k];by_cases e:(vs.any fun kv=>decide (kv.1=k))=true
 ·rw [if_pos e,if_pos e];exact r.repl k ry
 ·rw [if_neg e,if_neg e];exact Paired.snoc r ⟨rfl,ry⟩
theorem KV.length {kvs:List (κ×V)}{vs:List (κ×Value)}(r:KV kvs vs):kvs.length=vs.length:=Paired.length r
end
theorem jP {P:Program}{w:World}{k:Key}{u:Value}(r:RelV (kV k) u):(cH P w).is k u=true:=by
 cases k with
 |inl i=>obtain⟨t,e⟩:=(show∃t,u=Value.int i t from r);subst e;exact A2b P w i t
 |inr x=>obtain⟨t,e⟩:=(show∃t,u=Value.str x t from r);subst e;exact B0j P w x t
theorem wX {P:Program}{w:World}:∀{ks:List Key}{us:List Value},Vals (ks.map kV) us->ItemsAre (cH P w) ks us
 | [],_,r=>by rw [map_nil]at r;cases r;exact .nil
 |k::ks,_,r=>by
  rw [map_cons]at r;cases r with
  |cons h t=>exact .cons (jP h) (wX t)
noncomputable abbrev KT (H:Hp):List (List Key×V)->List (List Key×Addr×Value)->Prop:=Paired fun p q=>p.1=q.1/\H q.2.1=some (.tup (p.1.map kV))/\RelV p.2 q.2.2
theorem KT.val {H:Hp}{kvs:List (List Key×V)}{xs:List (List Key×Addr×Value)}(r:KT H kvs xs)(k:List Key):RelO (cS kvs k) ((atKey xs k).map (·.2)):=by
 induction r with
 |nil=>exact True.intro
 | @cons p q ps qs h t ih=>
  obtain⟨h1,_,h2⟩:=h;by_cases e:p.1=k
  ·have e':q.1=k:=h1.symm.trans e;have b:atKey (q::qs) k=some q.2:=by simp [atKey,find?_cons,e']
   rw [nJ e,b];exact h2
  ·have e':¬q.1=k:=fun z=>e (h1.trans z);have b:atKey (q::qs) k=atKey qs k:=by simp [atKey,find?_cons,e']
   rw [mV e,b];exact ih
theorem KT.repl {H:Hp}{kvs:List (List Key×V)}{xs:List (List Key×Addr×Value)}(r:KT H kvs xs)(k:List Key){y:V}{u:Value}(ry:RelV y u):
  KT H (kvs.map fun kv=>if kv.1=k then(kv.1,y)else kv) (xs.map (putAt k u)):=by
 induction r with
 |nil=>exact .nil
 | @cons p q ps qs h t ih=>
  rw [map_cons,map_cons];refine .cons ?_ ih;obtain⟨h1,h2,h3⟩:=h;unfold putAt;by_cases e:p.1=k
  ·rw [if_pos e,if_pos (h1.symm.trans e)];exact⟨h1,h2,ry⟩
  ·rw [if_neg e,if_neg (fun z=>e (h1.trans z))];exact⟨h1,h2,h3⟩
theorem KT.put {H:Hp}{kvs:List (List Key×V)}{xs:List (List Key×Addr×Value)}(r:KT H kvs xs)(k:List Key){b:Addr}{y:V}{u:Value}(hb:H b=some (.tup (k.map kV)))(ry:RelV y u):
  KT H (eA kvs k y) (storedH xs k b u):=by
 have e:(kvs.any fun kv=>decide (kv.1=k))=(atKey xs k).isSome:=by
  rw [nR,(r.val k).isSome_eq,Option.isSome_map]
 unfold eA storedH;rw [e];by_cases q:(atKey xs k).isSome=true
 ·rw [if_pos q,if_pos q];exact r.repl k ry
 ·rw [if_neg q,if_neg q];exact Paired.snoc r ⟨rfl,hb,ry⟩
theorem KT.keeps {H H':Hp}{kvs:List (List Key×V)}{xs:List (List Key×Addr×Value)}(r:KT H kvs xs)(ht:∀b ys,H b=some (.tup ys)->H' b=some (.tup ys)):KT H' kvs xs:=
 Paired.mapP r fun _ _ z=> ⟨z.1,ht _ _ z.2.1,z.2.2⟩
section
variable {P:Program}{w:World}{H:Hp}{h:Heap}{a:Addr}
theorem A0c {u:HO}(ok:HOk P w H h)(e:Rd H a u):ObjOk P w H h a u:=e.ok ok
theorem jI {kvs:List (Key×V)}(ok:HOk P w H h)(e:Rd H a (.dK kvs)):kvs.length<=sizeLine/\(a==sysModules)=false/\∃vs,KV kvs vs/\h.DictOf (cH P w) a vs:=
 show ObjOk P w H h a (.dK kvs)from A0c ok e
theorem vP {kvs:List (Key×V)}(ok:HOk P w H h)(e:H a=some (.dK kvs)):kvs.length<=sizeLine/\(a==sysModules)=false/\∃vs,KV kvs vs/\h.DictOf (cH P w) a vs:=jI ok (.inl e)
theorem lC {ks:List Key}(ok:HOk P w H h)(e:H a=some (.tup (ks.map kV))):(tupleKind (cH P w)).is h ks a:=by obtain⟨_,its,r,o,h1,h2,n,h3⟩:=(show ObjOk P w H h a (.tup (ks.map kV))from ok a _ e);exact⟨o,its.toArray,n,h1,h2,h3,by simpa using wX r⟩
theorem jL {kvs:List (List Key×V)}(ok:HOk P w H h)(e:Rd H a (.dT kvs)):kvs.length<=sizeLine/\(a==sysModules)=false/\
  ∃xs,KT H kvs xs/\h.DictOfH (tupleKind (cH P w)) a xs:=by
 obtain⟨z,y,xs,r,o,es,ep,h1,h2,h3,h4,h5⟩:=(show ObjOk P w H h a (.dT kvs)from A0c ok e);refine⟨z,y,xs,r,o,es,ep,h1,h2,h3,h4,fun x hx=> ?_,h5⟩;have all:∀{l:List (List Key×V)}{m:List (List Key×Addr×Value)},KT H l m->∀x∈m,(tupleKind (cH P w)).is h x.1 x.2.1:=by
  intro l m q
  induction q with
  |nil=>intro x hx;exact nomatch hx
  | @cons p q ps qs hq t ih=>
   intro x hx;rcases mem_cons.mp hx with e|hx
   ·subst e;exact lC ok (by rw [←hq.1];exact hq.2.1)
   ·exact ih x hx
 exact all r x hx
theorem oW {kvs:List (List Key×V)}(ok:HOk P w H h)(e:H a=some (.dT kvs)):kvs.length<=sizeLine/\(a==sysModules)=false/\
  ∃xs,KT H kvs xs/\h.DictOfH (tupleKind (cH P w)) a xs:=jL ok (.inl e)
end
noncomputable def DGet (H:Hp)(a:Addr)(y:V)(r:Option V):Prop:=
 (∃kvs k,Rd H a (.dK kvs)/\y=kV k/\r=cS kvs k)\/ ∃kvs k b,Rd H a (.dT kvs)/\y= .ref b/\H b=some (.tup (k.map kV))/\r=cS kvs k
noncomputable def DPut (H:Hp)(a:Addr)(y v:V)(H':Hp):Prop:=
 (∃kvs k,H a=some (.dK kvs)/\y=kV k/\kvs.length<sizeLine/\H'=upd H a (.dK (eA kvs k v)))\/
 ∃kvs k b,H a=some (.dT kvs)/\y= .ref b/\H b=some (.tup (k.map kV))/\kvs.length<sizeLine/\H'=upd H a (.dT (eA kvs k v))
theorem DGet.k {H:Hp}{a:Addr}{kvs:List (Key×V)}{k:Key}(e:H a=some (.dK kvs)):DGet H a (kV k) (cS kvs k):=.inl ⟨kvs,k,.inl e,rfl,rfl⟩
theorem DGet.t {H:Hp}{a b:Addr}{kvs:List (List Key×V)}{k:List Key}(e:H a=some (.dT kvs))(eb:H b=some (.tup (k.map kV))):DGet H a (.ref b) (cS kvs k):=.inr ⟨kvs,k,b,.inl e,rfl,eb,rfl⟩
theorem DPut.t {H:Hp}{a b:Addr}{kvs:List (List Key×V)}{k:List Key}{v:V}(e:H a=some (.dT kvs))(eb:H b=some (.tup (k.map kV)))(hl:kvs.length<sizeLine):
  DPut H a (.ref b) v (upd H a (.dT (eA kvs k v))):=.inr ⟨kvs,k,b,e,rfl,eb,hl,rfl⟩
section
variable {X:Cx}{pins:List (Addr×Obj)}{σ:St}{H:Hp}{s:Shared}{a:Addr}{y v:V}{u r:Value}{o:Option V}{A:Around}{E:Value->Shared->Prop}
theorem Inv.big (I:Inv X pins σ H s):sysModules<s.heap.objs.size:=by have h:mainGlobals<s.heap.objs.size:=(I.mod.glob.keeps I.bk).lt;exact lt_trans (by decide) h
theorem A6l {Q:Value->Shared->Prop}(hu:A.units+1<cLine)(I:Inv X pins σ H s)(g:DGet H a y (some v))(ry:RelV y u)(h:∀w' s',Inv X pins σ H s'->RelV v w'->Q w' s'):
  wpAny (model X.prog X.w) A (getItem (.ref a) u) Q E s:=by
 rcases g with⟨kvs,k,e,ey,l⟩| ⟨kvs,k,b,e,ey,eb,l⟩
 ·subst ey;obtain⟨z,hd,vs,rel,dd⟩:=jI I.hok e;obtain⟨w',hw,rw'⟩:=RelO.some_of (v:=v) (o:=valueAt vs k) (by rw [l];exact rel.val k);exact wpAny_getItem_of (jP ry) dd.mapOf hw (h w' _ (I.tok _) rw')
 ·subst ey;cases (show u=Value.ref b from ry);obtain⟨z,hd,xs,rel,dd⟩:=jL I.hok e;obtain⟨w',hw,rw'⟩:=RelO.some_of (v:=v) (o:=(atKey xs k).map (·.2)) (by rw [l];exact rel.val k);obtain⟨p,hp,hp2⟩:=Option.map_eq_some_iff.mp hw;refine wpAny_getItem_heap (tupleKind_room_in1 hu) (lC I.hok eb) dd hp ?_;rw [hp2];exact h w' _ (I.tok _) rw'
theorem A22 {Q:Value->Shared->Prop}(hu:A.units+1<cLine)(I:Inv X pins σ H s)(g:DGet H a y o)(ry:RelV y u)(h:∀s',Inv X pins σ H s'->Q (.bool o.isSome) s'):
  wpAny (model X.prog X.w) A (compareOp .In u (.ref a)) Q E s:=by
 rcases g with⟨kvs,k,e,ey,l⟩| ⟨kvs,k,b,e,ey,eb,l⟩
 ·subst ey;obtain⟨z,hd,vs,rel,dd⟩:=jI I.hok e;refine wpAny_in_of (jP ry) hd dd.mapOf ?_;rw [←(rel.val k).isSome_eq,←l];exact h _ (I.tok _)
 ·subst ey;cases (show u=Value.ref b from ry);obtain⟨z,hd,xs,rel,dd⟩:=jL I.hok e;refine wpAny_in_heap (tupleKind_room_in1 hu) (lC I.hok eb) hd dd ?_;have q:=(rel.val k).isSome_eq;rw [Option.isSome_map]at q;rw [←q,←l];exact h _ (I.tok _)
theorem nY {h':Heap}{t':Nat}{ob:HO}(I:Inv X pins σ H s)(mu:Mut (H a))(hs:Heap.SameBut a s.heap h')(he:∃q,h'.get? a=some q)(new:ObjOk X.prog X.w (upd H a ob) h' a ob):
  Inv X pins σ (upd H a ob) {s with heap:=h',toks:=t'}:=
 I.write (x:=a) (e:=a) mu (.inl rfl) (fun b q hb z=>(hs.2 b hb).trans z) he new
theorem A05 {P:Program}{w:World}{H':Hp}{h':Heap}{kvs:List (Key×V)}{vs:List (Key×Value)}(z:kvs.length<=sizeLine)(hd:(a==sysModules)=false)(rel:KV kvs vs)(dd:h'.DictOf (cH P w) a vs):
  ObjOk P w H' h' a (.dK kvs):=⟨z,hd,vs,rel,dd⟩
theorem B1f {H':Hp}{Q:Unit->Shared->Prop}(hu:A.units+1<cLine)(I:Inv X pins σ H s)(g:DPut H a y v H')(ry:RelV y u)(rv:RelV v r)(h:∀s',Inv X pins σ H' s'->Q () s'):
  wpAny (model X.prog X.w) A (setItem (.ref a) u r) Q E s:=by
 rcases g with⟨kvs,k,e,ey,l,eH⟩| ⟨kvs,k,b,e,ey,eb,l,eH⟩
 ·subst ey eH;obtain⟨z,hd,vs,rel,dd⟩:=vP I.hok e;have hz:vs.length<=sizeLine:=by rw [←rel.length];exact z
  have hl:(eA kvs k v).length<=sizeLine:=by have:=oH kvs k v;omega
  refine wpAny_setItem_pairs (hsz:=hz) (jP ry) dd fun h' dd' hs=>h _ ?_;have he:∃q,h'.get? a=some q:=let ⟨q,_,_,hq,_⟩:=dd';⟨q,hq⟩;exact nY I (by rw [e];exact True.intro) hs he (A05 hl hd (rel.put k rv) dd')
 ·subst ey eH;cases (show u=Value.ref b from ry);obtain⟨z,hd,xs,rel,dd⟩:=oW I.hok e;have hz:xs.length<=sizeLine:=by rw [←Paired.length rel];exact z
  have hl:(eA kvs k v).length<=sizeLine:=by have:=oH kvs k v;omega
  refine wpAny_setItem_heap (hsz:=hz) (tupleKind_room_in1 hu) (lC I.hok eb) dd fun h' dd' hs=>h _ ?_;obtain⟨q,es,ep,hq,h2,h3,h4,_,h5⟩:=dd';refine nY I (by rw [e];exact True.intro) hs ⟨q,hq⟩ ⟨hl,hd,_,(rel.put k eb rv).keeps fun c ys ec=> ?_,q,es,ep,hq,h2,h3,h4,h5⟩;rw [aV (oR ec e (fun z=>nomatch z))];exact ec
end
section
variable {X:Cx}{pins:List (Addr×Obj)}{σ:St}{H:Hp}{s:Shared}{a:Addr}{kvs:List (Key×V)}{k:Key}{u:Value}{A:Around}{E:Value->Shared->Prop}
end
noncomputable def A07 (i:Expr):Prop:=∀ov iv,subscripted i false ov iv=operate [ov,iv] (getItem ov iv)
theorem A3q {prog:Program}{w:World}{A:Around}{E:Value->Shared->Prop}{s:Shared}{env:Env}{value slice:Expr}{pos:Pos}{T id:String}{Q:Value->Shared->Prop}
  (hl:typeLookup (.type T) "__getitem__" =pure (some (.builtin id)))(hs:A07 slice)
  (h:wpAny (model prog w) A (eval value env) (fun o s₁=>wpAny (model prog w) A (eval slice env) (fun i s₂=>s₂.TypeIs o T/\wpAny (model prog w) A (getItem o i) Q E s₂) E s₁) E s):
  wpAny (model prog w) A (eval (.Subscript value slice pos) env) Q E s:=by
 refine Subscript_ (wpAny_mono h (fun o s₁ h₁=>wpAny_mono h₁ (fun i s₂ h₂=> ?_) fun _ _ x=>x) fun _ _ x=>x);obtain⟨hT,h₂⟩:=h₂;unfold subscriptTail;refine zjZ ?_;rw [getitemInPython_of_ne hT.not_modules];refine zjZ (wpAny_specialOf hT hl ?_);have fin:wpAny (model prog w) A (subscripted slice false o i) (fun r s₃=>wpAny (model prog w) A (letTemporaryGo value o r>>=fun _=>pure r) Q E s₃) E s₂:=by
  rw [hs o i];exact wpAny_operating (wpAny_mono h₂ (fun r s₃ h₃=>zjZ (wpAny_letTemporaryGo (zjY h₃))) fun _ _ x=>x)
 first
  |exact zjY (zjZ fin)
  |exact zjZ (zjY (zjZ fin))
  |exact zjZ fin
theorem A4i {X:Cx}{pins:List (Addr×Obj)}{σ:St}{H:Hp}{s:Shared}{a:Addr}{y:V}{o:Option V}(I:Inv X pins σ H s)(g:DGet H a y o):s.TypeIs (.ref a) "dict":=by
 rcases g with⟨kvs,k,e,_,_⟩| ⟨kvs,k,b,e,_,_,_⟩
 ·obtain⟨_,_,vs,_,dd⟩:=jI I.hok e;exact dd.typeIs
 ·obtain⟨_,_,xs,_,dd⟩:=jL I.hok e;exact dd.typeIs
noncomputable def B0w (td ty:TE):TE:=fun σ H Q=>td σ H fun x H1=>ty σ H1 fun y H2=> ∃a v,x= .ref a/\DGet H2 a y (some v)/\Q v H2
noncomputable def A3g (ty td:TE):TE:=fun σ H Q=>ty σ H fun y H1=>td σ H1 fun x H2=> ∃a o,x= .ref a/\DGet H2 a y o/\Q (.bl o.isSome) H2
noncomputable def A2n (td ty tv:TE):TS:=fun D σ H=>tv σ H fun v H1=>td σ H1 fun x H2=>ty σ H2 fun y H3=> ∃a H4,x= .ref a/\DPut H3 a y v H4/\D.nx σ H4
section
variable {X:Cx}{o i e value:Expr}{pos pos' tpos:Pos}{td ty tv:TE}
theorem A2z (hu:X.A.units+1<cLine)(ho:PE X o td)(hi:PE X i ty)(hs:A07 i):PE X (.Subscript o i pos) (B0w td ty):=by intro pins s σ H Q I h;refine A3q PySem.F.slot_dict_getitem.lookup hs (thn (ho pins s σ H _ I h) fun u s1 ⟨x,H1,I1,rx,q1⟩=>thn (hi pins s1 σ H1 _ I1 q1) fun iv s2 ⟨y,H2,I2,ry,a,v,ex,g,q2⟩=> ?_);subst ex;obtain rfl:u=Value.ref a:=rx;exact⟨A4i I2 g,A6l hu I2 g ry fun w' s3 I3 rw'=> ⟨v,H2,I3,rw',q2⟩⟩
theorem B01 (hu:X.A.units+1<cLine)(hi:PE X i ty)(ho:PE X o td):PC X .In i o (A3g ty td):=by intro pins s σ H Q I h;refine thn (hi pins s σ H _ I h) fun iv s1 ⟨y,H1,I1,ry,q1⟩=>thn (ho pins s1 σ H1 _ I1 q1) fun u s2 ⟨x,H2,I2,rx,a,ov,ex,g,q2⟩=> ?_;subst ex;obtain rfl:u=Value.ref a:=rx;exact A22 hu I2 g ry fun s3 I3=> ⟨.bl ov.isSome,H2,I3,rfl,q2⟩
theorem A6j (hu:X.A.units+1<cLine)(ho:PE X o td)(hi:PE X i ty)(hv:PE X value tv)(hs:swapsWith value (some (.Subscript o i pos')) pos.line X.env=pure false):
  PS X (.Assign [.Subscript o i pos'] value pos) (A2n td ty tv):=by
 intro pins s σ H D I h;refine wpAny_Assign_Subscript (thn (hv pins s σ H _ I h) fun r s1 ⟨v,H1,I1,rv,q1⟩=>thn (ho pins s1 σ H1 _ I1 q1) fun u s2 ⟨x,H2,I2,rx,q2⟩=>thn (hi pins s2 σ H2 _ I2 q2) fun iv s3 ⟨y,H3,I3,ry,a,H4,ex,g,q3⟩=> ?_) hs;subst ex;obtain rfl:u=Value.ref a:=rx;exact B1f hu I3 g ry rv fun s4 I4=> ⟨σ,H4,I4,q3⟩
end
theorem A6b {P:Program}{w:World}{H:Hp}(h:Heap)(hb:sysModules<h.objs.size):ObjOk P w H (h.push {cls:=.type "dict",data:=.dict #[]}) h.objs.size (.dK []):=
 ⟨zero_le _,beq_eq_false_iff_ne.mpr (Ne.symm (ne_of_lt hb)),[],.nil,Heap.DictOf.new h⟩
theorem B07 {P:Program}{w:World}{H:Hp}(h:Heap)(hb:sysModules<h.objs.size):ObjOk P w H (h.push {cls:=.type "dict",data:=.dict #[]}) h.objs.size (.dT []):=
 ⟨zero_le _,beq_eq_false_iff_ne.mpr (Ne.symm (ne_of_lt hb)),[],.nil,_,#[],0,get?_push_size _ rfl,⟨rfl,rfl,rfl⟩,rfl,rfl,nodup_nil⟩
noncomputable def A5y:TE:=fun _ H Q=> ∀p,H p=none->Q (.ref p) (upd H p (.dT []))
section
variable {X:Cx}{pos:Pos}
theorem A33:PE X (.Dict [] [] pos) A5y:=fun pins s σ H Q I h=>
 wpAny_Dict_empty ⟨.ref s.heap.objs.size,_,I.laid (a:=s.heap.objs.size) (o:=.dT []) (t':=s.toks) (fun _ _ q=>zjX _ q) (zjQ _) (B07 s.heap I.big),rfl,h _ (I.hok.fresh (zjQ _))⟩
end
noncomputable def oM:List (TE×TE)->St->Hp->(List (V×V)->Hp->Prop)->Prop
 | [],_,H,Q=>Q [] H
 | (tk,tv)::r,σ,H,Q=>tk σ H fun x H1=>tv σ H1 fun y H2=>oM r σ H2 fun ps H3=>Q ((x,y)::ps) H3
noncomputable abbrev VV:List (V×V)->List (Value×Value)->Prop:=Paired fun p q=>RelV p.1 q.1/\RelV p.2 q.2
noncomputable def PPs (X:Cx)(pos:Pos)(keys:List (Option Expr))(values:List Expr)(trs:List (TE×TE)):Prop:=
 ∀(pins:List (Addr×Obj))(s:Shared)(σ:St)(H:Hp)(Q:List (V×V)->Hp->Prop),Inv X pins σ H s->oM trs σ H Q->
  wpAny (model X.prog X.w) X.A (evalPairs (pairTrees keys values X.env pos)) (fun vs s'=> ∃ps H',Inv X pins σ H' s'/\VV ps vs/\Q ps H') X.xe s
theorem B1i {X:Cx}{pos:Pos}:PPs X pos [] [] []:=fun pins s σ H Q I h=>pairTrees_nil_walk ⟨[],H,I,.nil,h⟩
theorem wY {X:Cx}{pos:Pos}{k v:Expr}{ks:List (Option Expr)}{vs:List Expr}{tk tv:TE}{trs:List (TE×TE)}(hk:PE X k tk)(hv:PE X v tv)(hr:PPs X pos ks vs trs):
  PPs X pos (some k::ks) (v::vs) ((tk,tv)::trs):=fun pins s σ H Q I h=>
 pairTrees_cons_walk (thn (hk pins s σ H _ I h) fun u s1 ⟨x,H1,I1,rx,q1⟩=>thn (hv pins s1 σ H1 _ I1 q1) fun w2 s2 ⟨y,H2,I2,ry,q2⟩=>
  thn (hr pins s2 σ H2 _ I2 q2) fun ws s3 ⟨ps,H3,I3,rel,q3⟩=> ⟨(x,y)::ps,H3,I3,.cons ⟨rx,ry⟩ rel,q3⟩)
noncomputable def iN (kvs more:List (Key×V)):List (Key×V):=more.foldl (fun acc kv=>eA acc kv.1 kv.2) kvs
theorem KV.merge:∀{more:List (Key×V)}{rs:List (Key×Value)}{kvs:List (Key×V)}{vs:List (Key×Value)},KV more rs->KV kvs vs->KV (iN kvs more) (merged vs rs):=by
 intro more rs kvs vs r;unfold KV at r
 induction r generalizing kvs vs with
 |nil=>intro q;exact q
 | @cons p q ps qs h t ih=>
  intro r0;have e:KV (eA kvs p.1 p.2) (stored vs q.1 q.2):=by
   have:=r0.put p.1 h.2;rw [←h.1];exact this
  exact ih e
theorem tH:∀(more kvs:List (Key×V)),(iN kvs more).length<=kvs.length+more.length
 | [],kvs=>by show kvs.length<=kvs.length+0;omega
 |p::r,kvs=>by
  have h1:=tH r (eA kvs p.1 p.2);have h2:=oH kvs p.1 p.2;show(iN (eA kvs p.1 p.2) r).length<=_;rw [length_cons];omega
theorem zO {P:Program}{w:World}:∀{kvs:List (Key×V)}{ws:List (Value×Value)},VV (kvs.map fun kv=>(kV kv.1,kv.2)) ws->∃rs,Carries (cH P w) ws rs/\KV kvs rs
 | [],_,r=>by rw [map_nil]at r;cases r;exact⟨[],True.intro,.nil⟩
 |p::kvs,_,r=>by
  rw [map_cons]at r;cases r with
  | @cons a b as bs h t=>
   obtain⟨rs,c,q⟩:=zO (P:=P) (w:=w) t;obtain⟨b1,b2⟩:=b;exact⟨(p.1,b2)::rs,⟨jP h.1,rfl,c⟩,.cons ⟨rfl,h.2⟩ q⟩
noncomputable def B00 (trs:List (TE×TE)):TE:=fun σ H Q=> ∀p,H p=none->oM trs σ (upd H p (.dK [])) fun ps H2=>H2 p=some (.dK [])/\∃kvs:List (Key×V),ps=kvs.map (fun kv=>(kV kv.1,kv.2))/\kvs.length<=15/\Q (.ref p) (upd H2 p (.dK (iN [] kvs)))
theorem A6y {X:Cx}{pos:Pos}{keys:List (Option Expr)}{values:List Expr}{trs:List (TE×TE)}(h:PPs X pos keys values trs)(hall:keys.all (·.isSome)=true)(hl:keys.length=values.length)(h0:keys≠[])
  (h15:keys.length<=15):PE X (.Dict keys values pos) (B00 trs):=by
 intro pins s σ H Q I q;have hn:=I.hok.fresh (zjQ s.heap.objs.size);have I1:=I.laid (a:=s.heap.objs.size) (o:=.dK []) (h':=s.heap.push {cls:=.type "dict",data:=.dict #[]}) (t':=s.toks) (fun _ _ q=>zjX _ q) (zjQ _) (A6b s.heap I.big);refine wpAny_Dict_walk (knd:=cH X.prog X.w) hall hl h0 h15 (thn (h pins _ σ _ _ I1 (q _ hn)) fun ws s2 ⟨ps,H2,I2,rel,e,kvs,ep,lk,q2⟩=> ?_);subst ep;obtain⟨rs,c,rk⟩:=zO (P:=X.prog) (w:=X.w) rel;obtain⟨z,hd,vs0,r0,dd⟩:=vP I2.hok e;cases r0;refine⟨rs,c,dd,fun h' dd' hs=> ⟨.ref s.heap.objs.size,_,?_,rfl,q2⟩⟩;have hz:(iN [] kvs).length<=sizeLine:=by
  have h1:=tH kvs [];rw [length_nil]at h1;rw [sizeLine_eq];omega
 have he:∃q,h'.get? s.heap.objs.size=some q:=let ⟨q,_,_,hq,_⟩:=dd';⟨q,hq⟩;exact nY I2 (by rw [e];exact True.intro) hs he (A05 hz hd (rk.merge .nil) dd')
end L2
set_option maxHeartbeats 4000000
namespace L2
open PySem PySem.Spec PyProof.Rows
structure dH where
 cl:List (Str×Addr)
 C:Addr
 s:Shared
 H:Hp
 fp:List Addr
 pn:List (Addr×Obj)
noncomputable def A2r (X:Cx)(N:List Str)(scope:Scope)(Z:dH):Cx where
 prog:=X.prog
 w:=X.w
 K:=X.K
 mg:=X.mg
 base:=X.base
 A:=X.A
 N:=N
 s₀:=Z.s
 H₀:=Z.H
 env:=compEnvC scope Z.cl Z.C X.env
 outer:=X.stack
 stack:=X.stack
 ex:=Z.fp
 fn:=fun _=>false
 calm:=X.calm
 pn:=Z.pn
 xe:=fun _ _=>False
noncomputable def zD (ns:List (Str×NameKind))(N:List Str)(scope:Scope)(frees:List (Str×Nat)):Prop:=
 (∀x∈scope.names,x.2≠ .cell/\(x.2= .local->scope.names.lookup x.1=some .local)/\(x.2= .free->ns.lookup x.1=some .cell\/ns.lookup x.1=some .free))/\
 ∀p∈frees,N[p.2]?=some p.1/\scope.names.lookup p.1=some .free/\(ns.lookup p.1=some .cell\/ns.lookup p.1=some .free)
instance (ns:List (Str×NameKind)) (N:List Str) (scope:Scope) (frees:List (Str×Nat)):Decidable (zD ns N scope frees):=by unfold zD;infer_instance
noncomputable def σC (n:Nat)(frees:List (Str×Nat))(σ:St):St:=replicate n none++frees.map fun p=>(σ[p.2]?).join
theorem A9x (hf:∀x∈scope.names,x.2= .free->∃c,env.cells.lookup x.1=some c):
  ∃cl,closureFor scope env=pure cl/\(∀x c,cl.lookup x=some c->env.cells.lookup x=some c)/\∀x,(x,NameKind.free)∈scope.names->∃c,cl.lookup x=some c:=by
 have go:∀(names:List (Str×NameKind))(cs:List (Str×Addr)),(∀x∈names,x.2= .free->∃c,env.cells.lookup x.1=some c)->(∀x c,cs.lookup x=some c->env.cells.lookup x=some c)->
   ∃cl,(forIn names cs (fun(x:Str×NameKind) (r:List (Str×Addr))=>(if (x.2==NameKind.free)=true then(do let a←cellOf env x.1;pure (ForInStep.yield ((x.1,a)::r)))else pure (ForInStep.yield r):Sem (ForInStep (List (Str×Addr))))))=pure cl/\
    (∀x c,cl.lookup x=some c->env.cells.lookup x=some c)/\(∀x c,cs.lookup x=some c->∃c',cl.lookup x=some c')/\∀x,(x,NameKind.free)∈names->∃c,cl.lookup x=some c:=by
  intro names
  induction names with
  |nil=>intro cs _ h;exact⟨cs,rfl,h,fun x c e=> ⟨c,e⟩,fun x hx=>nomatch hx⟩
  |cons y r ih=>
   intro cs hf h;obtain⟨n,k⟩:=y;have hr:∀x∈r,x.2= .free->∃c,env.cells.lookup x.1=some c:=fun x hx=>hf x (zjS _ hx);by_cases hk:k= .free
   ·subst hk;obtain⟨c,hc⟩:=hf (n,.free) zjR rfl;have h2:∀x c',((n,c)::cs).lookup x=some c'->env.cells.lookup x=some c':=fun x c' e=>by
     rw [lookup_cons]at e;cases hx:x==n with
     |true=>
      rw [hx]at e;have:x=n:=eq_of_beq hx;cases e;rw [this];exact hc
     |false=>rw [hx]at e;exact h x c' e
    obtain⟨cl,e1,e2,e3,e4⟩:=ih ((n,c)::cs) hr h2;refine⟨cl,?_,e2,fun x c' e=> ?_,fun x hx=> ?_⟩
    ·rw [forIn_cons];have:cellOf env n=pure c:=by unfold cellOf;rw [hc]
     simp only [beq_self_eq_true,if_true,this,pure_bind];exact e1
    ·cases hx:x==n with
     |true=>exact e3 x c (by rw [lookup_cons,hx])
     |false=>exact e3 x c' (by rw [lookup_cons,hx];exact e)
    ·rcases mem_cons.mp hx with z|z
     ·cases z;exact e3 n c (by rw [lookup_cons,beq_self_eq_true])
     ·exact e4 x z
   ·obtain⟨cl,e1,e2,e3,e4⟩:=ih cs hr h;refine⟨cl,?_,e2,e3,fun x hx=> ?_⟩
    ·rw [forIn_cons];have hb:(k==NameKind.free)=false:=by simpa using hk
     simp only [hb,Bool.false_eq_true,if_false,pure_bind];exact e1
    ·rcases mem_cons.mp hx with z|z
     ·cases z;exact absurd rfl hk
     ·exact e4 x z
 obtain⟨cl,e1,e2,_,e4⟩:=go scope.names [] hf (fun x c e=>by simp at e);refine⟨cl,?_,e2,e4⟩;unfold closureFor
 first
  | (rw [e1];rfl)
  | (simp only [e1];rfl)
  |simp [e1]
theorem wU {env:Env}:∀{names:List (Str×NameKind)}{x:Str},names.lookup x=some .free->
  (names.map fun(n,k)=>if (k==NameKind.free&&env.scope.kind== .function&&env.kindOf n==some .cell)then(n,NameKind.cell)else(n,k)).lookup x=some .cell\/
  (names.map fun(n,k)=>if (k==NameKind.free&&env.scope.kind== .function&&env.kindOf n==some .cell)then(n,NameKind.cell)else(n,k)).lookup x=some .free
 | [],_,h=>by simp at h
 | (n,k)::r,x,h=>by
  have ih:=@wU env r x;show lookup x ((if (k==NameKind.free&&env.scope.kind== .function&&env.kindOf n==some .cell)=true then(n,NameKind.cell)else(n,k))::_)=_\/lookup x ((if (k==NameKind.free&&env.scope.kind== .function&&env.kindOf n==some .cell)=true then(n,NameKind.cell)else(n,k))::_)=_;cases hx:x==n with
  |true=>
   simp only [lookup_cons,hx]at h;cases h;by_cases hc:(NameKind.free==NameKind.free&&env.scope.kind== .function&&env.kindOf n==some .cell)=true
   ·rw [if_pos hc];left;rw [lookup_cons,hx]
   ·rw [if_neg hc];right;rw [lookup_cons,hx]
  |false=>
   simp only [lookup_cons,hx]at h;by_cases hc:(k==NameKind.free&&env.scope.kind== .function&&env.kindOf n==some .cell)=true
   ·rw [if_pos hc];simp only [lookup_cons,hx];exact ih h
   ·rw [if_neg hc];simp only [lookup_cons,hx];exact ih h
theorem relabel_back {env:Env}:∀{names:List (Str×NameKind)}{x:Str},
    ((names.map fun(n,k)=>if (k==NameKind.free&&env.scope.kind== .function&&env.kindOf n==some .cell)then(n,NameKind.cell)else(n,k)).lookup x=some .cell\/
     (names.map fun(n,k)=>if (k==NameKind.free&&env.scope.kind== .function&&env.kindOf n==some .cell)then(n,NameKind.cell)else(n,k)).lookup x=some .free)->
    (x,NameKind.free)∈names\/(x,NameKind.cell)∈names
  | [],_,h=>by simp at h
  | (n,k)::r,x,h=>by
    have ih:=@relabel_back env r x;replace h:lookup x ((if (k==NameKind.free&&env.scope.kind== .function&&env.kindOf n==some .cell)=true then(n,NameKind.cell)else(n,k))::_)=_\/lookup x ((if (k==NameKind.free&&env.scope.kind== .function&&env.kindOf n==some .cell)=true then(n,NameKind.cell)else(n,k))::_)=_:=h;cases hx:x==n with
    |true=>
      have e:x=n:=eq_of_beq hx;subst e;by_cases hc:(k==NameKind.free&&env.scope.kind== .function&&env.kindOf x==some .cell)=true
      · have:k= .free:=by
          simp only [Bool.and_eq_true]at hc;exact eq_of_beq hc.1.1
        subst this;exact .inl zjR
      · rw [if_neg hc]at h
        simp only [lookup_cons,hx,Option.some.injEq]at h;rcases h with h|h
        · subst h;exact .inr zjR
        · subst h;exact .inl zjR
    |false=>
      have h':_:=h;by_cases hc:(k==NameKind.free&&env.scope.kind== .function&&env.kindOf n==some .cell)=true
      · rw [if_pos hc]at h;simp only [lookup_cons,hx]at h
        rcases ih h with z|z
        · exact .inl (zjS _ z)
        · exact .inr (zjS _ z)
      · rw [if_neg hc]at h;simp only [lookup_cons,hx]at h
        rcases ih h with z|z
        · exact .inl (zjS _ z)
        · exact .inr (zjS _ z)
section
end
noncomputable abbrev TC:=St->Hp->(St->Hp->Prop)->Prop
noncomputable def dI (J:It)(g:TG)(tb:TS)(D:cY)(σ:St)(H:Hp):Prop:=∃W:Nat->Nat->St->Hp->Prop,(∃m,W 0 m σ H)/\∀i m σ H,W i m σ H->
 (J.stop i H/\D.nx σ H)\/(J.go i H/\∃N:St->Hp->Prop,(∀σ' H',N σ' H'->∃m',m'<m/\W (i+1) m' σ' H')/\∀x H',J.yld i H x H'->g x σ H' fun σ2 H2=>tb {D with nx:=N,ct:=N,bk:=D.nx} σ2 H2)
noncomputable def eC (Q:St->Hp->Prop):cY:={nx:=Q,rt:=fun _ _=>False}
noncomputable def cL (tt:TT)(tb:TC):TS:=fun D σ H=>tt σ H fun b H1=>if b=true then tb σ H1 D.nx else D.nx σ H1
noncomputable def dL (l:Addr)(te:TE):TC:=fun σ H Q=>te σ H fun v H1=> ∃xs,H1 l=some (.lst xs)/\xs.length<sizeLine/\Q σ (upd H1 l (.lst (xs++[v])))
noncomputable def kW (wi:TI)(g:TG)(tt:TT)(tb:TC):TC:=fun σ H Q=>wi σ H fun J H1=>dI J g (cL tt tb) (eC Q) σ H1
noncomputable def yU (wi:TI)(g:dH->TG)(tt:dH->TT)(te:dH->TE)(n:Nat)(frees:List (Str×Nat)):TE:=fun σ H Q=>wi σ H fun J H1=> ∀(Z:dH)(l:Addr),H1 l=none->
 dI J (g Z) (cL (tt Z) (dL l (te Z))) (eC fun _ H'=>Q (.ref l) H') (σC n frees σ) (upd H1 l (.lst []))
noncomputable def uZ (wi:TI)(g:dH->TG)(tt:dH->TT)(wi2:dH->TI)(g2:dH->TG)(tt2:dH->TT)(te:dH->TE)(n:Nat)(frees:List (Str×Nat)):TE:=fun σ H Q=>wi σ H fun J H1=> ∀(Z:dH)(l:Addr),H1 l=none->
 dI J (g Z) (cL (tt Z) (kW (wi2 Z) (g2 Z) (tt2 Z) (dL l (te Z)))) (eC fun _ H'=>Q (.ref l) H') (σC n frees σ) (upd H1 l (.lst []))
noncomputable def testsOf (ifs:List Expr)(env:Env):Sem Bool:=forIn ifs true fun c r=>if r=true then do let ok←isTrue c env (eval c env);pure (ForInStep.yield ok)else pure (ForInStep.yield r)
noncomputable def PTs (Y:Cx)(ifs:List Expr)(t:TT):Prop:=∀(pins:List (Addr×Obj))(s:Shared)(σ:St)(H:Hp)(Q:Bool->Hp->Prop),Inv Y pins σ H s->t σ H Q->
 wpAny (model Y.prog Y.w) Y.A (testsOf ifs Y.env) (TP Y pins σ Q) Y.xe s
noncomputable def fX:TT:=fun _ H Q=>Q true H
theorem bZ:PTs Y [] fX:=fun pins s σ H Q I h=>wpAny_tests_nil ⟨H,I,h⟩
theorem dY (hc:PT Y c t):PTs Y [c] t:=fun pins s σ H Q I h=>wpAny_tests_one (hc pins s σ H Q I h)
noncomputable def PB (Y:Cx)(tail:(Unit->Sem Fin)->Sem Fin)(r:TC):Prop:=∀(pins:List (Addr×Obj))(s:Shared)(σ:St)(H:Hp)(Q:St->Hp->Prop)(Q':Fin->Shared->Prop)(k:Unit->Sem Fin),Inv Y pins σ H s->r σ H Q->
 (∀σ' H' s',Inv Y pins σ' H' s'->Q σ' H'->wpAny (model Y.prog Y.w) Y.A (k ()) Q' (fun _ _=>False) s')->wpAny (model Y.prog Y.w) Y.A (tail k) Q' (fun _ _=>False) s
theorem iG (h:wpAny M A t Q E s)(hx:E=fun _ _=>False):wpAny M A t Q E' s:=by subst hx;exact wpAny_mono h (fun _ _ q=>q) fun _ _ z=>z.elim
noncomputable def pD (elt:Expr)(acc:Value)(env:Env)(k:Unit->Sem Fin):Sem Fin:=(eval elt env>>=fun x=>call (.builtin "list.append") [acc,x]>>=fun _=>pure ())>>=k
theorem rD (hx:Y.xe=fun _ _=>False)(he:PE Y elt te):PB Y (pD elt (.ref l) Y.env) (dL l te):=by intro pins s σ H Q Q' k I h hk;refine zjZ (zjZ (thn (iG (he pins s σ H _ I h) hx) fun v s1 ⟨x,H1,I1,r1,q1⟩=> ?_));obtain⟨xs,e,hz,q⟩:=q1;refine zjZ (thn (iG (kJ pins s1 σ H1 (.ref l) [x] (.ref l) [v] (fun _ H2=>Q σ H2) I1 rfl (.cons r1 .nil) ⟨l,xs,x,rfl,rfl,e,hz,q⟩) hx) fun u s2 ⟨y,H2,I2,r2,q2⟩=> ?_);exact zjY (hk σ H2 s2 I2 q2)
noncomputable def jY (e:Expr)(d:Nat)(it acc:Value)(env:Env)(tg iter:Expr)(ifs:List Expr)(tail:(Unit->Sem Fin)->Sem Fin):Sem Fin:=
 standAt iter.pos>>=fun _=>pyNext it>>=fun r=>match r with
  |none=>pure (.done .next)
  |some v=>letOwnedTupleGo tg it v>>=fun _=>assign tg env v>>=fun _=>testsOf ifs env>>=fun ok=>
   if ok=true then tail (fun _=>again (.compLoop e d it acc env))else again (.compLoop e d it acc env)
theorem vU (elt tg iter:Expr)(ifs:List Expr)(scope:Scope)(pos:Pos)(it acc:Value)(env:Env):
  compTurn (.ListComp elt [⟨tg,iter,ifs,0⟩] scope pos) 0 it acc env=jY (.ListComp elt [⟨tg,iter,ifs,0⟩] scope pos) 0 it acc env tg iter ifs (pD elt acc env):=by rfl
theorem A28 (elt tg iter:Expr)(ifs:List Expr)(g:Comprehension)(scope:Scope)(pos:Pos)(it acc:Value)(env:Env):
  compTurn (.ListComp elt [g,⟨tg,iter,ifs,0⟩] scope pos) 1 it acc env=jY (.ListComp elt [g,⟨tg,iter,ifs,0⟩] scope pos) 1 it acc env tg iter ifs (pD elt acc env):=by rfl
noncomputable def qO (e:Expr)(iter:Expr)(acc:Value)(env:Env)(k:Unit->Sem Fin):Sem Fin:=
 eval iter env>>=fun x=>standAt iter.pos>>=fun _=>foldedSetIterable iter env x>>=fun x=>holding [x] (pyIter x)>>=fun i=>runOwn (.compStart e 1 i acc env) env>>=fun _=>k ()
theorem A0d (elt tg iter tg2 iter2:Expr)(ifs ifs2:List Expr)(scope:Scope)(pos:Pos)(it acc:Value)(env:Env):
  compTurn (.ListComp elt [⟨tg,iter,ifs,0⟩,⟨tg2,iter2,ifs2,0⟩] scope pos) 0 it acc env=jY (.ListComp elt [⟨tg,iter,ifs,0⟩,⟨tg2,iter2,ifs2,0⟩] scope pos) 0 it acc env tg iter ifs
   (qO (.ListComp elt [⟨tg,iter,ifs,0⟩,⟨tg2,iter2,ifs2,0⟩] scope pos) iter2 acc env):=by rfl
section
theorem kB
  (hx:Y.xe=fun _ _=>False)(hc:Y.calm=true)(heq:compTurn (.ListComp elt gens scope pos) d (.ref it) (.ref l) Y.env=jY (.ListComp elt gens scope pos) d (.ref it) (.ref l) Y.env tg iter ifs tail)(hg:PG Y tg g)(ht:PTs Y ifs tt)(hb:PB Y tail tb)
  (I:Inv Y pins σ H s)(T:iB Y.prog Y.w Y.K tg J fp it tn)(st:tn 0 s.heap)(f2:∀b∈fp,fM Y pins H b)(h:dI J g (cL tt tb) (eC Q) σ H):
  codeAny (model Y.prog Y.w) Y.A (.compLoop (.ListComp elt gens scope pos) d (.ref it) (.ref l) Y.env) (fun r s'=>r= .ok .next/\∃σ' H',Inv Y pins σ' H' s'/\Q σ' H') s:=by
 obtain⟨W,⟨m0,w0⟩,turn⟩:=h;have stat:∀{H':Hp},(∀b∈fp,H' b=none)->∀b∈fp,fM Y pins H' b:=fun hn b hb=> ⟨hn b hb,(f2 b hb).2⟩;refine codeAny_loop rfl (fun n s'=> ∃i σ' H',Inv Y pins σ' H' s'/\tn i s'.heap/\(∀b∈fp,H' b=none)/\W i n σ' H') (fun n s3 hI=> ?_) m0 ⟨0,σ,H,I,st,fun b hb=>(f2 b hb).1,w0⟩;obtain⟨i,σ3,H3,I3,st3,fr3,w3⟩:=hI
 show wpAny _ Y.A ((compTurn (.ListComp elt gens scope pos) d (.ref it) (.ref l) Y.env).onRaise (fun x=>do noteFrame x Y.env;theTreesLotGoes x)) _ _ s3;refine wpAny_noted ?_;rw [heq];unfold jY;refine zjZ (wpAny_standAt (zjZ ?_));rcases turn i n σ3 H3 w3 with⟨stop,qn⟩| ⟨go,N,hN,step⟩
 ·refine thn (T.done Y rfl rfl rfl hc i pins s3 σ3 H3 _ I3 (stat fr3) st3 stop) fun r s4 ⟨hr,I4⟩=> ?_;subst hr;exact zjY ⟨rfl,σ3,H3,I4,qn⟩
 ·refine thn (T.item Y rfl rfl rfl hc i pins s3 σ3 H3 _ I3 (stat fr3) st3 go) fun r s4 ⟨u,hr,h4⟩=> ?_;subst hr;refine zjZ (thn h4 fun _ s5 ⟨x,H5,I5,r5,y5,st5,fr5⟩=> ?_);have I5':=I5.pinned (stat fr5) (T.obj _ _ st5);refine zjZ (thn (iG (hg _ s5 σ3 H5 x u _ I5' r5 (step x H5 y5)) hx) fun _ s6 ⟨σ6,H6,I6,q6⟩=> ?_);refine zjZ (thn (iG (ht _ s6 σ6 H6 _ I6 q6) hx) fun ok s7 ⟨H7,I7,q7⟩=> ?_);have again:∀{σ7:St}{H7:Hp}{s7:Shared},Inv Y (pins++kU fp s5.heap) σ7 H7 s7->N σ7 H7->∃m,m<n/\∃i σ' H',Inv Y pins σ' H' s7/\tn i s7.heap/\(∀b∈fp,H' b=none)/\W i m σ' H':=fun{σ7 H7 s7} I7 n7=>by
   obtain⟨m',hm,w7⟩:=hN σ7 H7 n7;refine⟨m',hm,i+1,σ7,H7,I7.unpinned,T.keep _ _ _ st5 fun b hb o e=>(I7.pin (b,o) (mem_append_right _ (mem_append_right _ (lU hb e)))).1,fun b hb=> ?_,w7⟩;obtain⟨o,e,d⟩:=T.obj _ _ st5 b hb;exact(I7.pin (b,o) (mem_append_right _ (mem_append_right _ (lU hb e)))).2.1
  cases ok with
  |false=>
   rw [if_neg Bool.false_ne_true]at q7⊢;exact zjY ⟨rfl,again I7 q7⟩
  |true=>
   rw [if_pos rfl]at q7⊢;exact iG (hb _ s7 σ6 H7 _ _ _ I7 q7 fun σ8 H8 s8 I8 q8=>zjY ⟨rfl,again I8 q8⟩) rfl
theorem A9t
  (h0:codeAny (model prog w) A (.compLoop (.ListComp elt [g,⟨target,iter,ifs,0⟩] scope pos) 1 it acc env) R s)
  (h:wpAny (model prog w) A (pyIter it) (fun it' s'=>codeAny (model prog w) A (.compLoop (.ListComp elt [g,⟨target,iter,ifs,0⟩] scope pos) 1 it' acc env) R s')
   (notedBy (model prog w) A env fun x s'=>R (.error x) s') s):
  codeAny (model prog w) A (.compStart (.ListComp elt [g,⟨target,iter,ifs,0⟩] scope pos) 1 it acc env) R s:=by
 refine codeAny_of_tree ?_
 show wpAny _ _ ((compStart (.ListComp elt [g,⟨target,iter,ifs,0⟩] scope pos) 1 it acc env).onRaise (fun x=>do noteFrame x env;standAt theWindowsPlace)) _ _ s;refine wpAny_notedAt ?_;unfold compStart;show wpAny _ _ (ask>>=_) _ _ s;refine zjZ (wpAny_askSetting (wpAny_ite ?_))
 split
 ·first
   |exact zjZ (zjY (zjY (And.intro rfl h0)))
   |exact zjY (And.intro rfl h0)
 ·first
   |exact zjZ (wpAny_rule (zjZ (wpAny_standAt (zjZ (wpAny_mono h (fun it' s' h'=>zjY (And.intro rfl h')) fun _ _ x=>x)))))
   | (refine zjZ (wpAny_rule ?_);show wpAny _ _ (standAt iter.pos>>=_) _ _ s;exact zjZ (wpAny_standAt (zjZ (wpAny_mono h (fun it' s' h'=>zjY (And.intro rfl h')) fun _ _ x=>x))))
theorem A0h (hx:Y.xe=fun _ _=>False)(hc:Y.calm=true)(hi:PI Y tg iter wi)(hg:PG Y tg g)(ht:PTs Y ifs tt)(he:PE Y elt te)
  (hs:∀x,foldedSetIterable iter Y.env x=pure x:=by intro _;rfl):
  PB Y (qO (.ListComp elt [g1,⟨tg,iter,ifs,0⟩] scope pos) iter (.ref l) Y.env) (kW wi g tt (dL l te)):=by
 intro pins s σ H Q Q' k I h hk;unfold qO;refine zjZ (thn (iG (hi pins s σ H _ I h) hx) fun v s1 h1=> ?_);refine zjZ (wpAny_standAt (zjZ (wpAny_of_eq (hs v) (zjZ (wpAny_holding (thn (iG h1 hx) fun itv s2 h2=> ?_))))));obtain⟨it,fp,tn,J,H2,e,I2,T,st2,f2,q2⟩:=h2;subst e;have L:codeAny (model Y.prog Y.w) Y.A (.compLoop (.ListComp elt [g1,⟨tg,iter,ifs,0⟩] scope pos) 1 (.ref it) (.ref l) Y.env) (fun r s'=>r= .ok .next/\∃σ' H',Inv Y pins σ' H' s'/\Q σ' H') s2:=
  kB hx hc (A28 ..) hg ht (rD hx he) I2 T st2 f2 q2
 refine zjZ (wpAny_runOwn (codeAny_mono (A9t L (T.self _ _ _ _ _ st2 L)) fun r s3 h3=> ?_));obtain⟨rfl,σ3,H3,I3,q3⟩:=h3;exact hk σ3 H3 s3 I3 q3
end
section
end
end L2
namespace PySem
open Sem (wp)
open AutoSeq1 (wpAny_loadPart')
section
theorem A63 (hit:s.heap.IsTupleIter it l i)
  (hl:s.heap.IsTuple l items)(hx:items[i]?=some x)
  (hQ:∀h',h'.IsTupleIter it l (i+1)->Heap.SameBut it s.heap h'->Q x {s with heap:=h'}):
  wpAny (model prog w) A (Builtin.SmallTypes.nextOf (.ref it)) Q E s:=by
 obtain⟨o,ho,hc,hd⟩:=id hit;obtain⟨ol,hol,_,nl,hdl⟩:=hl;unfold Builtin.SmallTypes.nextOf;refine zjZ (wpAny_callSpecial?_slot (name:=Str.ofString "__next__") hit.typeIs F.slot_tuple_iterator_next
  (wpAny_call_entry F.slot_tuple_iterator_next hit.typeIs F.entry_tuple_iterator_next ?_ (F.args_tuple_iterator_next_1 _)))
 show wpAny _ _ (field (.ref it) 0>>=_) _ _ s;refine zjZ (wpAny_field ho hd (x:=.ref l) rfl ?_);show wpAny _ _ (if (Value.ref l==Value.none)=true then _ else _) _ _ s;rw [if_neg (show¬((Value.ref l==Value.none)=true)from Bool.false_ne_true)];show wpAny _ _ (field (.ref it) 1>>=_) _ _ s;refine zjZ (wpAny_field ho hd (x:=.int i 0) rfl ?_);show wpAny _ _ (seqItems? (.ref l)>>=_) _ _ s;refine zjZ (wpAny_seqItems hol hdl ?_);simp only [Int.toNat_natCast,hx];refine zjZ (wpAny_setField ho hd (by simp) (zjY ⟨x,rfl,zjY (hQ _ ?_ (Heap.SameBut.update ..))⟩));exact⟨_,get?_update_self _ ho (Obj.isFreed_of_fields (Obj.data_mapFields hd _)),(Obj.cls_mapFields ..).trans hc,by
  rw [Obj.data_mapFields hd];simp [rawInt]⟩
theorem A6q (hh:A.handled=none)
  (hit:s.heap.IsTupleIter it l i)(hl:s.heap.IsTuple l items)(hx:items[i]?=none)
  (hE:∀h' e,Heap.ExtBut it s.heap h'->(∃o,h'.get? e=some o/\o.cls= .type "StopIteration")->E (.ref e) {s with heap:=h'}):
  wpAny (model prog w) A (Builtin.SmallTypes.nextOf (.ref it)) Q E s:=by
 obtain⟨o,ho,hc,hd⟩:=id hit;obtain⟨ol,hol,_,nl,hdl⟩:=hl;unfold Builtin.SmallTypes.nextOf;refine zjZ (wpAny_callSpecial?_slot (name:=Str.ofString "__next__") hit.typeIs F.slot_tuple_iterator_next
  (wpAny_call_entry F.slot_tuple_iterator_next hit.typeIs F.entry_tuple_iterator_next ?_ (F.args_tuple_iterator_next_1 _)))
 show wpAny _ _ (field (.ref it) 0>>=_) _ _ s;refine zjZ (wpAny_field ho hd (x:=.ref l) rfl ?_);show wpAny _ _ (if (Value.ref l==Value.none)=true then _ else _) _ _ s;rw [if_neg (show¬((Value.ref l==Value.none)=true)from Bool.false_ne_true)];show wpAny _ _ (field (.ref it) 1>>=_) _ _ s;refine zjZ (wpAny_field ho hd (x:=.int i 0) rfl ?_);show wpAny _ _ (seqItems? (.ref l)>>=_) _ _ s;refine zjZ (wpAny_seqItems hol hdl ?_);simp only [Int.toNat_natCast,hx];refine zjZ (wpAny_rule (zjZ (wpAny_setField ho hd (by simp) ?_)));show wpAny _ _ (newExc (.type "StopIteration") []>>=_) _ _ _;refine zjZ ?_;simp only [newExc,newTuple];refine zjZ (wpAny_newObj_type ?_ (by size_fits));refine zjZ (m:=firstArgMember _ _) (wpAny_of_eq (a:=Value.none) (by first|rfl| (simp only [firstArgMember];rfl)) ?_);refine wpAny_newObj_type ?_ (by size_fits);simp only [raiseNew];refine zjZ (wpAny_handled ?_)
 first|rw [show A.in1.handled=none from hh]|rw [hh]
 refine zjZ (zjY (wpAny_throw ?_));exact hE _ _ (((Heap.SameBut.update ..).extBut.push _).push _) ⟨_,get?_push_size _ rfl,rfl⟩
end
theorem Draws.tuple (hh:A.handled=none)(it l:Addr)(hne:l≠it)(items:Array Value):
  Draws prog w A it [it,l] items.size (fun i v=>items[i]?=some v) (fun i h=>h.IsTupleIter it l i/\h.IsTuple l items)where
 live:=fun _ _ st=>let ⟨o,ho,_⟩:=st.1;⟨o,ho⟩
 frame:=fun _ _ _ st hk=> ⟨st.1.at fun o e=>hk it (by simp) o e,let ⟨o,ho,r⟩:=st.2;⟨o,hk l (by simp) o ho,r⟩⟩
 item:=fun i s Q E hi st hQ=>by
  refine A63 st.1 st.2 (x:=items[i]) (by simp [hi]) fun h' hit' hs'=> ?_;exact hQ _ h' s.toks (by simp [hi]) ⟨hit',let ⟨o,ho,r⟩:=st.2;⟨o,(hs'.2 l hne).trans ho,r⟩⟩ hs'
 done:=fun s Q E st hE=>A6q hh st.1 st.2 (by simp) hE
theorem A72 (l:Addr)(items:Array Value)(n:Nat)(dct:Option Addr)(sl:Array (Option Value)):
  Meets (Builtin.«enumerate.__new__» ⟨[.type "enumerate",.ref l],[]⟩) (fun _ R s=>s.heap.get? l=some {cls:=.type "tuple",dict:=dct,data:=.seq items n,slots:=sl}/\
   R (.ok (.ret (.ref (s.heap.push {cls:=.type "tuple_iterator",data:=.fields #[.ref l,.int 0 0]}).objs.size)))
    {s with heap:=(s.heap.push {cls:=.type "tuple_iterator",data:=.fields #[.ref l,.int 0 0]}).push {cls:=.type "enumerate",data:=.fields #[.none,.bool false,.ref s.heap.objs.size,rawInt 0,.none,.none]}}):=
 .of_wp fun prog w A R s h=>by
  obtain⟨hp,g,d,tk,os⟩:=s;obtain⟨hl,h⟩:=h;have hsub:=sub_enumerate;have hL:Heap.IsTuple (Shared.heap ⟨hp,g,d,tk,os⟩) l items:=⟨_,hl,rfl,n,rfl⟩
  wp_walk using wpAny_loadPart' hl
  refine wpAny_stack_any fun st=>zjY ?_
  split
  ·rename_i c _ _ _ _ _;cases (c==Value.type "enumerate")
   ·wp_walk using wpAny_loadPart' hl,wpAny_pyIter_tuple hL
    exact⟨_,rfl,h⟩
   ·wp_walk using wpAny_loadPart' hl,wpAny_pyIter_tuple hL
    exact⟨_,rfl,h⟩
  ·wp_walk using wpAny_loadPart' hl,wpAny_pyIter_tuple hL
   exact⟨_,rfl,h⟩
section
theorem A2u (hL:s.heap.IsTuple l items)
  (h:∀h',IsEnum h' (s.heap.objs.size+1) s.heap.objs.size 0 .none->h'.IsTupleIter s.heap.objs.size l 0->h'.objs.size=s.heap.objs.size+2->
   (∀b o,s.heap.get? b=some o->h'.get? b=some o)->Q (.ref (s.heap.objs.size+1)) {s with heap:=h'}):
  wpAny (model prog w) A (call (.type "enumerate") [.ref l]) Q E s:=by
 obtain⟨⟨c,dct,dt,sl⟩,hl,hc,n,hd⟩:=hL;replace hc:c= .type "tuple":=hc;replace hd:dt= .seq items n:=hd;subst hc hd;refine callType_new F.called_enumerate (by decide) (F.typeCall_enumerate_1 _) (F.newCall_enumerate_1 _) (fun obj=>F.args_object_init_2 obj _) F.entry_enumerate_new
  (A72 l items n dct sl) ⟨hl,?_⟩
 have hz:(s.heap.push {cls:=.type "tuple_iterator",data:=.fields #[.ref l,.int 0 0]}).objs.size=s.heap.objs.size+1:=size_push ..;show _/\_;rw [hz];have he:IsEnum ((s.heap.push {cls:=.type "tuple_iterator",data:=.fields #[.ref l,.int 0 0]}).push
   {cls:=.type "enumerate",data:=.fields #[.none,.bool false,.ref s.heap.objs.size,rawInt 0,.none,.none]}) (s.heap.objs.size+1) s.heap.objs.size 0 .none:=by
  have:=get?_push_size (s.heap.push {cls:=.type "tuple_iterator",data:=.fields #[.ref l,.int 0 0]})
   (o:={cls:=.type "enumerate",data:=.fields #[.none,.bool false,.ref s.heap.objs.size,rawInt 0,.none,.none]}) rfl
  rw [hz]at this;exact this
 refine⟨⟨_,he,rfl⟩,h _ he ⟨_,zjX _ (get?_push_size _ rfl),rfl,rfl⟩ (by rw [size_push,hz]) fun b o x=>zjX _ (zjX _ x)⟩
end
open Builtin
open AutoSeq1 (wpAny_loadPart')
namespace F
end F
section
end
end PySem
namespace PySem
open Sem (wp)
open Builtin
open AutoSeq1 (wpAny_loadPart')
section
variable {prog:Program}{w:World}{K:Type} [DecidableEq K]{knd:KeyKind prog w K}{A:Around}{E:Value->Shared->Prop}{R:Result->Shared->Prop}
end
end PySem
namespace L2
open PySem PySem.Spec PyProof.Rows
section
theorem nP:dZ X (.builtin "isinstance") (fun xs H Q=> ∃x T t b,xs=[x,.ty T]/\TyOf X.K H x t/\W.kitOne X.K t (.type T)=some b/\Q (.bl b) H):=by intro pins s σ H xs us Q I r h;obtain⟨x,T,t,b,rfl,ty,e,q⟩:=h;obtain⟨u,w',rfl,rx,rT⟩:=nU r;cases (show w'=Value.type T from rT);exact A42 I rx ty e fun tk=> ⟨.bl b,H,I.tok _,rfl,q⟩
theorem oU:∀{bs:List Bool}{us:List Value},Vals (bs.map V.bl) us->LSm.BoolsAre us bs
 | [],_,.nil=> .nil
 |b::bs,_,.cons r t=>by
  cases (show _=Value.bool b from r);exact .cons b (oU t)
end
section
theorem fU (hc:X.calm=true):dZ X (.builtin "all") (fun xs H Q=> ∃(p:Addr)(bs:List Bool),xs=[.ref p]/\SqL X.K H p (bs.map V.bl)/\Q (.bl (bs.all id)) H):=by
 intro pins s σ H xs us Q I r h;obtain⟨p,bs,rfl,hq,q⟩:=h;obtain⟨u,rfl,rx⟩:=eK r;cases rx;obtain⟨its,rv,pl,hz⟩:=I.list hq;have hb:=oU rv;have hlt:p<s.heap.objs.size:=by obtain⟨_,e,_⟩:=pl.isList;exact zjT e
 refine call_all_walk (wpAny_pyIter_list pl.isList ?_);refine⟨s.heap.objs.size,[s.heap.objs.size,p],[s.heap.objs.size],its.toArray.size,_,_,fun i=>(bs[i]?).getD true,rfl,Walks.list (A:=X.A.in1) (by simp [I.ok.hd hc]) _ p (ne_of_lt hlt) its.toArray,⟨⟨_,get?_push_size _ rfl,rfl,rfl⟩,pl.isList.push _⟩,fun i v s' Q' E' hP hQ=> ?_,fun h' tk hk=> ?_⟩
 ·obtain⟨b,e,rfl⟩:=hb.get i v (by simpa using hP);dsimp only at hQ;rw [e]at hQ;exact wpAny_truthy_bool hQ
 ·have e:((List.range its.toArray.size).all fun i=>(bs[i]?).getD true)=bs.all id:=by rw [size_toArray,hb.length,LSm.range_all]
  rw [e];exact⟨.bl _,H,I.kept (h':=h') (t':=tk) (LSm.kept_iter hk),rfl,q⟩
theorem rG (hc:X.calm=true):dZ X (.builtin "any") (fun xs H Q=> ∃(p:Addr)(bs:List Bool),xs=[.ref p]/\SqL X.K H p (bs.map V.bl)/\Q (.bl (bs.any id)) H):=by
 intro pins s σ H xs us Q I r h;obtain⟨p,bs,rfl,hq,q⟩:=h;obtain⟨u,rfl,rx⟩:=eK r;cases rx;obtain⟨its,rv,pl,hz⟩:=I.list hq;have hb:=oU rv;have hlt:p<s.heap.objs.size:=by obtain⟨_,e,_⟩:=pl.isList;exact zjT e
 refine call_any_walk (wpAny_pyIter_list pl.isList ?_);refine⟨s.heap.objs.size,[s.heap.objs.size,p],[s.heap.objs.size],its.toArray.size,_,_,fun i=>(bs[i]?).getD false,rfl,Walks.list (A:=X.A.in1) (by simp [I.ok.hd hc]) _ p (ne_of_lt hlt) its.toArray,⟨⟨_,get?_push_size _ rfl,rfl,rfl⟩,pl.isList.push _⟩,fun i v s' Q' E' hP hQ=> ?_,fun h' tk hk=> ?_⟩
 ·obtain⟨b,e,rfl⟩:=hb.get i v (by simpa using hP);dsimp only at hQ;rw [e]at hQ;exact wpAny_truthy_bool hQ
 ·have e:((List.range its.toArray.size).any fun i=>(bs[i]?).getD false)=bs.any id:=by rw [size_toArray,hb.length,LSm.range_any]
  rw [e];exact⟨.bl _,H,I.kept (h':=h') (t':=tk) (LSm.kept_iter hk),rfl,q⟩
theorem Inv.turnedL {fp:List Addr}{h':Heap}{t':Nat}(I:Inv X pins σ H s)(k:∀b o,b∉fp->s.heap.get? b=some o->h'.get? b=some o)(hf:∀b∈fp,fM X pins H b):Inv X pins σ H {s with heap:=h',toks:=t'}:=by
 have nfp:∀b u,H b=some u->b∉fp:=fun b u e z=>by rw [(hf b z).1]at e;cases e
 refine I.step (g':=s.gens) (d':=s.drawn) (ch:=fp) (fun b hb=> ⟨(hf b hb).2.2.2.1,(hf b hb).2.1,(hf b hb).2.2.2.2.1,(hf b hb).2.2.2.2.2⟩) (fun b o _ _ hc e _=>k b o hc e) (fun b o _ _ hc e _=> ⟨o.slots,k b o hc e⟩) (fun _ _ _ _ n=>n) (fun b o hc e=> ⟨o,k b o hc e⟩)
  (fun _ _ e=>e) (fun _ _ _ e=>e) (fun b ps e=> ⟨#[],by rw [e];simp⟩) (fun m hm=> ?_) (fun b u e=> ?_) I.bare
 ·obtain⟨o,es,ep,ho,r⟩:=hm;exact⟨o,es,ep,k _ o (fun z=>(hf _ z).2.1 rfl) ho,r⟩
 ·refine(I.hok b u e).stay (fun c v hc q=>k c v ?_ q) (fun _ q=>q) fun _ _ q=>q;rcases hc with z|z
  ·rw [z];exact nfp b u e
  ·exact nfp c _ z
theorem Inv.turnLaid {fp:List Addr}{h':Heap}{t':Nat}{p:Addr}{o:HO}(I:Inv X pins σ H s)(k:∀b u,b∉fp->s.heap.get? b=some u->h'.get? b=some u)(hf:∀b∈fp,fM X pins H b)(hp:s.heap.objs.size<=p)
  (new:ObjOk X.prog X.w (upd H p o) h' p o):Inv X pins σ (upd H p o) {s with heap:=h',toks:=t'}:=by
 have nfp:∀b u,H b=some u->b∉fp:=fun b u e z=>by rw [(hf b z).1]at e;cases e
 have hn:=I.hok.fresh hp;have old:∀{b:Addr}{u:Obj},s.heap.get? b=some u->b≠p:=fun e=>ne_of_lt (lt_of_lt_of_le (zjT e) hp);refine I.step (g':=s.gens) (d':=s.drawn) (ch:=fp) (fun b hb=> ⟨(hf b hb).2.2.2.1,(hf b hb).2.1,(hf b hb).2.2.2.2.1,(hf b hb).2.2.2.2.2⟩) (fun b o _ _ hc e _=>k b o hc e) (fun b o _ _ hc e _=> ⟨o.slots,k b o hc e⟩) (fun b o _ e n=>by rw [aV (old e)];exact n) (fun b o hc e=> ⟨o,k b o hc e⟩)
  (fun b xs e=>by rw [aV (bG e hn)];exact e) (fun b u xs e=>by rw [aV (bG e hn)];exact e) (fun b ps e=> ⟨#[],by rw [aV (bG e hn),e];simp⟩) (fun m hm=> ?_) (fun b u e=> ?_) I.bare
 ·obtain⟨o,es,ep,ho,r⟩:=hm;exact⟨o,es,ep,k _ o (fun z=>(hf _ z).2.1 rfl) ho,r⟩
 ·by_cases hb:b=p
  ·subst hb;rw [aG]at e;cases e;exact new
  ·rw [aV hb]at e;refine(I.hok b u e).stay (fun c v hc q=>k c v ?_ q) (fun c q=>by rw [aV (bG q hn)];exact q) fun c xs q=>by rw [aV (bG q hn)];exact q
   rcases hc with z|z
   ·rw [z];exact nfp b u e
   ·exact nfp c _ z
noncomputable def Ite (S:Hp->List V->Prop):It:=
 ⟨fun i H=> ∃xs x,S H xs/\xs[i]?=some x,fun i H x H'=> ∃p y,x= .ref p/\H p=none/\H'=upd H p (.tup [.int i,y])/\∀xs,S H xs->xs[i]?=some y,fun i H=> ∃xs,S H xs/\xs.length=i⟩
theorem A6z {P:Program}{w:World}{K:W.Frag}{es:List Expr}{x1}{pos:Pos}(e it a:Addr)(hei:e≠it):
  iB P w K (.Tuple es x1 pos) (Ite fun H xs=>SqT K H a xs) [e,it] e (fun i h=>(∃old,IsEnum h e it i old)/\h.IsTupleIter it a i/\a≠it/\a≠e)where
 mem:=by simp
 obj:=fun i h st b hb=>by
  obtain⟨⟨old,he⟩,⟨o,e1,c,d⟩,_⟩:=st;rcases mem_cons.mp hb with z|z
  ·subst z;exact⟨_,he,fun v z=>by cases z⟩
  ·have z':=mem_singleton.mp z;subst z';exact⟨o,e1,fun v z=>by rw [d]at z;cases z⟩
 keep:=fun i h h' st k=> ⟨let ⟨old,he⟩:=st.1;⟨old,k e (by simp) _ he⟩,st.2.1.at fun o q=>k it (by simp) o q,st.2.2⟩
 item:=by
  intro X hP hw hK hc i pins s σ H E I hf st hg;subst hP hw hK;obtain⟨⟨old,he⟩,hit,hai,hae⟩:=st;obtain⟨xs,x,hq,hx⟩:=hg;obtain⟨its,rv,p,hz⟩:=I.tuple hq;obtain⟨u,hu,ru⟩:=rv.get hx;have hlt:i<its.toArray.size:=by
   rw [size_toArray];exact(zjW.mp hu).1
  refine wpAny_pyNext_enum_itemD (Draws.tuple (A:=X.A.in1) (by simp [I.ok.hd hc]) it a hai its.toArray) he ⟨hit,p⟩ hlt hei (by simp [hei,Ne.symm hae]) fun v h' tk hv ho hst' hT hsz hk=> ?_;have hv':v=u:=by
   have e1:its[i]?=some v:=by simpa using hv
   rw [hu]at e1;exact(Option.some.inj e1).symm
  subst hv';refine⟨_,rfl,wpAny_letOwnedTupleGo_enum (s:={s with heap:=h',toks:=tk+1}) ho fun h2 he2 hs2=> ?_⟩;have helt:e<s.heap.objs.size:=zjT he;have hilt:it<s.heap.objs.size:=by obtain⟨_,q,_⟩:=hit;exact zjT q
  have hTe:s.heap.objs.size≠e:=ne_of_gt helt;have hn:H s.heap.objs.size=none:=I.hok.fresh (zjQ _);have kp:∀b o,b∉[e,it]->s.heap.get? b=some o->h2.get? b=some o:=fun b o hb q=>by
   have hbe:b≠e:=fun z=>hb (by simp [z]);have hbi:b≠it:=fun z=>hb (by simp [z]);exact(hs2.2 b hbe).trans (hk b o hbe hbi q)
  have hT2:h2.get? s.heap.objs.size=some {cls:=.type "tuple",data:=.seq #[.int i tk,v]}:=(hs2.2 _ hTe).trans hT;have I2:Inv X pins σ (upd H s.heap.objs.size (.tup [.int i,x])) {s with heap:=h2,toks:=tk+1}:=I.turnLaid (fp:=[e,it]) kp hf (zjQ _) ⟨by show 2<=sizeLine;rw [sizeLine_eq];decide,[.int i tk,v],.cons ⟨_,rfl⟩ (.cons ru .nil),⟨_,hT2,rfl,_,rfl⟩⟩;refine⟨.ref s.heap.objs.size,_,I2,rfl,⟨s.heap.objs.size,x,rfl,hn,rfl,fun ys hy=>by rw [I.tuple_inj hy hq];exact hx⟩,⟨⟨_,by simpa using he2⟩,hst'.1.at fun o q=>(hs2.2 it hei.symm).trans q,hai,hae⟩,fun b hb=> ?_⟩;have hbz:b≠s.heap.objs.size:=by
   rcases mem_cons.mp hb with z|z
   ·rw [z];exact ne_of_lt helt
   ·rw [mem_singleton.mp z];exact ne_of_lt hilt
  rw [aV hbz];exact(hf b hb).1
 done:=by
  intro X hP hw hK hc i pins s σ H E I hf st hg;subst hP hw hK;obtain⟨⟨old,he⟩,hit,hai,hae⟩:=st;obtain⟨xs,hq,hx⟩:=hg;obtain⟨its,rv,p,hz⟩:=I.tuple hq;have hl:=rv.length;have hi:its.toArray.size=i:=by rw [size_toArray,←hl,hx]
  refine wpAny_pyNext_enum_endD (Draws.tuple (A:=X.A.in1) (by simp [I.ok.hd hc]) it a hai its.toArray) he (by rw [hi];exact⟨hit,p⟩) fun h' hs'=> ⟨rfl,?_⟩;exact I.turned (it:=it) (t':=s.toks) (fun b o hb q=>hs' b o hb q) (hf it (by simp)).1 (hf it (by simp)).2.1 (hf it (by simp)).2.2.2.1 (hf it (by simp)).2.2.2.2.1 (hf it (by simp)).2.2.2.2.2
 self:=fun _ _ _ _ _ st h=>let ⟨old,he⟩:=st.1;wpAny_pyIter_enum he h
noncomputable def tI (K:W.Frag)(ta:TA):TI:=fun σ H R=>ta σ H fun vs H1=> ∃a xs,vs=[.ref a]/\SqT K H1 a xs/\R (Ite fun H xs=>SqT K H a xs) H1
theorem gS {a:Expr}{ta:TA}{p pos:Pos}{es:List Expr}{x1}{tpos:Pos}(hc:X.calm=true)(hg:Gl X "enumerate")(hm:X.mg "enumerate" =none)(ha:PA X [a] ta)(hs:starEach [a] X.env=[(false,eval a X.env)]:=by rfl):
  PI X (.Tuple es x1 tpos) (.Call (.Name "enumerate" p) [a] [] pos) (tI X.K ta):=by
 intro pins s σ H R I h;refine Call_ (gL I hg hm boot_enumerate (PyProof.Rows.callWith_type1 (thn (ha pos pins s σ H _ I h) fun us s1 ⟨vs,H1,I1,r1,q1⟩=> ?_) hs rfl));obtain⟨b,xs,e,hq,q⟩:=q1;subst e;obtain⟨u,rfl,rx⟩:=eK r1;cases rx;obtain⟨its,rv,pt,hz⟩:=I1.tuple hq;have hblt:b<s1.heap.objs.size:=by obtain⟨o,ho,_⟩:=id pt;exact zjT ho
 refine A2u pt fun h' he hit hsz hk=> ?_;refine wpAny_pyIter_enum (s:={s1 with heap:=h'}) he ?_;have I2:Inv X pins σ H1 {s1 with heap:=h'}:=I1.kept (t':=s1.toks) hk;refine⟨s1.heap.objs.size+1,[s1.heap.objs.size+1,s1.heap.objs.size],_,_,H1,rfl,I2,A6z _ _ b (Nat.succ_ne_self _),⟨⟨_,he⟩,hit,ne_of_lt hblt,ne_of_lt (lt_succ_of_lt hblt)⟩,fun c hc'=> ?_,q⟩;have hge:s1.heap.objs.size<=c:=by
  rcases mem_cons.mp hc' with z|z
  ·rw [z];exact le_succ _
  ·rw [mem_singleton.mp z];exact zjQ _
 exact I1.fpOk hge (I1.hok.fresh hge)
theorem jJ (Pv:Nat->St->Hp->Prop)(h0:Pv 0 σ H)(hl:∀i σ H,i<=xs.length->Pv i σ H->S H xs)
  (hs:∀i x p σ H,xs[i]?=some x->Pv i σ H->H p=none->g (.ref p) σ (upd H p (.tup [.int i,x])) fun σ2 H2=>tb {D with nx:=Pv (i+1),ct:=Pv (i+1),bk:=D.nx} σ2 H2)(hd:∀σ H,Pv xs.length σ H->D.nx σ H):
  dI (Ite S) g tb D σ H:=by
 refine⟨fun i m σ H=>m=xs.length - i/\i<=xs.length/\Pv i σ H,⟨xs.length,by simp,zero_le _,h0⟩,?_⟩;rintro i m σ H ⟨rfl,hi,p⟩;have q:=hl i σ H hi p;by_cases hlt:i<xs.length
 ·refine .inr ⟨⟨xs,xs[i],q,by simp [hlt]⟩,Pv (i+1),fun σ' H' p'=> ⟨xs.length -(i+1),by omega,rfl,hlt,p'⟩,fun x H' y=> ?_⟩;obtain⟨pp,yy,e1,e2,e3,e4⟩:=y;subst e1 e3;exact hs i yy pp σ H (e4 xs q) p e2
 ·have e:i=xs.length:=by omega
  subst e;exact .inl ⟨⟨xs,q,rfl⟩,hd σ H p⟩
end
section
noncomputable def NewTup (H:Hp)(ys:List V)(Q:VK):Prop:=∀p H',Same H H'->H' p=some (.tup ys)->Q (.ref p) H'
theorem aM (h:H p=none):Same H (upd H p o):=fun b u e=>by rw [aV (bG e h)];exact e
theorem NewTup.new (h:NewTup H ys Q)(hp:H p=none):Q (.ref p) (upd H p (.tup ys)):=h p _ (aM hp) aG
theorem NewTup.old (h:NewTup H ys Q)(hp:H p=some (.tup ys)):Q (.ref p) H:=h p H (Same.refl H) hp
theorem Inv.newTup (I:Inv X pins σ H s)(r:Vals ys its)(hz:ys.length<=sizeLine)(h:NewTup H ys Q):EP X pins σ Q (.ref s.heap.objs.size) {s with heap:=s.heap.push {cls:=.type "tuple",data:=.seq its.toArray}}:=
 ⟨.ref s.heap.objs.size,_,I.laid (t':=s.toks) (o:=.tup ys) (fun b ob q=>zjX _ q) (zjQ _) ⟨hz,_,r,IsTup.new _ _⟩,rfl,h.new (I.hok.fresh (zjQ _))⟩
noncomputable def A30:R2:=fun x y H Q=> ∃a b xs ys,x= .ref a/\y= .ref b/\H a=some (.tup xs)/\H b=some (.tup ys)/\xs.length+ys.length<=sizeLine/\NewTup H (xs++ys) Q
theorem A4s:OpR X (binaryOp .Add) A30:=by
 intro pins s σ H x y v u Q I rx ry h;obtain⟨a,b,xs,ys,rfl,rfl,ha,hb,hz,q⟩:=h;cases rx;cases ry;obtain⟨its,r1,p1,_⟩:=I.tuple (SqT.of ha);obtain⟨its2,r2,p2,_⟩:=I.tuple (SqT.of hb);by_cases hx:xs=[]
 ·subst hx;cases r1;obtain⟨⟨c1,d1,t1,l1⟩,ho,hc,n,hd⟩:=id p1;obtain⟨⟨c2,d2,t2,l2⟩,ho2,hc2,n2,hd2⟩:=id p2;simp only at hc hd hc2 hd2;subst hc hd hc2 hd2;exact concat_meets ⟨_,ho,rfl⟩ ⟨_,ho2,rfl⟩ noFill_tuple_add seq_tuple_add PySem.F.slot_tuple_add PySem.F.entry_tuple_add (PySem.F.args_tuple_add_2 _ _) (tuple_addW0 a b _ _ n n2 d1 d2 l1 l2 (by simp)) ⟨ho,ho2,.ref b,H,I,rfl,q.old hb⟩
 ·refine HT.cat_tup p1 p2 (fun z=>hx (r1.nil_iff.mp z)) (fun z=> ⟨.ref a,H,I,rfl,?_⟩) (fun z=>I.newTup (r1.append r2) (by rw [length_append];exact hz) q) (by rw [←r1.length,←r2.length];exact hz);have:ys=[]:=r2.nil_iff.mp z;subst this;rw [append_nil]at q;exact q.old ha
end
section
end
noncomputable def Kn (H:Hp):Nat->V->Prop
 |0,_=>True
 |n+1,v=>match v with
  | .non=>True
  | .bl _=>True
  | .int _=>True
  | .str _=>True
  | .ref a=>(∃xs,H a=some (.lst xs))\/(∃kvs,H a=some (.dK kvs))\/ ∃xs,H a=some (.tup xs)/\xs.length<=1000/\∀x∈xs,Kn H n x
  |_=>False
noncomputable def KnA (H:Hp)(v:V):Prop:=∀n,Kn H n v
structure Ext (H H':Hp):Prop where
 tup:∀a xs,H a=some (.tup xs)->H' a=some (.tup xs)
 lst:∀a xs,H a=some (.lst xs)->∃ys,H' a=some (.lst ys)
 dct:∀a kvs,H a=some (.dK kvs)->H' a=some (.dK kvs)
theorem Ext.trans (a:Ext H H1)(b:Ext H1 H2):Ext H H2:=⟨fun _ _ h=>b.tup _ _ (a.tup _ _ h),fun _ _ h=>let ⟨_,e⟩:=a.lst _ _ h;b.lst _ _ e,fun _ _ h=>b.dct _ _ (a.dct _ _ h)⟩
theorem Same.ext (s:Same H H'):Ext H H':=⟨fun _ _ h=>s _ _ h,fun _ xs h=> ⟨xs,s _ _ h⟩,fun _ _ h=>s _ _ h⟩
theorem Kn.le:∀{n m:Nat}{v:V},n<=m->Kn H m v->Kn H n v
 |0,_,_,_,_=>True.intro
 |n+1,0,_,h,_=>absurd h (by omega)
 |n+1,m+1,v,h,k=>by
  cases v with
  |ref a=>
   rcases k with⟨xs,k⟩| ⟨kvs,k⟩| ⟨xs,k,hl,hx⟩
   ·exact .inl ⟨xs,k⟩
   ·exact .inr (.inl ⟨kvs,k⟩)
   ·exact .inr (.inr ⟨xs,k,hl,fun x hm=>Kn.le (by omega) (hx x hm)⟩)
  |_=>exact k
theorem KnA.int (i:Int):KnA H (.int i):=fun n=>by cases n<;>exact True.intro
theorem KnA.tup (h:H a=some (.tup xs))(hl:xs.length<=1000)(hx:∀x∈xs,KnA H x):KnA H (.ref a):=fun n=>by
 cases n with
 |zero=>exact True.intro
 |succ n=>exact .inr (.inr ⟨xs,h,hl,fun x hm=>hx x hm n⟩)
noncomputable def isInt:V->Bool| .int _=>true|_=>false
noncomputable def qK:V->Bool| .bl _=>true|_=>false
noncomputable def eZ (H:Hp):V->Option (List V)
 | .ref a=>match H a with|some (.tup xs)=>some xs|_=>none
 |_=>none
theorem hW (h:H a=some (.tup xs)):eZ H (.ref a)=some xs:=by simp [eZ,h]
theorem A3t (h:eZ H v=some xs):∃a,v= .ref a/\H a=some (.tup xs):=by
 cases v with
 |ref a=>
  unfold eZ at h;cases e:H a with
  |none=>simp [e]at h
  |some o=>cases o<;>simp [e]at h;subst h;exact⟨a,rfl,e⟩
 |_=>simp [eZ]at h
section
variable {K:W.Frag}
theorem A0v {H:Hp}{v:V}(k:Kn H 1 v):∃t,TyOf K H v t/\W.kitOne K t (.type "int")=some (isInt v||qK v)/\W.kitOne K t (.type "bool")=some (qK v)/\W.kitOne K t (.type "tuple")=some (eZ H v).isSome:=by
 cases v with
 |non=>exact⟨_,.non,by kernel_rfl,by kernel_rfl,by kernel_rfl⟩
 |bl b=>exact⟨_,.bl b,by kernel_rfl,by kernel_rfl,by kernel_rfl⟩
 |int i=>exact⟨_,.int i,by kernel_rfl,by kernel_rfl,by kernel_rfl⟩
 |str x=>exact⟨_,.str x,by kernel_rfl,by kernel_rfl,by kernel_rfl⟩
 |ref a=>
  rcases k with⟨xs,k⟩| ⟨kvs,k⟩| ⟨xs,k,hl,hx⟩
  ·refine⟨_,.lst k,by kernel_rfl,by kernel_rfl,?_⟩;have:(eZ H (.ref a)).isSome=false:=by simp [eZ,k]
   rw [this];kernel_rfl
  ·refine⟨_,.dK k,by kernel_rfl,by kernel_rfl,?_⟩;have:(eZ H (.ref a)).isSome=false:=by simp [eZ,k]
   rw [this];kernel_rfl
  ·refine⟨_,.tup k,by kernel_rfl,by kernel_rfl,?_⟩;have:(eZ H (.ref a)).isSome=true:=by simp [eZ,k]
   rw [this];kernel_rfl
 |_=>exact(show False from k).elim
end
noncomputable def dG (lo hi:Int):V->Bool| .int i=>decide (lo<=i)&&decide (i<=hi)|_=>false
noncomputable def PenAt (H:Hp)(p:Addr):Prop:=∃x f:Int,H p=some (.lst [.int x,.int f])
structure Stp (p:Addr)(H H':Hp):Prop where
 pen:PenAt H' p
 keep:∀b o,b≠p->H b=some o->H' b=some o
theorem Stp.refl (h:PenAt H p):Stp p H H:=⟨h,fun _ _ _ e=>e⟩
theorem Stp.trans (a:Stp p H H1)(b:Stp p H1 H2):Stp p H H2:=⟨b.pen,fun c o h e=>b.keep c o h (a.keep c o h e)⟩
theorem Stp.same (a:Stp p H H1)(s:Same H1 H2):Stp p H H2:=⟨let ⟨x,f,e⟩:=a.pen;⟨x,f,s _ _ e⟩,fun b o h e=>s _ _ (a.keep b o h e)⟩
theorem PenAt.ne (h:PenAt H p)(e:H b=some o)(n:∀xs,o≠ .lst xs):b≠p:=fun z=>by
 obtain⟨x,f,e2⟩:=h;rw [z,e2]at e;cases e;exact n _ rfl
theorem Stp.ext (h:PenAt H p)(s:Stp p H H'):Ext H H' where
 tup:=fun a xs e=>s.keep a _ (h.ne e (by intro z;simp)) e
 lst:=fun a xs e=>by
  by_cases ha:a=p
  ·obtain⟨x,f,e2⟩:=s.pen;exact⟨_,by rw [ha];exact e2⟩
  ·exact⟨xs,s.keep a _ ha e⟩
 dct:=fun a kvs e=>s.keep a _ (h.ne e (by intro z;simp)) e
theorem gC {K:W.Frag}{a l:Addr}{xs:List V}{te:TE}{H0:Hp}{rest:St}{Q:St->Hp->Prop}(f:V->V)(ha:H0 a=some (.tup xs))(hl:H0 l=none)(hz:xs.length<=1000)
  (turn:∀x H' Q',x∈xs->Same H0 H'->(∀H2,Same H' H2->Q' (f x) H2)->te (some x::rest) H' Q')(hQ:∀σ H',Same H0 H'->H' l=some (.lst (xs.map f))->Q σ H'):
  dI (Itt K a) (cO 0) (cL fX (dL l te)) (eC Q) (none::rest) (upd H0 l (.lst [])):=by
 have s0:Same H0 (upd H0 l (.lst [])):=aM hl;refine gM (K:=K) (a:=a) (xs:=xs) (fun i σ H'=>(∃o,σ=o::rest)/\Same H0 H'/\H' l=some (.lst ((xs.take i).map f))) ⟨⟨_,rfl⟩,s0,by rw [aG];rfl⟩ (fun i σ H' _ h=>SqT.of (h.2.1 _ _ ha)) ?_ ?_
 ·rintro i x σ H' hx ⟨⟨o,rfl⟩,hs,hl'⟩;show dL l te (some x::rest) H' _;refine turn x H' _ (mem_of_getElem? hx) hs fun H2 h2=> ?_;refine⟨_,h2 _ _ hl',?_,⟨_,rfl⟩,fun b u e=> ?_,?_⟩
  ·rw [length_map,length_take];exact cA (by omega)
  ·rw [aV (bG e hl)];exact h2 _ _ (hs _ _ e)
  ·rw [aG,take_succ,hx,map_append];rfl
 ·rintro σ H' ⟨_,hs,hl'⟩;rw [take_of_length_le (zjQ _)]at hl';exact hQ σ H' hs hl'
theorem hZ (h:tb σ H D.nx):cL fX tb D σ H:=by show(if true=true then tb σ H D.nx else D.nx σ H);exact fR h
theorem iP (h:tb (σ.set i (some v)) H D.nx):cO i v σ H (fun σ2 H2=>cL fX tb D σ2 H2):=hZ h
theorem dC {b:Bool}{A B:Prop}(h1:b=true->A)(h2:b=false->B):if b=true then A else B:=by
 cases b with
 |true=>exact fR (h1 rfl)
 |false=>exact bL (h2 rfl)
theorem dR {c:Prop} [Decidable c]{A B:Prop}(h1:c->A)(h2:¬c->B):if decide c=true then A else B:=by
 by_cases h:c
 ·rw [zjV h];exact fR (h1 h)
 ·rw [zjU h];exact bL (h2 h)
end L2
namespace L2
open PySem PyProof.Rows
section
variable {P:Program}{w:World}{K:W.Frag}{mg:Str->Option Value}{base:Heap}{x:Str}{st:Stmt}{ps:List Str}{sp:Sp}
noncomputable def D1 (K:W.Frag)(mg:Str->Option Value)(x:Str)(st:Stmt)(ps:List Str):Prop:=∃f fd,Fun K x x st f fd/\mg x=some (.ref f)/\Binds K fd ps []
noncomputable def A1 (P:Program)(w:World)(K:W.Frag)(mg:Str->Option Value)(base:Heap)(k:Nat)(x:Str)(sp:Sp):Prop:=∃f fd ps,mg x=some (.ref f)/\W.keepIn K (.ref f)=true/\Binds K fd ps []/\gD P w K mg base CX0 k f fd ps sp
theorem D1.k {k:Nat}(F:D1 K mg x st ps)(N:List Str)
  (hbody:N.Nodup->∀(f:Addr)(cdv:Value)(A:Around)(outer:List Env)(s:Shared)(H:Hp)(vs:List V)(Q:VK)(E:XK),Room k (A.deeper (envOfC x (bC st) s.heap.objs.size f cdv))->sp vs H Q E->
   ∃t,PSs (fH CX0 P w K mg base N x (bC st) f cdv A outer s H E).nox (cR st) t/\t {nx:=fun _ H'=>Q .non H',rt:=Q} (start N vs) H)
  (S:gK N ps (bC st):=by ac_rfl)
  (len:∀vs H Q E,sp vs H Q E->vs.length=ps.length:=by intro _ _ _ _ h;repeat (first|exact congrArg List.length h.1|obtain⟨_,h⟩:=h)):A1 P w K mg base (k+1) x sp:=
 let ⟨f,fd,F,m,b⟩:=F
 ⟨f,fd,ps,m,F.kp,b,F.ok S len (hbody S.nd f)⟩
theorem A1.c (a:A1 X.prog X.w X.K X.mg X.base k x sp)(hr:Room m X.A)(ha:PA X (e::es) t)(h:k<=m:=by decide)(hg:Gl X x:=by rfl)(hdb:(x==("__debug__":Str))=false:=by decide)(he:starEach (e::es) X.env=(false,eval e X.env)::starEach es X.env:=by rfl)(hpl:(backTo pos (starEach es X.env)).any (·.1)=false:=by rfl):
  PE X (.Call (.Name x p) (e::es) [] pos) (uM sp [] E0 t):=let ⟨_,_,_,m,k,b,g⟩:=a;A8x g (hr.mono h) hg m k b .nil A2d ha hdb he hpl
noncomputable def Fk (K:W.Frag)(x:Str)(st:Stmt):Prop:=∃f fd,W.nsIn K mainGlobals x=some (some (.ref f))/\Fun K x x st f fd
theorem B0i {f:Addr}{oc:Value}{od an:Option Addr}{osl:Array (Option Value)}{kV doc pm cdv ct:Value}(a:W.nsIn K mainGlobals x=some (some (.ref f)))(l:K.lookup f=some ⟨oc,od,.func (W.fnOf x x (iF st) (cR st) (bC st) .none kV doc pm an cdv ct),osl⟩)(c:W.codeIn K cdv x=true)(k:W.keepIn K (.ref f)=true):Fk K x st:=⟨_,_,a,A3a l c k⟩
theorem Fk.d {h:Heap}(q:Fk K x st)(X:K.In h)(G:h.Ns mainGlobals mg)(hb:∀(kV doc pm:Value)(an:Option Addr)(cdv ct:Value)(us:List Value),us.length=ps.length->bindArgs (W.fnOf x x (iF st) (cR st) (bC st) .none kV doc pm an cdv ct) ⟨us,[]⟩=pure (ps.zip us):=by intro _ _ _ _ _ _ us hl;first| (match us,hl with| [_],_=>rfl)| (match us,hl with| [_,_],_=>rfl)| (match us,hl with| [_,_,_],_=>rfl)):D1 K mg x st ps:=let ⟨f,fd,a,F⟩:=q;⟨f,fd,F,W.mg_of X G a,F.binds hb⟩
theorem Fk.law {h:Heap}{y:Str}{fa:Addr}(q:Fk K x st)(X:K.In h)(G:h.Ns mainGlobals mg)(hfa:mg x=some (.ref fa))(hb:∀(kV doc pm:Value)(an:Option Addr)(cdv ct:Value)(u:Value),bindArgs (W.fnOf x x (iF st) (cR st) (bC st) .none kV doc pm an cdv ct) ⟨[u],[]⟩=pure [(y,u)]):∃fd,Fun K x x st fa fd/\∀(s:Shared)(v:Value),BindsTo s fd ⟨[v],[]⟩ [(y,v)]:=by obtain⟨f,fd,a,F⟩:=q;have e2:=hfa.symm.trans (W.mg_of X G a);cases e2;obtain⟨oc,od,kV,doc,pm,an,cdv,ct,osl,rfl,lk,hcd⟩:=F.ex;exact⟨_,F,fun s v=> .of_eq (hb _ _ _ _ _ _ _)⟩
end
end L2
namespace L2
open PySem PySem.Spec PyProof.Rows
section
end
section
end
section
end
noncomputable def gX (ns:List (Str×NameKind))(N:List Str)(scope:Scope)(frees:List (Str×Nat)):Prop:=
 (∀x∈scope.names,(x.2= .cell->scope.names.lookup x.1=some .cell)/\(x.2= .local->scope.names.lookup x.1=some .local)/\(x.2= .free->ns.lookup x.1=some .cell\/ns.lookup x.1=some .free))/\
 ∀p∈frees,N[p.2]?=some p.1/\scope.names.lookup p.1=some .free/\(ns.lookup p.1=some .cell\/ns.lookup p.1=some .free)
instance (ns:List (Str×NameKind)) (N:List Str) (scope:Scope) (frees:List (Str×Nat)):Decidable (gX ns N scope frees):=by unfold gX;infer_instance
noncomputable def cE (X:Cx)(N:List Str)(scope:Scope)(Z:dH):Cx:={A2r X N scope Z with fn:=fun x=>scope.names.lookup x==some .cell}
theorem oB:∀(names:List (Str×NameKind))(n:Nat)(a b:List (Str×Addr)),cellsFrom n names (a++b)=cellsFrom n names a++b
 | [],_,_,_=>rfl
 | (x,k)::r,n,a,b=>by
  unfold cellsFrom
  split
  ·exact oB r (n+1) ((x,n)::a) b
  ·exact oB r n a b
theorem cells_names:∀(names:List (Str×NameKind))(n:Nat)(acc:List (Str×Addr)){x:Str}{c:Addr},(x,c)∈cellsFrom n names acc->(x,NameKind.cell)∈names\/(x,c)∈acc
 | [],_,_,_,_,h=> .inr h
 | (y,k)::r,n,acc,x,c,h=>by
  unfold cellsFrom at h
  split at h
  ·rename_i hk;have hk':k= .cell:=eq_of_beq hk;subst hk';rcases cells_names r (n+1) _ h with z|z
   ·exact .inl (zjS _ z)
   ·rcases mem_cons.mp z with z|z
    ·cases z;exact .inl zjR
    ·exact .inr z
  ·rcases cells_names r n _ h with z|z
   ·exact .inl (zjS _ z)
   ·exact .inr z
structure yO (names:List (Str×NameKind))(h:Heap)(lo:Nat)(cl cl':List (Str×Addr)):Prop where
 of:∀x c,cl'.lookup x=some c->cl.lookup x=some c\/(lo<=c/\h.IsCell c none)
 inj:∀x y c,lo<=c->(∀z d,cl.lookup z=some d->d<lo)->cl'.lookup x=some c->cl'.lookup y=some c->x=y
 old:∀x c,cl.lookup x=some c->(x,NameKind.cell)∉names->cl'.lookup x=some c
 own:∀x,names.lookup x=some .cell->∃c,cl'.lookup x=some c
 new:∀x c,names.lookup x=some .cell->cl'.lookup x=some c->lo<=c
theorem A3x (names:List (Str×NameKind))(h:Heap)(cl:List (Str×Addr)):yO names (pushCells h names) h.objs.size cl (cellsFrom h.objs.size names cl):=by
 have e:cellsFrom h.objs.size names cl=cellsFrom h.objs.size names []++cl:=oB names _ [] cl;have ok:=cellsFrom_ok names h h.objs.size [] ⟨fun _ _ hm=>(nomatch hm),List.Pairwise.nil⟩ (zjQ _);have nm:∀{x c},(x,c)∈cellsFrom h.objs.size names []->(x,NameKind.cell)∈names:=fun hm=>(cells_names names _ [] hm).elim id fun z=>nomatch z;have sp:∀x c,(cellsFrom h.objs.size names cl).lookup x=some c->(x,c)∈cellsFrom h.objs.size names []\/cl.lookup x=some c:=fun x c hx=>by
  rw [e,lookup_append]at hx;cases h1:(cellsFrom h.objs.size names []).lookup x with
  |none=>rw [h1]at hx;exact .inr hx
  |some d=>rw [h1]at hx;cases hx;exact .inl (PySem.mem_of_lookup h1)
 refine⟨fun x c hx=> ?_,fun x y c hlo hcl hx hy=> ?_,fun x c hx hn=> ?_,fun x hx=> ?_,fun x c hx hc=> ?_⟩
 ·rcases sp x c hx with z|z
  ·exact .inr ⟨(ok.empty x c z).2,(ok.empty x c z).1⟩
  ·exact .inl z
 ·rcases sp x c hx with z|z
  ·rcases sp y c hy with z'|z'
   ·exact name_of_addr ok.apart z z'
   ·exact absurd (hcl _ _ z') (not_lt.mpr hlo)
  ·exact absurd (hcl _ _ z) (not_lt.mpr hlo)
 ·rw [e,lookup_append];cases h1:(cellsFrom h.objs.size names []).lookup x with
  |none=>exact hx
  |some d=>exact absurd (nm (PySem.mem_of_lookup h1)) hn
 ·exact Option.isSome_iff_exists.mp (W.cellsFrom_some names _ cl (.inl hx))
 ·obtain⟨d,hd⟩:=Option.isSome_iff_exists.mp (W.cellsFrom_some names h.objs.size [] (.inl hx));rw [e,lookup_append,hd]at hc;cases hc;exact(ok.empty x _ (PySem.mem_of_lookup hd)).2
theorem A6m
  (hQ:Q {scope,locals:=s.heap.objs.size,globals,cells:=cellsFrom (s.heap.objs.size+1) scope.names closure,qual,func:=none,code:=outer.code,frame:=outer.frame,builtins:=outer.builtins} {s with heap:=pushCells (s.heap.push {cls:=.type "dict",data:=.dict #[]}) scope.names}):
  wpAny M A (newFunctionEnv scope globals closure [] qual none .none (some outer)) Q E s:=by
 simp only [newFunctionEnv,Option.isSome_some,if_true];refine zjZ (wpAny_alloc ?_);refine zjZ (wpAny_layCells _ (fun name kind cells=>by cases hkc:kind==NameKind.cell<;>simp [hkc]) _ _ _ _ ?_);rw [show({s with heap:=s.heap.push {cls:=.type "dict",data:=.dict #[]}}:Shared).heap.objs.size=s.heap.objs.size+1 from size_push ..];exact zjZ (zjY (zjY hQ))
section
theorem A2x (I2:Inv X pins σ H2 s2)(hns:X.env.scope.names=ns)(hN:X.N=N)(hk:scope.kind= .function)(ok:gX ns N scope frees)(f2:∀b∈fp,fM X pins H2 b)(hlive:∀b∈fp,∃o,s2.heap.get? b=some o)
  (hc1:∀x c,cl.lookup x=some c->X.env.cells.lookup x=some c)(hc2:∀x,(x,NameKind.free)∈scope.names->∃c,cl.lookup x=some c)
  (O:yO scope.names h4 (C+1) cl cl')(hC:C=s2.heap.objs.size+1)(hnsC:∃m,h4.Ns C m)(hacc:ObjOk X.prog X.w (upd H2 s2.heap.objs.size u) h4 s2.heap.objs.size u)
  (hkeep:∀b o,s2.heap.get? b=some o->h4.get? b=some o):
  Inv (cE X (loc++frees.map (·.1)) scope ⟨cl',C,s2,H2,fp,X.pn++pins⟩) [] (σC loc.length frees σ) (upd H2 s2.heap.objs.size u) {s2 with heap:=h4,toks:=tk}:=by
 have below:∀{b:Addr}{o:Obj},s2.heap.get? b=some o->b≠C:=fun{b o} e z=>by
  have:=zjT e;rw [z,hC]at this;exact lt_irrefl _ (lt_of_succ_lt this)
 have hl:H2 s2.heap.objs.size=none:=I2.hok.fresh (zjQ _);have hCn:H2 C=none:=I2.hok.fresh (by rw [hC];exact le_succ _);have cne:∀x c,X.env.cells.lookup x=some c->∃o v,s2.heap.get? c=some o/\o.data= .cell v:=fun x c e=>by
  obtain⟨v,o,ho,hd⟩:=I2.cell x c e;exact⟨o,v,ho,hd⟩
 obtain⟨mC,hmC⟩:=hnsC;have lt:∀x c,X.env.cells.lookup x=some c->c<s2.heap.objs.size:=fun x c e=>by
  obtain⟨o,v,ho,_⟩:=cne x c e;exact zjT ho
 have oc:∀x c,cl'.lookup x=some c->X.env.cells.lookup x=some c\/(s2.heap.objs.size+1<c/\h4.IsCell c none):=fun x c e=>by
  rcases O.of x c e with z| ⟨z,y⟩
  ·exact .inl (hc1 x c z)
  ·exact .inr ⟨by rw [hC]at z;exact z,y⟩
 have hCl:C≠s2.heap.objs.size:=by rw [hC];exact Nat.succ_ne_self _
 refine⟨⟨I2.ok.mod,hk,I2.ok.glob,I2.ok.blt,?_,fun x y c h1 h2=> ?_,fun x hx=> ?_,fun x c h hx=>le_of_lt (lt_of_lt_of_le (by show s2.heap.objs.size<C+1;rw [hC];exact lt_succ_of_lt (lt_succ_self _)) (O.new x c (eq_of_beq h) hx)),I2.ok.hd,I2.ok.frames,.inl rfl,fun b hb=> ⟨?_,fun x c e z=> ?_⟩,I2.bs,le_trans I2.ok.bsz I2.sz,fun b o e hb=> ?_,fun b hb hfs=> ?_,I2.stack,I2.stkFree⟩,
  rfl,I2.bare,?_,⟨mC,hmC,fun i x v h1 h2 h3=> ?_⟩,fun x c e=> ?_,?_,fun x c e=> ?_,fun p hp=> ?_,?_,?_⟩
 ·show s2.heap.objs.size<=C;rw [hC];exact le_succ _
 ·
  rcases oc x c h1 with z|z
  ·rcases oc y c h2 with z'|z'
   ·exact I2.ok.inj x y c z z'
   ·exact absurd (lt_trans (lt_succ_of_lt (lt x c z)) z'.1) (lt_irrefl _)
  ·exact O.inj x y c (by rw [hC];exact z.1) (fun z d e=>lt_trans (lt z d (hc1 z d e)) (by rw [hC];exact lt_succ_of_lt (lt_succ_self _))) h1 h2
 ·
  have hx':(relabel scope X.env).names.lookup x=some .cell\/(relabel scope X.env).names.lookup x=some .free:=hx;rcases relabel_back hx' with z|z
  ·by_cases hm:(x,NameKind.cell)∈scope.names
   ·exact O.own x ((ok.1 _ hm).1 rfl)
   ·obtain⟨c,hc⟩:=hc2 x z;exact⟨c,O.old x c hc hm⟩
  ·exact O.own x ((ok.1 _ z).1 rfl)
 ·obtain⟨o,ho⟩:=hlive b hb;exact below ho
 ·rcases oc x c e with y|y
  ·exact(f2 b hb).2.2.2.2.1 x c y z
  ·obtain⟨o,ho⟩:=hlive b hb;have:=zjT ho;have y1:=y.1;rw [z]at y1;exact Nat.lt_asymm this (lt_of_succ_lt y1)
 ·rcases(f2 b hb).2.2.2.1 with z|z
  ·exact I2.ok.noex b o e z
  ·exact absurd (lt_of_lt_of_le (zjT (I2.ok.bs b o e).1) z) (lt_irrefl _)
 ·rcases mem_cons.mp (I2.stkSub b hfs)with z|z
  ·exact(f2 b hb).2.1 z
  ·exact(f2 b hb).2.2.1 z
 ·exact Un.laid hkeep (zjQ _) hl
 ·
  have hi:¬i<loc.length:=fun hlt=>by
   unfold σC at h2;rw [getElem?_append_left (by simpa using hlt),List.getElem?_replicate]at h2;simp [hlt]at h2
  have h2':(frees[i - loc.length]?).map (fun p=>(σ[p.2]?).join)=some (some v):=by
   unfold σC at h2;rw [getElem?_append_right (by simpa using hi),List.length_replicate,getElem?_map]at h2;exact h2
  have h1':(frees[i - loc.length]?).map (·.1)=some x:=by
   have h1:(loc++frees.map (·.1))[i]?=some x:=h1;rw [getElem?_append_right (by omega),getElem?_map]at h1;exact h1
  cases ep:frees[i - loc.length]? with
  |none=>rw [ep]at h1';simp at h1'
  |some p=>
   rw [ep]at h1' h2';simp only [Option.map_some,Option.some.injEq]at h1' h2';obtain⟨q1,q2,q3⟩:=ok.2 p (mem_of_getElem? ep);have hσ:σ[p.2]?=some (some v):=by
    cases e:σ[p.2]? with
    |none=>rw [e]at h2';simp at h2'
    |some o=>rw [e]at h2';simp at h2';rw [h2']
   have vis:Vis X.env.scope p.1:=by
    show _\/_;rw [hns];rcases q3 with z|z
    ·exact .inr (.inl z)
    ·exact .inr (.inr z)
   obtain⟨m,hn,hlk⟩:=I2.loc;obtain⟨u,ru,lk⟩:=hlk p.2 p.1 v (by rw [hN];exact q1) hσ vis;refine⟨u,ru,.inr ?_⟩;rw [←h1'];rcases lk with⟨z,_⟩| ⟨_,c,ec,hcell⟩
   ·have z':X.env.scope.names.lookup p.1=some .local:=z;rw [hns]at z';rcases q3 with y|y<;>rw [z']at y<;>cases y
   ·obtain⟨c',hc'⟩:=hc2 p.1 (PySem.mem_of_lookup q2);have:c'=c:=by have:=hc1 _ _ hc';rw [ec]at this;exact(Option.some.inj this).symm
    subst this;refine⟨wU q2,c',O.old _ _ hc' (fun hm=>by have:=(ok.1 _ hm).1 rfl;rw [q2]at this;cases this),?_⟩;obtain⟨o,ho,hd⟩:=hcell;exact⟨o,hkeep _ _ ho,hd⟩
 ·rcases oc x c e with y|y
  ·obtain⟨o,v,ho,hd⟩:=cne x c y;exact⟨v,o,hkeep _ _ ho,hd⟩
  ·exact⟨none,y.2⟩
 ·show upd H2 _ _ C=none;rw [aV hCl];exact hCn
 ·rcases oc x c e with y|y
  ·have:c≠s2.heap.objs.size:=ne_of_lt (lt x c y);rw [aV this];exact I2.freeC x c y
  ·have h1:=y.1;rw [aV (fun e=>by rw [e]at h1;exact lt_irrefl _ (lt_of_succ_lt h1))];exact I2.hok.fresh (le_of_lt (lt_of_succ_lt h1))
 ·have hp':p∈X.pn++pins:=by
   rcases mem_append.mp hp with z|z
   ·exact z
   ·exact absurd z (by simp)
  obtain⟨e,n,ne,nf,d⟩:=I2.pin p hp';refine⟨hkeep _ _ e,?_,below e,fun z=> ?_,d⟩
  ·rw [aV (ne_of_lt (zjT e))];exact n
  ·rcases mem_cons.mp (I2.stkSub p.1 z)with y|y
   ·exact ne y
   ·exact nf y
 ·exact I2.hok.laid hkeep (zjQ _) hacc
 ·show(σC loc.length frees σ).length=(loc++frees.map (·.1)).length;unfold σC;simp
theorem yZ {σ':St}(I2:Inv X pins σ H2 s2)(f2:∀b∈fp,fM X pins H2 b)(hC:C=s2.heap.objs.size+1)
  (J:Inv (cE X N scope ⟨cl,C,s2,H2,fp,pl⟩) [] σ' H' s')(hs:Heap.SameBut C s'.heap h'):Inv X pins σ H' {s' with heap:=h'}:=by
 have I3:Inv X pins σ H' s':=I2.call' (ch:=fp) J.os J.base J.hok J.bare fun b hb=> ⟨(f2 b hb).2.2.2.1,(f2 b hb).2.1,(f2 b hb).2.2.2.2.1,(f2 b hb).2.2.2.2.2⟩;refine I3.turned (it:=C) (t':=s'.toks) (fun b o hb e=>(hs.2 b hb).trans e) J.free ?_ (.inr ?_) (fun x c e z=> ?_) fun p hp z=> ?_
 ·intro z;have:=I2.lt;rw [←z,hC]at this;exact lt_irrefl _ (lt_of_succ_lt this)
 ·rw [hC];exact le_trans I2.sz (le_succ _)
 ·obtain⟨v,q⟩:=I2.cell x c e;have:=q.lt;rw [z,hC]at this;exact lt_irrefl _ (lt_of_succ_lt this)
 ·have:=zjT (I2.pin p hp).1;rw [z,hC]at this;exact lt_irrefl _ (lt_of_succ_lt this)
end
section
theorem lM {e:Expr}{gs:List Comprehension}{g0:Comprehension}{wi:TI}{tg iter:Expr}{R:dH->Addr->It->St->Hp->(Hp->Prop)->Prop}{use:Option (Value->Sem Unit)}{Q:Value->Shared->Prop}{newPos:Pos}{nac:Sem Value}{oa:Obj}{u:HO}
  (hna:∀(E:Value->Shared->Prop)(s:Shared)(Q:Value->Shared->Prop),Q (.ref s.heap.objs.size) {s with heap:=s.heap.push oa}->wpAny (model X.prog X.w) X.A nac Q E s)(hoa:oa.isFreed=false)(hou:∀(H:Hp)(h:Heap)(a:Addr),sysModules<a->h.get? a=some oa->ObjOk X.prog X.w H h a u)
  (hcl:clausesOf e=g0::gs)(hg0:g0.iter=iter)(hi:PI X tg iter wi)(hns:X.env.scope.names=ns)(hN:X.N=N)(hk:scope.kind= .function)(ok:gX ns N scope frees)
  (hs:∀x,foldedSetIterable iter X.env x=pure x){pins:List (Addr×Obj)}{s:Shared}{σ:St}{H:Hp}{QH:Addr->Hp->Prop}(I:Inv X pins σ H s)
  (h:wi σ H fun J H1=> ∀(Z:dH)(l:Addr),H1 l=none->R Z l J (σC loc.length frees σ) (upd H1 l u) (QH l))
  (block:∀(Z:dH)(l it:Addr)(fp:List Addr)(tn:Nat->Heap->Prop)(J:It)(H4:Hp)(s4:Shared)(σ4:St),Z.fp=fp->Inv (cE X (loc++frees.map (·.1)) scope Z) [] σ4 H4 s4->iB X.prog X.w X.K tg J fp it tn->tn 0 s4.heap->
   (∀b∈fp,fM (cE X (loc++frees.map (·.1)) scope Z) [] H4 b)->R Z l J σ4 H4 (QH l)->
   codeAny (model X.prog X.w) X.A (.compStart e 0 (.ref it) (.ref l) (compEnvC scope Z.cl Z.C X.env)) (fun r s'=>r= .ok .next/\∃σ' H',Inv (cE X (loc++frees.map (·.1)) scope Z) [] σ' H' s'/\QH l H') s4)
  (fin:∀(l C:Addr)(H':Hp)(s':Shared),(∃m,s'.heap.Ns C m)->Inv X pins σ H' s'->H' C=none->X.s₀.heap.objs.size<=C->C≠X.env.locals->(∀x c,X.env.cells.lookup x=some c->c≠C)->(∀h',Heap.SameBut C s'.heap h'->Inv X pins σ H' {s' with heap:=h'})->(∀p∈X.pn++pins,p.1≠C)->QH l H'->
   compPost (model X.prog X.w) X.A X.xe use Q (.ref l) C (.ok .next) s'):
  wpAny (model X.prog X.w) X.A (comprehension e scope X.env newPos nac false (eval iter X.env) use) Q X.xe s:=by
 obtain⟨cl,hclos,hc1,hc2⟩:=A9x (env:=X.env) (scope:=scope) fun x hx hf=>by
  refine I.ok.has x.1 ?_;have:=(ok.1 x hx).2.2 hf;rw [←hns]at this;exact this
 have hs':∀x,foldedSetIterable g0.iter X.env x=pure x:=by rw [hg0];exact hs
 refine wpAny_comprehension_free hcl hs' hclos hk (fun x hx hl=>(ok.1 x hx).2.1 hl) (thn (hi pins s σ H _ I h) fun v s1 h1=>thn h1 fun itv s2 h2=> ?_);obtain⟨it,fp,tn,J,H2,e2,I2,T,st2,f2,q2⟩:=h2;subst e2;refine hna _ _ _ (A6m ?_);have hsz:(s2.heap.push oa).objs.size=s2.heap.objs.size+1:=size_push ..;have keep:∀b o,s2.heap.get? b=some o->(pushCells ((s2.heap.push oa).push {cls:=.type "dict",data:=.dict #[]}) scope.names).get? b=some o:=fun b o e=>pushCells_keeps _ _ _ _ (zjX _ (zjX _ e));have hacc:(pushCells ((s2.heap.push oa).push {cls:=.type "dict",data:=.dict #[]}) scope.names).get? s2.heap.objs.size=some oa:=pushCells_keeps _ _ _ _ (zjX _ (get?_push_size _ hoa));have hns₁:∃m,(pushCells ((s2.heap.push oa).push {cls:=.type "dict",data:=.dict #[]}) scope.names).Ns (s2.heap.push oa).objs.size m:=⟨_,(Heap.Ns.new (s2.heap.push oa) (.type "dict")).keeps (pushCells_keeps _ _)⟩;have O:=A3x scope.names ((s2.heap.push oa).push {cls:=.type "dict",data:=.dict #[]}) cl;rw [size_push]at O;dsimp only
 generalize hcl':cellsFrom ((s2.heap.push oa).objs.size+1) scope.names cl=cl' at O⊢;generalize hh₁:pushCells ((s2.heap.push oa).push {cls:=.type "dict",data:=.dict #[]}) scope.names=h₁ at keep hacc hns₁ O⊢;generalize hCeq:(s2.heap.push oa).objs.size=C at hns₁ hsz O⊢;have live:∀b∈fp,∃o,s2.heap.get? b=some o:=fun b hb=>let ⟨o,ho,_⟩:=T.obj _ _ st2 b hb;⟨o,ho⟩;have J0:=A2x (scope:=scope) (loc:=loc) (frees:=frees) (tk:=s2.toks) I2 hns hN hk ok f2 live hc1 hc2 O hsz hns₁ (hou _ _ _ I2.big hacc) keep;have hln:H2 s2.heap.objs.size=none:=I2.hok.fresh (zjQ _);have B:=block ⟨cl',C,s2,H2,fp,X.pn++pins⟩ s2.heap.objs.size it fp tn J _ _ _ rfl J0 T (T.keep _ _ _ st2 fun b _ o e=>keep b o e) (fun b hb=>by
  obtain⟨o,ho⟩:=live b hb;obtain⟨z0,z1,z2,z3,z4,z5⟩:=f2 b hb;refine⟨?_,?_,fun z=> ?_,.inl hb,fun x c e=> ?_,fun p hp=>z5 p ?_⟩
  ·rw [aV (ne_of_lt (zjT ho))];exact z0
  ·show b≠C;rw [hsz];exact ne_of_lt (lt_succ_of_lt (zjT ho))
  ·rcases mem_cons.mp (I2.stkSub b z)with y|y
   ·exact z1 y
   ·exact z2 y
  ·rcases O.of x c e with y| ⟨y,_⟩
   ·exact z4 x c (hc1 x c y)
   ·have:=zjT ho;intro z;have z':c=b:=z;rw [z',hsz]at y;exact Nat.lt_asymm this (lt_of_succ_lt y)
  ·rcases mem_append.mp hp with y|y
   ·exact y
   ·exact absurd y (by simp)) (q2 _ _ hln)
 refine codeAny_mono B fun r s' hr=> ?_;obtain⟨rfl,σ',H',J',q'⟩:=hr;obtain⟨m',hm',_⟩:=J'.loc;have hCl:C≠X.env.locals:=fun z=>by
  have:=I2.lt;rw [←z,hsz]at this;exact lt_irrefl _ (lt_of_succ_lt this)
 have hCc:∀x c,X.env.cells.lookup x=some c->c≠C:=fun x c e z=>by
  obtain⟨v,q⟩:=I2.cell x c e;have:=q.lt;rw [z,hsz]at this;exact lt_irrefl _ (lt_of_succ_lt this)
 have hCp:∀p∈X.pn++pins,p.1≠C:=fun p hp z=>by
  have:=zjT (I2.pin p hp).1;rw [z,hsz]at this;exact lt_irrefl _ (lt_of_succ_lt this)
 exact fin s2.heap.objs.size C H' s' ⟨m',hm'⟩ (by have:=yZ I2 f2 hsz J' (Heap.SameBut.refl C s'.heap);exact this) J'.free (by rw [hsz];exact le_trans I2.sz (le_succ _)) hCl hCc (fun h' hs=>yZ I2 f2 hsz J' hs) hCp q'
theorem bJ {elt tg iter:Expr}{ifs:List Expr}{wi:TI}{g:dH->TG}{tt:dH->TT}{te:dH->TE}(ns:List (Str×NameKind))(N:List Str)(loc:List Str)(frees:List (Str×Nat))(hc:X.calm=true)(hi:PI X tg iter wi)
  (hns:X.env.scope.names=ns)(hN:X.N=N)(hk:scope.kind= .function)(ok:gX ns N scope frees)
  (hg:∀Z,PG (cE X (loc++frees.map (·.1)) scope Z) tg (g Z))(ht:∀Z,PTs (cE X (loc++frees.map (·.1)) scope Z) ifs (tt Z))(he:∀Z,PE (cE X (loc++frees.map (·.1)) scope Z) elt (te Z))
  (hs:∀x,foldedSetIterable iter X.env x=pure x:=by intro _;rfl):PE X (.ListComp elt [⟨tg,iter,ifs,0⟩] scope pos) (yU wi g tt te loc.length frees):=by
 intro pins s σ H Q I h;rw [eval_ListComp];refine lM (nac:=newList []) (oa:={cls:=.type "list",dict:=none,data:=.seq ([]:List Value).toArray}) (u:=.lst []) (fun E s Q h=>wpAny_newObj_type h) rfl (fun H h a _ e=> ⟨by simp,[],_,.nil,e⟩) (e:=.ListComp elt [⟨tg,iter,ifs,0⟩] scope pos) (g0:=⟨tg,iter,ifs,0⟩) (gs:=[]) (tg:=tg) (iter:=iter) (loc:=loc) (R:=fun Z l J σ H QH=>dI J (g Z) (cL (tt Z) (dL l (te Z))) (eC fun _ H'=>QH H') σ H) (use:=none) (QH:=fun l H'=>Q (.ref l) H') rfl rfl hi hns hN hk ok hs I h ?_ ?_
 ·intro Z l it fp tn J H4 s4 σ4 hfp I4 T st4 f4 q4;have L:=kB (Y:=cE X (loc++frees.map (·.1)) scope Z) rfl hc (vU elt tg iter ifs scope pos (.ref it) (.ref l) _) (hg Z) (ht Z) (rD rfl (he Z)) I4 T st4 f4 q4;refine codeAny_mono (codeAny_compStart_list L (T.self _ _ _ _ _ st4 L)) fun r s' hr=> ?_;exact hr
 ·intro l C H' s' hm J' hn h1 h2 h3 h4 _ q';obtain⟨m,hm⟩:=hm;exact⟨m,hm,fun h' hs'=> ⟨.ref l,H',h4 h' hs',rfl,q'⟩⟩
end
section
theorem wL (ns:List (Str×NameKind))(N:List Str)(loc:List Str)(frees:List (Str×Nat))(hc:X.calm=true)(hi:PI X tg iter wi)
  (hns:X.env.scope.names=ns)(hN:X.N=N)(hk:scope.kind= .function)(ok:gX ns N scope frees)
  (hg:∀Z,PG (cE X (loc++frees.map (·.1)) scope Z) tg (g Z))(ht:∀Z,PTs (cE X (loc++frees.map (·.1)) scope Z) ifs (tt Z))
  (hi2:∀Z,PI (cE X (loc++frees.map (·.1)) scope Z) tg2 iter2 (wi2 Z))(hg2:∀Z,PG (cE X (loc++frees.map (·.1)) scope Z) tg2 (g2 Z))(ht2:∀Z,PTs (cE X (loc++frees.map (·.1)) scope Z) ifs2 (tt2 Z))
  (he:∀Z,PE (cE X (loc++frees.map (·.1)) scope Z) elt (te Z))
  (hs:∀x,foldedSetIterable iter X.env x=pure x:=by intro _;rfl)(hs2:∀(Z:dH) x,foldedSetIterable iter2 (cE X (loc++frees.map (·.1)) scope Z).env x=pure x:=by intro _ _;rfl):
  PE X (.ListComp elt [⟨tg,iter,ifs,0⟩,⟨tg2,iter2,ifs2,0⟩] scope pos) (uZ wi g tt wi2 g2 tt2 te loc.length frees):=by
 intro pins s σ H Q I h;rw [eval_ListComp];refine lM (nac:=newList []) (oa:={cls:=.type "list",dict:=none,data:=.seq ([]:List Value).toArray}) (u:=.lst []) (fun E s Q h=>wpAny_newObj_type h) rfl (fun H h a _ e=> ⟨by simp,[],_,.nil,e⟩) (e:=.ListComp elt [⟨tg,iter,ifs,0⟩,⟨tg2,iter2,ifs2,0⟩] scope pos) (g0:=⟨tg,iter,ifs,0⟩) (gs:=[⟨tg2,iter2,ifs2,0⟩]) (tg:=tg) (iter:=iter) (loc:=loc) (R:=fun Z l J σ H QH=>dI J (g Z) (cL (tt Z) (kW (wi2 Z) (g2 Z) (tt2 Z) (dL l (te Z)))) (eC fun _ H'=>QH H') σ H) (use:=none) (QH:=fun l H'=>Q (.ref l) H') rfl rfl hi hns hN hk ok hs I h ?_ ?_
 ·intro Z l it fp tn J H4 s4 σ4 hfp I4 T st4 f4 q4;have L:=kB (Y:=cE X (loc++frees.map (·.1)) scope Z) rfl hc (A0d elt tg iter tg2 iter2 ifs ifs2 scope pos (.ref it) (.ref l) _) (hg Z) (ht Z) (A0h rfl hc (hi2 Z) (hg2 Z) (ht2 Z) (he Z) (hs2 Z)) I4 T st4 f4 q4;refine codeAny_mono (codeAny_compStart_list L (T.self _ _ _ _ _ st4 L)) fun r s' hr=> ?_;exact hr
 ·intro l C H' s' hm J' hn h1 h2 h3 h4 _ q';obtain⟨m,hm⟩:=hm;exact⟨m,hm,fun h' hs'=> ⟨.ref l,H',h4 h' hs',rfl,q'⟩⟩
theorem pX (ns:List (Str×NameKind))(N:List Str)(loc:List Str)(frees:List (Str×Nat))(hc:X.calm=true)(hND:X.N.Nodup)(hix:X.N[i]?=some x)(hxl:X.env.scope.names.lookup x=some .local)(hi:PI X tg iter wi)
  (hns:X.env.scope.names=ns)(hN:X.N=N)(hk:scope.kind= .function)(ok:gX ns N scope frees)
  (hg:∀Z,PG (cE X (loc++frees.map (·.1)) scope Z) tg (g Z))(ht:∀Z,PTs (cE X (loc++frees.map (·.1)) scope Z) ifs (tt Z))(he:∀Z,PE (cE X (loc++frees.map (·.1)) scope Z) elt (te Z))
  (hsw:swapsWith (.ListComp elt [⟨tg,iter,ifs,0⟩] scope pos) (some (.Name x pos')) apos.line X.env=pure true:=by rfl)
  (hs:∀x,foldedSetIterable iter X.env x=pure x:=by intro _;rfl):PS X (.Assign [.Name x pos'] (.ListComp elt [⟨tg,iter,ifs,0⟩] scope pos) apos) (kD (yU wi g tt te loc.length frees) (cO i)):=by
 intro pins s σ H D I h;rw [exec_Assign_Name_used _ _ _ _ hsw];refine zjZ (wpAny_standAt (zjZ ?_))
 show wpAny _ X.A (do let _←comprehension (.ListComp elt [⟨tg,iter,ifs,0⟩] scope pos) scope X.env _ (newList []) false (eval iter X.env) (some (assign (.Name x pos') X.env))) _ _ s;refine zjZ ?_;have key:=lM (X:=X) (nac:=newList []) (oa:={cls:=.type "list",dict:=none,data:=.seq ([]:List Value).toArray}) (u:=.lst []) (fun E s Q h=>wpAny_newObj_type h) rfl (fun H h a _ e=> ⟨by simp,[],_,.nil,e⟩) (e:=.ListComp elt [⟨tg,iter,ifs,0⟩] scope pos) (g0:=⟨tg,iter,ifs,0⟩) (gs:=[]) (tg:=tg) (iter:=iter) (newPos:=firstIterPos [⟨tg,iter,ifs,0⟩] pos) (loc:=loc) (R:=fun Z l J σ H QH=>dI J (g Z) (cL (tt Z) (dL l (te Z))) (eC fun _ H'=>QH H') σ H) (use:=some (assign (.Name x pos') X.env)) (QH:=fun l H'=>D.nx (σ.set i (some (.ref l))) H') (Q:=fun _ s'=>SP X pins D .next s') rfl rfl hi hns hN hk ok hs I h ?_ ?_
 ·exact thn key fun _ s' hq=>zjY (zjY hq)
 ·intro Z l it fp tn J H4 s4 σ4 hfp I4 T st4 f4 q4;have L:=kB (Y:=cE X (loc++frees.map (·.1)) scope Z) rfl hc (vU elt tg iter ifs scope pos (.ref it) (.ref l) _) (hg Z) (ht Z) (rD rfl (he Z)) I4 T st4 f4 q4;refine codeAny_mono (codeAny_compStart_list L (T.self _ _ _ _ _ st4 L)) fun r s' hr=> ?_;exact hr
 ·intro l C H' s' hm J' hn h1 h2 h3 h4 h5 q';obtain⟨m,hm⟩:=hm;show wpAny _ X.A (assign (.Name x pos') X.env (.ref l)) _ _ _;refine wpAny_assign_Name (pK J' hND hix (.inl hxl) (v:=.ref l) rfl (fun s'' I'' hsb=> ?_) (.inr hxl));obtain⟨a,hsb,ha⟩:=hsb;have haC:C≠a:=by
   rcases ha with z|z
   ·rw [z];exact h2
   ·exact fun y=>h3 x a z y.symm
  refine⟨m,hm.sameBut hsb haC,fun h' hs'=> ⟨_,H',?_,q'⟩⟩;exact I''.turned (it:=C) (t':=s''.toks) (fun b o hb e=>(hs'.2 b hb).trans e) hn h2 (.inr h1) h3 h5
end
end L2
namespace M52
open PySem L2 PyProof.Rows
noncomputable def top (i:Nat):Stmt:=PySem.Challenge.pw_meadshares_k52_whole_settled_at_last.main.body.getD i (.Pass ⟨0,0,0,0⟩)
noncomputable abbrev zE:Stmt:=top 11
noncomputable abbrev zI:Stmt:=top 12
noncomputable abbrev xB:Stmt:=top 13
noncomputable abbrev sJ:Stmt:=top 14
noncomputable abbrev sX:Stmt:=top 21
noncomputable abbrev A0t:Stmt:=top 22
noncomputable abbrev lN:Stmt:=top 23
noncomputable abbrev yD:Stmt:=top 24
noncomputable abbrev yR:Stmt:=top 25
noncomputable abbrev qD:Stmt:=top 26
noncomputable abbrev wH:Stmt:=top 27
noncomputable abbrev rL:Stmt:=top 28
noncomputable abbrev A0g:Stmt:=top 29
noncomputable abbrev rB:Stmt:=top 32
noncomputable abbrev rM:Stmt:=top 33
noncomputable abbrev vZ:Stmt:=top 34
noncomputable abbrev yA:Stmt:=top 35
noncomputable abbrev pU:Stmt:=top 43
noncomputable abbrev lZ:Stmt:=top 44
noncomputable abbrev vA:Stmt:=top 45
noncomputable abbrev sR:Stmt:=top 46
noncomputable abbrev yW:Stmt:=top 47
noncomputable abbrev oI:Stmt:=top 48
noncomputable abbrev jW:Stmt:=top 49
noncomputable abbrev vY:Stmt:=top 50
noncomputable abbrev xU:Stmt:=top 51
noncomputable abbrev nC:Stmt:=top 53
noncomputable abbrev yB:Stmt:=top 54
noncomputable abbrev pT:Stmt:=top 55
noncomputable abbrev pS:Stmt:=top 56
noncomputable abbrev uH:Stmt:=top 59
noncomputable abbrev wC:Stmt:=top 60
noncomputable abbrev A0f:Stmt:=top 61
noncomputable abbrev vS:Stmt:=top 62
noncomputable abbrev vQ:Stmt:=top 63
noncomputable abbrev yI:Stmt:=top 64
noncomputable abbrev qA:Stmt:=top 65
noncomputable abbrev vK:Stmt:=top 88
noncomputable abbrev A08:Stmt:=top 89
noncomputable abbrev sI:Stmt:=top 90
noncomputable abbrev rO:Stmt:=top 91
noncomputable abbrev sY:Stmt:=top 95
noncomputable abbrev rR:Stmt:=top 97
noncomputable abbrev lD:Stmt:=top 98
noncomputable abbrev kH:Stmt:=top 104
noncomputable abbrev xE:Stmt:=top 30
noncomputable abbrev mE:Stmt:=top 82
noncomputable abbrev pO:Stmt:=top 83
noncomputable abbrev yS:Stmt:=top 84
noncomputable abbrev mQ:Stmt:=top 85
noncomputable abbrev yM:Stmt:=top 86
noncomputable abbrev vC:Stmt:=top 101
noncomputable abbrev pN:Stmt:=top 102
noncomputable abbrev fY:Stmt:=top 103
noncomputable abbrev sD:Stmt:=top 31
noncomputable abbrev sLW:Stmt:=top 68
noncomputable abbrev lQ:Stmt:=top 69
noncomputable abbrev A0r:Stmt:=top 70
noncomputable abbrev sW:Stmt:=top 73
noncomputable abbrev qM:Stmt:=top 74
noncomputable abbrev wM:Stmt:=top 75
noncomputable abbrev wZ:Stmt:=top 76
noncomputable abbrev yN:Stmt:=top 77
noncomputable abbrev sP:Stmt:=top 78
noncomputable abbrev A1d:Stmt:=top 79
noncomputable abbrev A0b:Stmt:=top 80
noncomputable abbrev vF:Stmt:=top 92
noncomputable abbrev nA:Stmt:=top 93
noncomputable abbrev pE:Stmt:=top 94
noncomputable abbrev fA:Stmt:=top 96
noncomputable abbrev gN:Stmt:=top 100
noncomputable abbrev lE:Stmt:=top 99
noncomputable abbrev zZ:Stmt:=top 66
structure Txt (mg:Str->Option Value):Prop where
 isinstance:mg "isinstance" =none
 int:mg "int" =none
 bool:mg "bool" =none
 tuple:mg "tuple" =none
 len:mg "len" =none
 all:mg "all" =none
 enumerate:mg "enumerate" =none
 rows:∃t,mg "MOST_ROWS" =some (.int 4 t)
 cols:∃t,mg "MOST_COLUMNS" =some (.int 6 t)
 cells:∃t,mg "MOST_CELLS" =some (.int 10 t)
 worth:∃t,mg "MOST_WORTH" =some (.int 99 t)
 water:∃t,mg "WATER" =some (.int (-2) t)
noncomputable def oY:Sp:=fun vs H Q _=> ∃v,vs=[v]/\Kn H 1 v/\Q (.bl (isInt v)) H
noncomputable def jS:Sp:=fun vs H Q _=> ∃v lo hi,vs=[v,.int lo,.int hi]/\Kn H 1 v/\Q (.bl (dG lo hi v)) H
noncomputable def cV (H:Hp)(lo hi:Int)(v:V):Bool:=match eZ H v with|some xs=>decide (lo<=xs.length)&&decide ((xs.length:Int)<=hi)|none=>false
noncomputable def gA:Sp:=fun vs H Q _=> ∃v lo hi,vs=[v,.int lo,.int hi]/\Kn H 1 v/\Q (.bl (cV H lo hi v)) H
section
variable {P:Program}{w:World}{K:W.Frag}{mg:Str->Option Value}{base:Heap}
theorem A5c (F:D1 K mg "is_number" zE ["thing"])(T:Txt mg):A1 P w K mg base 1 "is_number" oY:=by
 refine F.k ["thing"] ?_;ac_nf
 ·obtain⟨v,rfl,k,q⟩:=h;refine⟨_,aQ (bA (fQ (bH nP rfl T.isinstance boot_isinstance (bB (pv 0) (bB (nV (v:=.ty "int") rfl T.int boot_int rfl) aA)))
   (fP (A1s (bH nP rfl T.isinstance boot_isinstance (bB (pv 0) (bB (nV (v:=.ty "bool") rfl T.bool boot_bool rfl) aA))))))),?_⟩
  obtain⟨t,ty,k1,k2,_⟩:=A0v (K:=K) k;refine⟨_,rfl,_,"int",t,_,rfl,ty,k1,_,rfl,dC (fun e=> ?_) fun e=> ?_⟩
  ·refine⟨_,rfl,_,"bool",t,_,rfl,ty,k2,_,rfl,?_⟩;have:(!qK v)=isInt v:=by cases v<;>first|rfl|cases e
   rw [this];exact q
  ·have:isInt v=false:=(Bool.or_eq_false_iff.mp e).1;rw [this]at q;exact q
theorem A9q (F:D1 K mg "is_number_within" zI ["thing","least","most"])(a1:A1 P w K mg base 1 "is_number" oY):A1 P w K mg base 2 "is_number_within" jS:=by
 refine F.k ["thing","least","most"] ?_;ac_nf
 ·obtain⟨v,lo,hi,rfl,k,q⟩:=h;refine⟨_,aQ (bA (fQ (a1.c hr (bB (pv 0) aA)) (fP (sZ iE iE (pv 1) (pv 0) (pv 2))))),?_⟩;refine⟨_,rfl,v,rfl,k,_,rfl,dC (fun e=> ?_) fun e=> ?_⟩
  ·cases v with
   |int i=>
    refine⟨_,rfl,_,rfl,_,_,rfl,rfl,_,rfl,dR (fun h1=> ?_) fun h1=> ?_⟩
    ·refine⟨_,rfl,_,_,rfl,rfl,?_⟩;have:dG lo hi (.int i)=decide (i<=hi):=by simp [dG,h1]
     rw [this]at q;exact q
    ·have:dG lo hi (.int i)=false:=by simp [dG,h1]
     rw [this]at q;exact q
   |_=>cases e
  ·have:dG lo hi v=false:=by cases v<;>first|rfl|cases e
   rw [this]at q;exact q
theorem B1b (F:D1 K mg "is_tuple_within" xB ["thing","least","most"])(T:Txt mg):A1 P w K mg base 1 "is_tuple_within" gA:=by
 refine F.k ["thing","least","most"] ?_;ac_nf
 ·obtain⟨v,lo,hi,rfl,k,q⟩:=h;refine⟨_,aQ (bA (fQ (bH nP rfl T.isinstance boot_isinstance (bB (pv 0) (bB (nV (v:=.ty "tuple") rfl T.tuple boot_tuple rfl) aA)))
   (fP (sZ iE iE (pv 1) (bH fE rfl T.len PySem.boot_len (bB (pv 0) aA)) (pv 2))))),?_⟩
  obtain⟨t,ty,_,_,k3⟩:=A0v (K:=K) k;refine⟨_,rfl,_,"tuple",t,_,rfl,ty,k3,_,rfl,dC (fun e=> ?_) fun e=> ?_⟩
  ·obtain⟨xs,ex⟩:=Option.isSome_iff_exists.mp e;obtain⟨a,rfl,ha⟩:=A3t ex;refine⟨_,rfl,_,rfl,a,xs,rfl,.inr (SqT.of ha),_,_,rfl,rfl,_,rfl,dR (fun h1=> ?_) fun h1=> ?_⟩
   ·refine⟨_,rfl,_,_,rfl,rfl,?_⟩;have:cV H lo hi (.ref a)=decide ((xs.length:Int)<=hi):=by simp [cV,ex,h1]
    rw [this]at q;exact q
   ·have:cV H lo hi (.ref a)=false:=by simp [cV,ex,h1]
    rw [this]at q;exact q
  ·have:cV H lo hi v=false:=by
    unfold cV;cases z:eZ H v with
    |none=>rfl
    |some xs=>rw [z]at e;cases e
   rw [this]at q;exact q
end
theorem nd4:(["at","row","k","mark"]:List Str).Nodup:=by decide +kernel
end M52
namespace L2
open PySem PySem.Spec PyProof.Rows
section
end
section
theorem cM (he:PE X (.Constant c j pos) te)(hr:PA X es t):PA X (.Constant c j pos::es) (dJ te t):=bB he hr rfl
theorem aB (he:PE X (.Name x pos) te)(hr:PA X es t):PA X (.Name x pos::es) (dJ te t):=bB he hr rfl
theorem dE (he:PE X (.BinOp a o b pos) te)(hr:PA X es t):PA X (.BinOp a o b pos::es) (dJ te t):=bB he hr rfl
theorem oC (he:PE X (.UnaryOp o b pos) te)(hr:PA X es t):PA X (.UnaryOp o b pos::es) (dJ te t):=bB he hr rfl
theorem cI (he:PE X (.Call f a k pos) te)(hr:PA X es t):PA X (.Call f a k pos::es) (dJ te t):=bB he hr rfl
theorem jF (he:PE X (.Tuple a k pos) te)(hr:PA X es t):PA X (.Tuple a k pos::es) (dJ te t):=bB he hr rfl
theorem lS (he:PE X (.List a pos) te)(hr:PA X es t):PA X (.List a pos::es) (dJ te t):=bB he hr rfl
theorem eF (he:PE X (.Subscript a b pos) te)(hr:PA X es t):PA X (.Subscript a b pos::es) (dJ te t):=bB he hr rfl
theorem A9p (he:PE X (.Compare a b c pos) te)(hr:PA X es t):PA X (.Compare a b c pos::es) (dJ te t):=bB he hr rfl
theorem A7u (he:PE X (.Dict a b pos) te)(hr:PA X es t):PA X (.Dict a b pos::es) (dJ te t):=bB he hr rfl
theorem cP (he:PE X (.ListComp a b c pos) te)(hr:PA X es t):PA X (.ListComp a b c pos::es) (dJ te t):=bB he hr rfl
end
@[irreducible] def PAq (X:Cx)(es:List Expr)(t:TA):Prop:=PA X es t
section
theorem wE (h:PAq X es t):PA X es t:=by unfold PAq at h;exact h
theorem kY:PAq X [] kS:=by unfold PAq;exact aA
theorem mT (he:PE X (.BinOp a o b pos) te)(hr:PAq X es t):PAq X (.BinOp a o b pos::es) (dJ te t):=by unfold PAq at*;exact dE he hr
end
@[irreducible] def nL (X:Cx)(st:List Stmt)(t:TS):Prop:=PSs X st t
section
end
@[irreducible] def PEq (X:Cx)(e:Expr)(t:TE):Prop:=PE X e t
@[irreducible] def PSq (X:Cx)(st:Stmt)(t:TS):Prop:=PS X st t
section
end
section
theorem tupq (h:PAq X es t):PEq X (.Tuple es k p1) (nS t):=by unfold PEq;exact dN (wE h)
theorem lstq (h:PAq X es t):PEq X (.List es p1) (pH t):=by unfold PEq;exact cN (wE h)
theorem mU (he:PEq X (.Tuple a k pos) te)(hr:PAq X es t):PAq X (.Tuple a k pos::es) (dJ te t):=by unfold PEq at he;unfold PAq at*;exact jF he hr
theorem A1l (h:PEq X e te):nL X [.Return (some e) p3] (rF te):=by unfold PEq at h;unfold nL;exact aQ (bA h)
theorem A7y {st:Stmt}{rest:List Stmt}{t u:TS}(h1:PS X st t)(h2:nL X rest u):PSs X (st::rest) (wS t u):=by unfold nL at h2;exact aN h1 h2
end
theorem Ext.updL (h:H l=some (.lst xs)):Ext H (upd H l (.lst ys))where
 tup:=fun a zs e=>by rw [aV (oR e h (by simp))];exact e
 lst:=fun a zs e=>by
  by_cases ha:a=l
  ·exact⟨ys,by rw [ha,aG]⟩
  ·exact⟨zs,by rw [aV ha];exact e⟩
 dct:=fun a zs e=>by rw [aV (oR e h (by simp))];exact e
end L2
namespace Grd
noncomputable abbrev bD:=List (List Int)
noncomputable def pos (n:Int):Bool:=decide (0<=n)
noncomputable def road (n:Int):Bool:=decide (n= -1)
noncomputable def eJ (f:Int->Bool)(r:Int)(xs:List Int):List (Int×Int):=xs.zipIdx.filterMap fun q=>if f q.1 then some (r,(q.2:Int))else none
noncomputable def aT (f:Int->Bool)(g:bD):List (Int×Int):=(g.zipIdx.map fun p=>eJ f p.2 p.1).flatten
noncomputable def atG (g:bD)(c:Int×Int):Int:=(g.getD c.1.toNat []).getD c.2.toNat 0
noncomputable def iD (xs:List Int):Int:=(xs.map fun n=>if n>0 then n else 0).sum
noncomputable def bO (g:bD):Int:=(g.map iD).sum
noncomputable def fC (xs:List Int):Nat:=(xs.filter pos).length
noncomputable def cT (g:bD):Nat:=(g.map fC).sum
structure cK (g:bD)(w:Nat):Prop where
 h1:1<=g.length
 h4:g.length<=4
 w1:1<=w
 w5:w<=5
 len:∀xs∈g,xs.length=w
 num:∀xs∈g,∀n∈xs,-2<=n/\n<=99
 c1:1<=cT g
 c10:cT g<=10
theorem uO (xs:List α)(i:Nat)(x:α)(h:xs[i]?=some x):(xs.take (i+1)).zipIdx=(xs.take i).zipIdx++[(x,i)]:=by have hlt:i<xs.length:=(zjW.mp h).1;rw [take_succ,h,List.zipIdx_append];simp;omega
theorem rowF_succ (f:Int->Bool)(r:Int)(xs:List Int)(i:Nat)(x:Int)(h:xs[i]?=some x):eJ f r (xs.take (i+1))=eJ f r (xs.take i)++if f x then [(r,(i:Int))]else []:=by
 unfold eJ;rw [uO xs i x h,List.filterMap_append]
 congr 1
 cases hf:f x<;>simp [hf]
theorem gridF_succ (f:Int->Bool)(g:bD)(i:Nat)(xs:List Int)(h:g[i]?=some xs):aT f (g.take (i+1))=aT f (g.take i)++eJ f i xs:=by unfold aT;rw [uO g i xs h,map_append,List.flatten_append];simp
theorem mem_rowF:c∈eJ f r xs↔c.1=r/\∃j x,c.2=(j:Nat)/\xs[j]?=some x/\f x=true:=by
 unfold eJ;rw [mem_filterMap];constructor
 ·rintro⟨⟨x,j⟩,hm,e⟩;have hx:=mem_zipIdx_iff_getElem?.mp hm;cases hf:f x with
  |true=>
   simp only [hf,if_true,Option.some.injEq]at e;subst e;exact⟨rfl,j,x,rfl,hx,hf⟩
  |false=>simp [hf]at e
 ·rintro⟨e1,j,x,e2,hx,hf⟩;refine⟨(x,j),mem_zipIdx_iff_getElem?.mpr hx,?_⟩;simp only [hf,if_true,Option.some.injEq];exact Prod.ext e1.symm e2.symm
theorem mem_gridF:c∈aT f g↔ ∃(i j:Nat)(xs:List Int)(x:Int),c=((i:Int),(j:Int))/\g[i]?=some xs/\xs[j]?=some x/\f x=true:=by
 unfold aT;rw [mem_flatten];constructor
 ·rintro⟨l,hl,hc⟩;obtain⟨⟨xs,i⟩,hm,rfl⟩:=mem_map.mp hl;obtain⟨e1,j,x,e2,hx,hf⟩:=mem_rowF.mp hc;exact⟨i,j,xs,x,Prod.ext e1 e2,mem_zipIdx_iff_getElem?.mp hm,hx,hf⟩
 ·rintro⟨i,j,xs,x,rfl,hg,hx,hf⟩;exact⟨eJ f i xs,mem_map.mpr ⟨(xs,i),mem_zipIdx_iff_getElem?.mpr hg,rfl⟩,mem_rowF.mpr ⟨rfl,j,x,rfl,hx,hf⟩⟩
theorem iQ {g:bD}{i j:Nat}{xs:List Int}{x:Int}(h1:g[i]?=some xs)(h2:xs[j]?=some x):atG g ((i:Int),(j:Int))=x:=by unfold atG;simp [getD_eq_getElem?_getD,h1,h2]
theorem tK {r:Int}:∀(pre xs:List Int)(v:Int×Int->Int),(∀j x,xs[j]?=some x->v (r,((pre.length+j:Nat):Int))=x)->(((xs.zipIdx pre.length).filterMap fun q=>if pos q.1 then some (r,(q.2:Int))else none).map v)=xs.filter pos
 |_,[],_,_=>by simp
 |pre,x::xs,v,h=>by
  have ih:=tK (r:=r) (pre++[x]) xs v fun j y hy=>by
   have:=h (j+1) y (by simpa using hy);rw [length_append];have e:pre.length+[x].length+j=pre.length+(j+1):=by simp;omega
   rw [e];exact this
  have h0:=h 0 x rfl;rw [length_append]at ih;rw [zipIdx_cons];have ih':(((xs.zipIdx (pre.length+1)).filterMap fun q=>if pos q.1 then some (r,(q.2:Int))else none).map v)=xs.filter pos:=ih;cases hp:pos x with
  |true=>
   rw [List.filterMap_cons_some (b:=(r,(pre.length:Int))) (by simp [hp]),map_cons,ih',filter_cons_of_pos hp]
   congr 1
  |false=>
   rw [List.filterMap_cons_none (by simp [hp]),ih',filter_cons_of_neg (by simp [hp])]
theorem qR (g:bD):(aT pos g).map (atG g)=(g.map fun xs=>xs.filter pos).flatten:=by
 unfold aT;rw [List.map_flatten,map_map];have e:g.zipIdx.map (List.map (atG g)∘fun p=>eJ pos p.2 p.1)=g.zipIdx.map fun p=>p.1.filter pos:=by
  refine map_congr_left fun p hp=> ?_;obtain⟨xs,i⟩:=p;have hx:=mem_zipIdx_iff_getElem?.mp hp;show(eJ pos i xs).map (atG g)=xs.filter pos;exact tK (r:=(i:Int)) [] xs (atG g) fun j x hj=>by
   simp only [length_nil,zero_add];exact iQ hx hj
 rw [e]
 congr 1
 have:(fun p:List Int×Nat=>p.1.filter pos)=(fun xs=>xs.filter pos)∘Prod.fst:=rfl;rw [this,←map_map,List.zipIdx_map_fst]
theorem A6h (xs:List Int):(xs.filter pos).sum=iD xs:=by
 unfold iD
 induction xs with
 |nil=>rfl
 |cons x xs ih=>
  rw [map_cons,sum_cons,←ih];by_cases h:0<=x
  ·rw [filter_cons_of_pos (by simp [pos,h]),sum_cons]
   congr 1
   split<;>omega
  ·rw [filter_cons_of_neg (by simp [pos,h])];rw [if_neg (by omega)];omega
theorem vN:∀g:bD,(g.map fun xs=>xs.filter pos).flatten.sum=bO g
 | []=>rfl
 |xs::g=>by
  rw [map_cons,flatten_cons,List.sum_append,A6h,vN g];unfold bO;rw [map_cons,sum_cons]
theorem wI (g:bD):((aT pos g).map (atG g)).sum=bO g:=by rw [qR,vN]
theorem eV (g:bD):(aT pos g).length=cT g:=by have:=congrArg List.length (qR g);rw [length_map]at this;rw [this,List.length_flatten,map_map];rfl
end Grd
namespace L2
open PySem Grd
noncomputable def jH (s:Stmt):List Stmt:=match s with| .For _ _ b _ _=>b|_=> []
noncomputable def RowsG (H:Hp)(bs:List Addr)(g:bD):Prop:=Paired (fun b xs=>H b=some (.tup ((xs:List Int).map V.int))) bs g
noncomputable def GridAt (H:Hp)(a:Addr)(g:bD):Prop:=∃bs:List Addr,H a=some (.tup (bs.map V.ref))/\RowsG H bs g
theorem RowsG.ext (h:RowsG H bs g)(e:Ext H H'):RowsG H' bs g:=Paired.mapP h fun _ _ z=>e.tup _ _ z
theorem GridAt.ext (h:GridAt H a g)(e:Ext H H'):GridAt H' a g:=let ⟨bs,h1,h2⟩:=h;⟨bs,e.tup _ _ h1,h2.ext e⟩
theorem RowsG.get:∀{bs:List Addr}{g:bD}{i:Nat}{xs:List Int},RowsG H bs g->g[i]?=some xs->∃b,bs[i]?=some b/\H b=some (.tup (xs.map V.int))
 |_,_,0,_,.cons r _,h=>by cases h;exact⟨_,rfl,r⟩
 |_,_,i+1,_,.cons _ t,h=>RowsG.get (i:=i) t (by simpa using h)
theorem RowsG.row:∀{bs:List Addr}{g:bD}{i:Nat}{b:Addr},RowsG H bs g->bs[i]?=some b->∃xs,g[i]?=some xs/\H b=some (.tup (xs.map V.int))
 |_,_,0,_,.cons r _,h=>by cases h;exact⟨_,rfl,r⟩
 |_,_,i+1,_,.cons _ t,h=>RowsG.row (i:=i) t (by simpa using h)
end L2
namespace M52
open PySem L2 PyProof.Rows Grd
structure dX (mg:Str->Option Value):Prop where
 range:mg "range" =none
 list:mg "list" =none
 zip:mg "zip" =none
 sum:mg "sum" =none
 dict:mg "dict" =none
 set:mg "set" =none
 sorted:mg "sorted" =none
 any:mg "any" =none
 abs:mg "abs" =none
 road:∃t,mg "ROAD" =some (.int (-1) t)
end M52
namespace L2
open PySem PySem.Spec PyProof.Rows
noncomputable def PlAt (H:Hp)(ps:List Addr)(cs:List (Int×Int)):Prop:=Paired (fun p c=>H p=some (.tup [.int c.1,.int c.2])) ps cs
theorem PlAt.same (h:PlAt H ps cs)(s:Same H H'):PlAt H' ps cs:=Paired.mapP h fun _ _ e=>s _ _ e
theorem PlAt.snoc (h:PlAt H ps cs)(e:H p=some (.tup [.int c.1,.int c.2])):PlAt H (ps++[p]) (cs++[c]):=Paired.snoc h e
end L2
namespace PySem
open Sem (wp)
section
structure eE (z TI TO i1 i2:Addr)(f1 f2:List Addr):Prop where
 z1:z∉f1
 z2:z∉f2
 o1:TO∉f1
 o2:TO∉f2
 c1:i1∉f2
 c2:i2∉f1
 Iz:TI≠z
 Oz:TO≠z
 iz:i1≠z
 jz:i2≠z
 IO:TI≠TO
 I1:TI≠i1
 I2:TI≠i2
 O1:TO≠i1
 O2:TO≠i2
 ij:i1≠i2
theorem qJ (n a b:Nat)(h1:a<n)(h2:b<n):eE (n+4) (n+2) (n+3) n (n+1) [n,a] [n+1,b]:=by
  constructor<;>intro h<;>first
    | (have h':@Eq Nat _ _:=h;omega)
    | (rcases mem_cons.mp h with y|y
       · have y':@Eq Nat _ _:=y;omega
       · have y':@Eq Nat _ _:=mem_singleton.mp y;omega)
theorem A45 {z TI TO i1 i2:Addr}{f1 f2:List Addr}{n1 n2 k:Nat}{P1 P2:Nat->Value->Prop}{S1 S2:Nat->Heap->Prop}{a b:Value}{Q:Value->Shared->Prop}(D1:Draws prog w A i1 f1 n1 P1 S1)(D2:Draws prog w A i2 f2 n2 P2 S2)(D:eE z TI TO i1 i2 f1 f2)
  (hz:IsZip s.heap z TI TO .none)(hTI:IsPair s.heap TI (.ref i1) (.ref i2))(hTO:IsPair s.heap TO a b)(t1:S1 k s.heap)(t2:S2 k s.heap)(hk1:k<n1)(hk2:k<n2)
  (hQ:∀x y h' tk,P1 k x->P2 k y->IsZip h' z TI TO (rawInt s.heap.objs.size)->IsPair h' TO x y->S1 (k+1) h'->S2 (k+1) h'->IsPair h' s.heap.objs.size x y->
   (∀c o,c≠z->c≠TO->c≠i1->c≠i2->s.heap.get? c=some o->h'.get? c=some o)->Q (.ref s.heap.objs.size) {s with heap:=h',toks:=tk}):
  wpAny (model prog w) A (Builtin.«zip.__next__» ⟨[.ref z],[]⟩) (fun fin s'=> ∃v,fin= .done (.ret v)/\Q v s') E s:=by
 show wpAny _ _ (field (.ref z) 2>>=_) _ _ _;refine zjZ (wpAny_field hz rfl (x:=.bool false) rfl ?_);show wpAny _ _ (field (.ref z) 3>>=_) _ _ _;refine zjZ (wpAny_field hz rfl (x:=.ref TI) rfl (zjZ (wpAny_seqItems hTI rfl ?_)));show wpAny _ _ (Builtin.SmallTypes.ownedTupleIsFree (.ref z)>>=_) _ _ _;refine zjZ ?_;unfold Builtin.SmallTypes.ownedTupleIsFree;refine zjZ (wpAny_field hz rfl (x:=.none) rfl (zjY ?_));simp only [if_true];refine zjZ (wpAny_rule (zjZ (wpAny_field hz rfl (x:=.ref TO) rfl (zjZ (wpAny_setField_rec hz (by simp) fun h₁ hz₁ hs₁=> ?_)))));replace hz₁:IsZip h₁ z TI TO .ellipsis:=hz₁;refine zjZ ?_;simp only [zipIdx_cons,zipIdx_nil,forIn_cons,forIn_nil];refine zjZ (zjZ (wpAny_onRaise ?_));show wpAny _ _ (Builtin.SmallTypes.nextOf (.ref i1)>>=_) _ _ _;have u1:S1 k h₁:=D1.frame k _ _ t1 fun c hc o e=>hs₁.extBut _ _ (fun q=>D.z1 (q▸hc)) e;refine zjZ (D1.item k _ _ _ hk1 u1 fun x h₂ tk₂ hx v1 hs₂=>zjY ?_);have hTO₂:IsPair h₂ TO a b:=hs₂.extBut _ _ D.O1 (hs₁.extBut _ _ D.Oz hTO);refine zjZ (wpAny_seqItems hTO₂ rfl (zjZ (wpAny_updateSeq_pair hTO₂ fun h₃ hTO₃ hs₃=> ?_)));replace hTO₃:IsPair h₃ TO x b:=hTO₃;refine zjZ (wpAny_letGo (zjY ?_));refine zjZ (zjZ (wpAny_onRaise ?_));show wpAny _ _ (Builtin.SmallTypes.nextOf (.ref i2)>>=_) _ _ _;have u2:S2 k h₃:=D2.frame k _ _ t2 fun c hc o e=>hs₃.extBut _ _ (fun q=>D.o2 (q▸hc)) (hs₂.extBut _ _ (fun q=>D.c1 (q▸hc)) (hs₁.extBut _ _ (fun q=>D.z2 (q▸hc)) e));refine zjZ (D2.item k _ _ _ hk2 u2 fun y h₄ tk₄ hy v2 hs₄=>zjY ?_);have hTO₄:IsPair h₄ TO x b:=hs₄.extBut _ _ D.O2 hTO₃;refine zjZ (wpAny_seqItems hTO₄ rfl (zjZ (wpAny_updateSeq_pair hTO₄ fun h₅ hTO₅ hs₅=> ?_)));replace hTO₅:IsPair h₅ TO x y:=hTO₅;refine zjZ (wpAny_letGo (zjY (zjY ?_)));refine zjZ (wpAny_seqItems hTO₅ rfl (zjZ (wpAny_newTuple ?_)));have hsz:h₅.objs.size=s.heap.objs.size:=by rw [hs₅.1,hs₄.1,hs₃.1,hs₂.1,hs₁.1]
 have hz₅:IsZip h₅ z TI TO .ellipsis:=hs₅.extBut _ _ D.Oz.symm (hs₄.extBut _ _ D.jz.symm (hs₃.extBut _ _ D.Oz.symm (hs₂.extBut _ _ D.iz.symm hz₁)));have hk₅:∀c o,c≠z->c≠TO->c≠i1->c≠i2->s.heap.get? c=some o->h₅.get? c=some o:=fun c o e1 e2 e3 e4 e=>hs₅.extBut _ _ e2 (hs₄.extBut _ _ e4 (hs₃.extBut _ _ e2 (hs₂.extBut _ _ e3 (hs₁.extBut _ _ e1 e))));have w1:S1 (k+1) h₅:=D1.frame _ _ _ v1 fun c hc o e=>hs₅.extBut _ _ (fun q=>D.o1 (q▸hc)) (hs₄.extBut _ _ (fun q=>D.c2 (q▸hc)) (hs₃.extBut _ _ (fun q=>D.o1 (q▸hc)) e));have w2:S2 (k+1) h₅:=D2.frame _ _ _ v2 fun c hc o e=>hs₅.extBut _ _ (fun q=>D.o2 (q▸hc)) e;have hzlt:z<h₅.objs.size:=zjT hz₅;show wpAny _ _ (Builtin.SmallTypes.ownedTupleHandOut (.ref z) (.ref h₅.objs.size)>>=_) _ _ _;refine zjZ ?_;unfold Builtin.SmallTypes.ownedTupleHandOut;have hz₆:IsZip (h₅.push {cls:=.type "tuple",data:=.seq #[x,y]}) z TI TO .ellipsis:=zjX _ hz₅;refine zjZ (wpAny_setField_rec hz₆ (by simp) fun h₇ hz₇ hs₇=> ?_);replace hz₇:IsZip h₇ z TI TO (rawInt h₅.objs.size):=hz₇;refine wpAny_setField_rec hz₇ (by simp) fun h₈ hz₈ hs₈=> ?_;replace hz₈:IsZip h₈ z TI TO (rawInt h₅.objs.size):=hz₈;have up:∀c o,c≠z->h₅.get? c=some o->h₈.get? c=some o:=fun c o e1 e=>hs₈.extBut _ _ e1 (hs₇.extBut _ _ e1 (zjX _ e));have hT₈:IsPair h₈ h₅.objs.size x y:=hs₈.extBut _ _ (ne_of_gt hzlt) (hs₇.extBut _ _ (ne_of_gt hzlt) (get?_push_size _ rfl));rw [hsz]at hz₈ hT₈;refine zjY ⟨_,rfl,?_⟩;show Q (.ref h₅.objs.size) _;rw [hsz];exact hQ x y h₈ _ hx hy hz₈ (up _ _ D.Oz hTO₅) (D1.frame _ _ _ w1 fun c hc o e=>up c o (fun q=>D.z1 (q▸hc)) e) (D2.frame _ _ _ w2 fun c hc o e=>up c o (fun q=>D.z2 (q▸hc)) e) hT₈ fun c o e1 e2 e3 e4 e=>up c o e1 (hk₅ c o e1 e2 e3 e4 e)
theorem A54 (D1:Draws prog w A i1 f1 n1 P1 S1)(D:eE z TI TO i1 i2 f1 f2)
  (hz:IsZip s.heap z TI TO .none)(hTI:IsPair s.heap TI (.ref i1) (.ref i2))(t1:S1 n1 s.heap)
  (hE:∀h' e,(∀c o,c≠z->c≠i1->s.heap.get? c=some o->h'.get? c=some o)->(∃o,h'.get? e=some o/\o.cls= .type "StopIteration")->E (.ref e) {s with heap:=h'}):
  wpAny (model prog w) A (Builtin.«zip.__next__» ⟨[.ref z],[]⟩) Q E s:=by
 show wpAny _ _ (field (.ref z) 2>>=_) _ _ _;refine zjZ (wpAny_field hz rfl (x:=.bool false) rfl ?_);show wpAny _ _ (field (.ref z) 3>>=_) _ _ _;refine zjZ (wpAny_field hz rfl (x:=.ref TI) rfl (zjZ (wpAny_seqItems hTI rfl ?_)));show wpAny _ _ (Builtin.SmallTypes.ownedTupleIsFree (.ref z)>>=_) _ _ _;refine zjZ ?_;unfold Builtin.SmallTypes.ownedTupleIsFree;refine zjZ (wpAny_field hz rfl (x:=.none) rfl (zjY ?_));simp only [if_true];refine zjZ (wpAny_rule (zjZ (wpAny_field hz rfl (x:=.ref TO) rfl (zjZ (wpAny_setField_rec hz (by simp) fun h₁ hz₁ hs₁=> ?_)))));replace hz₁:IsZip h₁ z TI TO .ellipsis:=hz₁;refine zjZ ?_;simp only [zipIdx_cons,zipIdx_nil,forIn_cons,forIn_nil];refine zjZ (zjZ (wpAny_onRaise ?_));show wpAny _ _ (Builtin.SmallTypes.nextOf (.ref i1)>>=_) _ _ _;have u1:S1 n1 h₁:=D1.frame n1 _ _ t1 fun c hc o e=>hs₁.extBut _ _ (fun q=>D.z1 (q▸hc)) e;refine zjZ (D1.done _ _ _ u1 fun h₂ e hs₂ he=> ?_);obtain⟨oe,hoe,hce⟩:=he;have hz₂:IsZip h₂ z TI TO .ellipsis:=hs₂ _ _ D.iz.symm hz₁;have hez:e≠z:=fun x=>by subst x;rw [hz₂]at hoe;cases hoe;simp at hce
 refine wpAny_setField_rec hz₂ (by simp) fun h₃ _ hs₃=>hE h₃ e (fun c o c1 c3 x=>hs₃.extBut _ _ c1 (hs₂ _ _ c3 (hs₁.extBut _ _ c1 x))) ⟨oe,hs₃.extBut _ _ hez hoe,hce⟩
theorem A9o {z TI TO i1 i2:Addr}{f1 f2:List Addr}{n1 n2 k:Nat}{P1 P2:Nat->Value->Prop}{S1 S2:Nat->Heap->Prop}{a b:Value}{Q:Option Value->Shared->Prop}(D1:Draws prog w A.in1 i1 f1 n1 P1 S1)(D2:Draws prog w A.in1 i2 f2 n2 P2 S2)(D:eE z TI TO i1 i2 f1 f2)
  (hz:IsZip s.heap z TI TO .none)(hTI:IsPair s.heap TI (.ref i1) (.ref i2))(hTO:IsPair s.heap TO a b)(t1:S1 k s.heap)(t2:S2 k s.heap)(hk1:k<n1)(hk2:k<n2)
  (hQ:∀x y h' tk,P1 k x->P2 k y->IsZip h' z TI TO (rawInt s.heap.objs.size)->IsPair h' TO x y->S1 (k+1) h'->S2 (k+1) h'->IsPair h' s.heap.objs.size x y->
   (∀c o,c≠z->c≠TO->c≠i1->c≠i2->s.heap.get? c=some o->h'.get? c=some o)->Q (some (.ref s.heap.objs.size)) {s with heap:=h',toks:=tk}):
  wpAny (model prog w) A (pyNext (.ref z)) Q E s:=by
 have hT:s.TypeIs (.ref z) "zip":=⟨_,hz,rfl⟩;unfold pyNext;exact zjZ (wpAny_attempt (wpAny_callSpecial?_slot (name:=Str.ofString "__next__") hT F.slot_zip_next (wpAny_call_entry F.slot_zip_next hT F.entry_zip_next
   (A45 D1 D2 D hz hTI hTO t1 t2 hk1 hk2 fun x y h' tk q1 q2 a1 a2 a3 a4 a5 a6=>zjY (hQ x y h' tk q1 q2 a1 a2 a3 a4 a5 a6)) (F.args_zip_next_1 _))))
theorem A99 (D1:Draws prog w A.in1 i1 f1 n1 P1 S1)(D:eE z TI TO i1 i2 f1 f2)
  (hz:IsZip s.heap z TI TO .none)(hTI:IsPair s.heap TI (.ref i1) (.ref i2))(t1:S1 n1 s.heap)
  (hQ:∀h',(∀c o,c≠z->c≠i1->s.heap.get? c=some o->h'.get? c=some o)->Q none {s with heap:=h'}):wpAny (model prog w) A (pyNext (.ref z)) Q E s:=by
 have hT:s.TypeIs (.ref z) "zip":=⟨_,hz,rfl⟩;unfold pyNext;refine zjZ (wpAny_attempt (wpAny_callSpecial?_slot (name:=Str.ofString "__next__") hT F.slot_zip_next (wpAny_call_entry F.slot_zip_next hT F.entry_zip_next (A54 D1 D hz hTI t1 fun h' e hk he=> ?_) (F.args_zip_next_1 _))));obtain⟨o,ho,hc⟩:=he;exact zjZ (wpAny_isInstance (T:="StopIteration") (b:=true) ⟨o,ho,hc⟩ isSubtype_stop (zjY (hQ _ hk)))
end
noncomputable abbrev zT1 (h:Heap)(l1:Addr):Heap:=h.push {cls:=.type "tuple_iterator",data:=.fields #[.ref l1,.int 0 0]}
noncomputable abbrev zT2 (h:Heap)(l1 l2:Addr):Heap:=(zT1 h l1).push {cls:=.type "tuple_iterator",data:=.fields #[.ref l2,.int 0 0]}
noncomputable abbrev zT3 (h:Heap)(l1 l2:Addr):Heap:=(zT2 h l1 l2).push {cls:=.type "tuple",data:=.seq #[.ref h.objs.size,.ref (zT1 h l1).objs.size]}
noncomputable abbrev zT4 (h:Heap)(l1 l2:Addr):Heap:=(zT3 h l1 l2).push {cls:=.type "tuple",data:=.seq #[.none,.none]}
noncomputable abbrev zT5 (h:Heap)(l1 l2:Addr):Heap:=(zT4 h l1 l2).push {cls:=.type "zip",data:=.fields #[.none,.bool false,.bool false,.ref (zT2 h l1 l2).objs.size,.ref (zT3 h l1 l2).objs.size]}
theorem B06 (l1 l2:Addr)(xs ys:Array Value):
  Meets (Builtin.«zip.__new__» ⟨[.type "zip",.ref l1,.ref l2],[]⟩) (fun _ R s=>s.heap.IsTuple l1 xs/\s.heap.IsTuple l2 ys/\R (.ok (.ret (.ref (zT4 s.heap l1 l2).objs.size))) {s with heap:=zT5 s.heap l1 l2}):=
 .of_wp fun prog w A R s h=>by
  obtain⟨hp,g,d,tk,os⟩:=s;obtain⟨p1,p2,h⟩:=h;have isz:=sub_zip;have q1:Heap.IsTuple (Shared.heap ⟨hp,g,d,tk,os⟩) l1 xs:=p1;have q2:Heap.IsTuple (Shared.heap ⟨hp.push {cls:=.type "tuple_iterator",data:=.fields #[.ref l1,.int 0 0]},g,d,tk,os⟩) l2 ys:=let ⟨o,ho,r⟩:=p2;⟨o,zjX _ ho,r⟩
  wp_walk using wpAny_pyIter_tuple q1,wpAny_pyIter_tuple q2
  exact⟨_,rfl,h⟩
section
theorem A6w (p1:s.heap.IsTuple l1 xs)(p2:s.heap.IsTuple l2 ys)
  (h:∀h',IsZip h' (s.heap.objs.size+4) (s.heap.objs.size+2) (s.heap.objs.size+3) .none->IsPair h' (s.heap.objs.size+2) (.ref s.heap.objs.size) (.ref (s.heap.objs.size+1))->
   IsPair h' (s.heap.objs.size+3) .none .none->h'.IsTupleIter s.heap.objs.size l1 0->h'.IsTupleIter (s.heap.objs.size+1) l2 0->h'.objs.size=s.heap.objs.size+5->
   (∀c o,s.heap.get? c=some o->h'.get? c=some o)->Q (.ref (s.heap.objs.size+4)) {s with heap:=h'}):
  wpAny (model prog w) A (call (.type "zip") [.ref l1,.ref l2]) Q E s:=by
 refine callType_new F.called_zip (by decide) (F.typeCall_zip_2 _ _) (F.newCall_zip_2 _ _) (fun obj=>F.args_object_init_3 obj _ _) F.entry_zip_new (B06 l1 l2 xs ys) ⟨p1,p2,?_⟩;have y1:(zT1 s.heap l1).objs.size=s.heap.objs.size+1:=size_push ..;have y2:(zT2 s.heap l1 l2).objs.size=s.heap.objs.size+2:=by rw [size_push,y1]
 have y3:(zT3 s.heap l1 l2).objs.size=s.heap.objs.size+3:=by rw [size_push,y2]
 have y4:(zT4 s.heap l1 l2).objs.size=s.heap.objs.size+4:=by rw [size_push,y3]
 have y5:(zT5 s.heap l1 l2).objs.size=s.heap.objs.size+5:=by rw [size_push,y4]
 have r5:(zT5 s.heap l1 l2).get? (zT4 s.heap l1 l2).objs.size=some _:=get?_push_size _ rfl;have r4:(zT5 s.heap l1 l2).get? (zT3 s.heap l1 l2).objs.size=some _:=zjX _ (get?_push_size _ rfl);have r3:(zT5 s.heap l1 l2).get? (zT2 s.heap l1 l2).objs.size=some _:=zjX _ (zjX _ (get?_push_size _ rfl));have r2:(zT5 s.heap l1 l2).get? (zT1 s.heap l1).objs.size=some _:=zjX _ (zjX _ (zjX _ (get?_push_size _ rfl)));have r1:(zT5 s.heap l1 l2).get? s.heap.objs.size=some _:=zjX _ (zjX _ (zjX _ (zjX _ (get?_push_size _ rfl))));show _/\_;rw [y2,y3,y4]at r5;rw [y1,y2]at r3;rw [y3]at r4;rw [y1]at r2;rw [y4];exact⟨⟨_,r5,rfl⟩,h _ r5 r3 r4 ⟨_,r1,rfl,rfl⟩ ⟨_,r2,rfl,rfl⟩ y5 fun c o x=>zjX _ (zjX _ (zjX _ (zjX _ (zjX _ x))))⟩
theorem A2v (D1:Draws prog w A i1 f1 n1 P1 S1)(D2:Draws prog w A i2 f2 n2 P2 S2)(D:eE z TI TO i1 i2 f1 f2)
  (hz:IsZip s.heap z TI TO .none)(hTI:IsPair s.heap TI (.ref i1) (.ref i2))(hTO:IsPair s.heap TO a b)(t1:S1 n2 s.heap)(t2:S2 n2 s.heap)(hk1:n2<n1)
  (hE:∀h' e tk,(∀c o,c≠z->c≠TO->c≠i1->c≠i2->s.heap.get? c=some o->h'.get? c=some o)->(∃o,h'.get? e=some o/\o.cls= .type "StopIteration")->E (.ref e) {s with heap:=h',toks:=tk}):
  wpAny (model prog w) A (Builtin.«zip.__next__» ⟨[.ref z],[]⟩) Q E s:=by
 show wpAny _ _ (field (.ref z) 2>>=_) _ _ _;refine zjZ (wpAny_field hz rfl (x:=.bool false) rfl ?_);show wpAny _ _ (field (.ref z) 3>>=_) _ _ _;refine zjZ (wpAny_field hz rfl (x:=.ref TI) rfl (zjZ (wpAny_seqItems hTI rfl ?_)));show wpAny _ _ (Builtin.SmallTypes.ownedTupleIsFree (.ref z)>>=_) _ _ _;refine zjZ ?_;unfold Builtin.SmallTypes.ownedTupleIsFree;refine zjZ (wpAny_field hz rfl (x:=.none) rfl (zjY ?_));simp only [if_true];refine zjZ (wpAny_rule (zjZ (wpAny_field hz rfl (x:=.ref TO) rfl (zjZ (wpAny_setField_rec hz (by simp) fun h₁ hz₁ hs₁=> ?_)))));replace hz₁:IsZip h₁ z TI TO .ellipsis:=hz₁;refine zjZ ?_;simp only [zipIdx_cons,zipIdx_nil,forIn_cons,forIn_nil];refine zjZ (zjZ (wpAny_onRaise ?_));show wpAny _ _ (Builtin.SmallTypes.nextOf (.ref i1)>>=_) _ _ _;have u1:S1 n2 h₁:=D1.frame n2 _ _ t1 fun c hc o e=>hs₁.extBut _ _ (fun q=>D.z1 (q▸hc)) e;refine zjZ (D1.item n2 _ _ _ hk1 u1 fun x h₂ tk₂ hx v1 hs₂=>zjY ?_);have hTO₂:IsPair h₂ TO a b:=hs₂.extBut _ _ D.O1 (hs₁.extBut _ _ D.Oz hTO);refine zjZ (wpAny_seqItems hTO₂ rfl (zjZ (wpAny_updateSeq_pair hTO₂ fun h₃ hTO₃ hs₃=> ?_)));refine zjZ (wpAny_letGo (zjY ?_));refine zjZ (zjZ (wpAny_onRaise ?_));show wpAny _ _ (Builtin.SmallTypes.nextOf (.ref i2)>>=_) _ _ _;have u2:S2 n2 h₃:=D2.frame n2 _ _ t2 fun c hc o e=>hs₃.extBut _ _ (fun q=>D.o2 (q▸hc)) (hs₂.extBut _ _ (fun q=>D.c1 (q▸hc)) (hs₁.extBut _ _ (fun q=>D.z2 (q▸hc)) e));refine zjZ (D2.done _ _ _ u2 fun h₄ e hs₄ he=> ?_);obtain⟨oe,hoe,hce⟩:=he;have hz₄:IsZip h₄ z TI TO .ellipsis:=hs₄ _ _ D.jz.symm (hs₃.extBut _ _ D.Oz.symm (hs₂.extBut _ _ D.iz.symm hz₁));have hez:e≠z:=fun x=>by subst x;rw [hz₄]at hoe;cases hoe;simp at hce
 refine wpAny_setField_rec hz₄ (by simp) fun h₅ _ hs₅=>hE h₅ e _ (fun c o c1 c2 c3 c4 x=>hs₅.extBut _ _ c1 (hs₄ _ _ c4 (hs₃.extBut _ _ c2 (hs₂.extBut _ _ c3 (hs₁.extBut _ _ c1 x))))) ⟨oe,hs₅.extBut _ _ hez hoe,hce⟩
theorem A52 (D1:Draws prog w A.in1 i1 f1 n1 P1 S1)(D2:Draws prog w A.in1 i2 f2 n2 P2 S2)(D:eE z TI TO i1 i2 f1 f2)
  (hz:IsZip s.heap z TI TO .none)(hTI:IsPair s.heap TI (.ref i1) (.ref i2))(hTO:IsPair s.heap TO a b)(t1:S1 n2 s.heap)(t2:S2 n2 s.heap)(hk1:n2<n1)
  (hQ:∀h' tk,(∀c o,c≠z->c≠TO->c≠i1->c≠i2->s.heap.get? c=some o->h'.get? c=some o)->Q none {s with heap:=h',toks:=tk}):wpAny (model prog w) A (pyNext (.ref z)) Q E s:=by
 have hT:s.TypeIs (.ref z) "zip":=⟨_,hz,rfl⟩;unfold pyNext;refine zjZ (wpAny_attempt (wpAny_callSpecial?_slot (name:=Str.ofString "__next__") hT F.slot_zip_next (wpAny_call_entry F.slot_zip_next hT F.entry_zip_next (A2v D1 D2 D hz hTI hTO t1 t2 hk1 fun h' e tk hk he=> ?_) (F.args_zip_next_1 _))));obtain⟨o,ho,hc⟩:=he;exact zjZ (wpAny_isInstance (T:="StopIteration") (b:=true) ⟨o,ho,hc⟩ isSubtype_stop (zjY (hQ _ _ hk)))
end
end PySem
namespace L2
open PySem PySem.Spec PyProof.Rows
structure SeqK where
 Sq:W.Frag->Hp->Addr->List V->Prop
 isq:Heap->Addr->Array Value->Prop
 iit:Heap->Addr->Addr->Nat->Prop
structure SeqK.Ok (k:SeqK):Prop where
 get:∀{X:Cx}{pins:List (Addr×Obj)}{σ:St}{H:Hp}{s:Shared}{a:Addr}{xs:List V},Inv X pins σ H s->k.Sq X.K H a xs->∃its:List Value,Vals xs its/\k.isq s.heap a its.toArray
 inj:∀{X:Cx}{pins:List (Addr×Obj)}{σ:St}{H:Hp}{s:Shared}{a:Addr}{xs ys:List V},Inv X pins σ H s->k.Sq X.K H a xs->k.Sq X.K H a ys->xs=ys
 lt:∀{h:Heap}{a:Addr}{its:Array Value},k.isq h a its->a<h.objs.size
 dr:∀{prog:Program}{w:World}{A:Around},A.handled=none->∀(it l:Addr),l≠it->∀items:Array Value,Draws prog w A it [it,l] items.size (fun i v=>items[i]?=some v) (fun i h=>k.iit h it l i/\k.isq h l items)
 obj:∀{h:Heap}{it l:Addr}{i:Nat},k.iit h it l i->∃o,h.get? it=some o/\∀v,o.data≠ .cell v
 «at»:∀{h h':Heap}{it l:Addr}{i:Nat},k.iit h it l i->(∀o,h.get? it=some o->h'.get? it=some o)->k.iit h' it l i
 zip:∀{prog:Program}{w:World}{A:Around}{E:Value->Shared->Prop}{s:Shared}{l1 l2:Addr}{xs ys:Array Value}{Q:Value->Shared->Prop},k.isq s.heap l1 xs->k.isq s.heap l2 ys->
  (∀h',IsZip h' (s.heap.objs.size+4) (s.heap.objs.size+2) (s.heap.objs.size+3) .none->IsPair h' (s.heap.objs.size+2) (.ref s.heap.objs.size) (.ref (s.heap.objs.size+1))->IsPair h' (s.heap.objs.size+3) .none .none->
   k.iit h' s.heap.objs.size l1 0->k.iit h' (s.heap.objs.size+1) l2 0->(∀c o,s.heap.get? c=some o->h'.get? c=some o)->Q (.ref (s.heap.objs.size+4)) {s with heap:=h'})->wpAny (model prog w) A (call (.type "zip") [.ref l1,.ref l2]) Q E s
noncomputable def kL:SeqK:=⟨SqL,Heap.IsList,Heap.IsListIter⟩
noncomputable def kT:SeqK:=⟨SqT,Heap.IsTuple,Heap.IsTupleIter⟩
theorem kL_ok:kL.Ok where
 get:=fun I h=>let ⟨its,r,p,_⟩:=I.list h;⟨its,r,p.isList⟩
 inj:=fun I h1 h2=>I.list_inj h1 h2
 lt:=fun p=>let ⟨o,ho,_⟩:=p;zjT ho
 dr:=fun hh it l hne items=>Draws.list hh it l hne items
 obj:=fun⟨o,e,c,d⟩=> ⟨o,e,fun v z=>by rw [d]at z;cases z⟩
 «at»:=fun x k=>Heap.IsListIter.at x k
 zip:=fun p1 p2 h=>call_zip_2 p1 p2 fun h' a1 a2 a3 a4 a5 _ a7=>h h' a1 a2 a3 a4 a5 a7
theorem kT_ok:kT.Ok where
 get:=fun I h=>let ⟨its,r,p,_⟩:=I.tuple h;⟨its,r,p⟩
 inj:=fun I h1 h2=>I.tuple_inj h1 h2
 lt:=fun p=>let ⟨o,ho,_⟩:=p;zjT ho
 dr:=fun hh it l hne items=>Draws.tuple hh it l hne items
 obj:=fun⟨o,e,c,d⟩=> ⟨o,e,fun v z=>by rw [d]at z;cases z⟩
 «at»:=fun x k=>Heap.IsTupleIter.at x k
 zip:=fun p1 p2 h=>A6w p1 p2 fun h' a1 a2 a3 a4 a5 _ a7=>h h' a1 a2 a3 a4 a5 a7
noncomputable def Itz (S1 S2:Hp->List V->Prop):It:=
 ⟨fun i H=> ∃xs ys x y,S1 H xs/\S2 H ys/\xs[i]?=some x/\ys[i]?=some y,fun i H v H'=> ∃p x y,v= .ref p/\H p=none/\H'=upd H p (.tup [x,y])/\(∀xs,S1 H xs->xs[i]?=some x)/\∀ys,S2 H ys->ys[i]?=some y,fun i H=> ∃xs ys,S1 H xs/\S2 H ys/\(xs.length=i\/(ys.length=i/\i<xs.length))⟩
theorem wR {P:Program}{w:World}{K:W.Frag}{es:List Expr}{x1}{pos:Pos}{k k2:SeqK}(ok:k.Ok)(ok2:k2.Ok)(z TI TO i1 i2 a b:Addr)(D:eE z TI TO i1 i2 [i1,a] [i2,b])(ha:a≠i1)(hb:b≠i2):
  iB P w K (.Tuple es x1 pos) (Itz (fun H xs=>k.Sq K H a xs) fun H ys=>k2.Sq K H b ys) [z,TI,TO,i1,i2] z (fun i h=>IsZip h z TI TO .none/\IsPair h TI (.ref i1) (.ref i2)/\(∃u v,IsPair h TO u v)/\k.iit h i1 a i/\k2.iit h i2 b i)where
 mem:=by simp
 obj:=fun i h st c hc=>by
  obtain⟨hz,hTI,⟨u,v,hTO⟩,h1,h2⟩:=st;simp only [mem_cons,not_mem_nil,or_false]at hc;rcases hc with rfl|rfl|rfl|rfl|rfl
  ·exact⟨_,hz,fun v z=>by cases z⟩
  ·exact⟨_,hTI,fun v z=>by cases z⟩
  ·exact⟨_,hTO,fun v z=>by cases z⟩
  ·exact ok.obj h1
  ·exact ok2.obj h2
 keep:=fun i h h' st kp=>by
  obtain⟨hz,hTI,⟨u,v,hTO⟩,h1,h2⟩:=st;exact⟨kp z (by simp) _ hz,kp TI (by simp) _ hTI,⟨u,v,kp TO (by simp) _ hTO⟩,ok.at h1 fun o q=>kp i1 (by simp) o q,ok2.at h2 fun o q=>kp i2 (by simp) o q⟩
 item:=by
  intro X hP hw hK hc i pins s σ H E I hf st hg;subst hP hw hK;obtain⟨hz,hTI,⟨u,v,hTO⟩,h1,h2⟩:=st;obtain⟨xs,ys,x,y,q1,q2,e1,e2⟩:=hg;obtain⟨its,rv,p1⟩:=ok.get I q1;obtain⟨jts,rw',p2⟩:=ok2.get I q2;obtain⟨ux,hux,rx⟩:=rv.get e1;obtain⟨uy,huy,ry⟩:=rw'.get e2;have l1:i<its.toArray.size:=by rw [size_toArray];exact(zjW.mp hux).1
  have l2:i<jts.toArray.size:=by rw [size_toArray];exact(zjW.mp huy).1
  have hh:X.A.in1.handled=none:=by simp [I.ok.hd hc]
  refine A9o (ok.dr hh i1 a ha its.toArray) (ok2.dr hh i2 b hb jts.toArray) D hz hTI hTO ⟨h1,p1⟩ ⟨h2,p2⟩ l1 l2 fun vx vy h' tk hvx hvy g1 g2 g3 g4 g5 g6=> ?_;have ex:vx=ux:=by
   have e:its[i]?=some vx:=by simpa using hvx
   rw [hux]at e;exact(Option.some.inj e).symm
  have ey:vy=uy:=by
   have e:jts[i]?=some vy:=by simpa using hvy
   rw [huy]at e;exact(Option.some.inj e).symm
  subst ex ey;refine⟨_,rfl,wpAny_letOwnedTupleGo_zip (s:={s with heap:=h',toks:=tk}) g1 fun h2' hz2 hs2=> ?_⟩;have hn:H s.heap.objs.size=none:=I.hok.fresh (zjQ _);have lz:∀{c o},s.heap.get? c=some o->s.heap.objs.size≠c:=fun e=>ne_of_gt (zjT e);have li1:s.heap.objs.size≠i1:=let ⟨o,e,_⟩:=ok.obj h1;lz e;have li2:s.heap.objs.size≠i2:=let ⟨o,e,_⟩:=ok2.obj h2;lz e;have kp:∀c o,c∉[z,TI,TO,i1,i2]->s.heap.get? c=some o->h2'.get? c=some o:=fun c o hc' q=>by
   have c1:c≠z:=fun e=>hc' (by simp [e]);exact(hs2.2 c c1).trans (g6 c o c1 (fun e=>hc' (by simp [e])) (fun e=>hc' (by simp [e])) (fun e=>hc' (by simp [e])) q)
  have hT2:IsPair h2' s.heap.objs.size vx vy:=(hs2.2 _ (lz hz)).trans g5;have I2:Inv X pins σ (upd H s.heap.objs.size (.tup [x,y])) {s with heap:=h2',toks:=tk}:=I.turnLaid (fp:=[z,TI,TO,i1,i2]) kp hf (zjQ _) ⟨by show 2<=sizeLine;rw [sizeLine_eq];decide,[vx,vy],.cons rx (.cons ry .nil),⟨_,hT2,rfl,_,rfl⟩⟩;have hTI2:IsPair h2' TI (.ref i1) (.ref i2):=(hs2.2 _ D.Iz).trans (g6 _ _ D.Iz D.IO D.I1 D.I2 hTI);refine⟨.ref s.heap.objs.size,_,I2,rfl,⟨s.heap.objs.size,x,y,rfl,hn,rfl,fun zs hz'=>by rw [ok.inj I hz' q1];exact e1,fun zs hz'=>by rw [ok2.inj I hz' q2];exact e2⟩,⟨hz2,hTI2,⟨_,_,(hs2.2 _ D.Oz).trans g2⟩,ok.at g3.1 fun o q=>(hs2.2 _ D.iz).trans q,ok2.at g4.1 fun o q=>(hs2.2 _ D.jz).trans q⟩,fun c hc'=> ?_⟩;have hcz:c≠s.heap.objs.size:=by
   simp only [mem_cons,not_mem_nil,or_false]at hc';rcases hc' with rfl|rfl|rfl|rfl|rfl
   ·exact(lz hz).symm
   ·exact(lz hTI).symm
   ·exact(lz hTO).symm
   ·exact li1.symm
   ·exact li2.symm
  rw [aV hcz];exact(hf c hc').1
 done:=by
  intro X hP hw hK hc i pins s σ H E I hf st hg;subst hP hw hK;obtain⟨hz,hTI,⟨u,v,hTO⟩,h1,h2⟩:=st;obtain⟨xs,ys,q1,q2,hxy⟩:=hg;obtain⟨its,rv,p1⟩:=ok.get I q1;have hl:=rv.length;have hh:X.A.in1.handled=none:=by simp [I.ok.hd hc]
  rcases hxy with hx| ⟨hy,hx⟩
  rotate_left
  ·obtain⟨jts,rw',p2⟩:=ok2.get I q2;have hl2:=rw'.length;have hi2:jts.toArray.size=i:=by rw [size_toArray,←hl2,hy]
   have hi1:i<its.toArray.size:=by rw [size_toArray,←hl];exact hx
   refine A52 (ok.dr hh i1 a ha its.toArray) (ok2.dr hh i2 b hb jts.toArray) D hz hTI hTO (by rw [hi2];exact⟨h1,p1⟩) (by rw [hi2];exact⟨h2,p2⟩) (by rw [hi2];exact hi1) fun h' tk hk=> ⟨rfl,?_⟩;exact I.turnedL (fp:=[z,TI,TO,i1,i2]) (t':=tk) (fun c o hc' q=>hk c o (fun e=>hc' (by simp [e])) (fun e=>hc' (by simp [e])) (fun e=>hc' (by simp [e])) (fun e=>hc' (by simp [e])) q) hf
  have hi:its.toArray.size=i:=by rw [size_toArray,←hl,hx]
  refine A99 (ok.dr hh i1 a ha its.toArray) D hz hTI (by rw [hi];exact⟨h1,p1⟩) fun h' hk=> ⟨rfl,?_⟩;exact I.turnedL (fp:=[z,TI,TO,i1,i2]) (t':=s.toks) (fun c o hc' q=>hk c o (fun e=>hc' (by simp [e])) (fun e=>hc' (by simp [e])) q) hf
 self:=fun _ _ _ _ _ st h=>wpAny_pyIter_zip st.1 h
noncomputable def A5l (k:SeqK)(K:W.Frag)(ta:TA):TI:=fun σ H R=>ta σ H fun vs H1=> ∃a b xs ys,vs=[.ref a,.ref b]/\k.Sq K H1 a xs/\k.Sq K H1 b ys/\R (Itz (fun H xs=>k.Sq K H a xs) fun H ys=>k.Sq K H b ys) H1
section
theorem A6k {a b:Expr}{ta:TA}{p pos:Pos}{es:List Expr}{x1}{tpos:Pos}{k:SeqK}(ok:k.Ok)(hg:Gl X "zip")(hm:X.mg "zip" =none)(ha:PA X [a,b] ta)(hs:starEach [a,b] X.env=[(false,eval a X.env),(false,eval b X.env)]:=by rfl)(hs2:starEach [b] X.env=[(false,eval b X.env)]:=by rfl):
  PI X (.Tuple es x1 tpos) (.Call (.Name "zip" p) [a,b] [] pos) (A5l k X.K ta):=by
 intro pins s σ H R I h;refine Call_ (gL I hg hm boot_zip (PyProof.Rows.callWith_type1 (thn (ha pos pins s σ H _ I h) fun us s1 ⟨vs,H1,I1,r1,q1⟩=> ?_) (by rw [hs,hs2]) (by rw [hs2];rfl)));obtain⟨a',b',xs,ys,e,q1,q2,q⟩:=q1;subst e;obtain⟨u,v,rfl,rx,ry⟩:=nU r1;cases rx;cases ry;obtain⟨its,rv,p1⟩:=ok.get I1 q1;obtain⟨jts,rw',p2⟩:=ok.get I1 q2;have l1:=ok.lt p1;have l2:=ok.lt p2;refine ok.zip p1 p2 fun h' a1 a2 a3 a4 a5 a7=> ?_;refine wpAny_pyIter_zip (s:={s1 with heap:=h'}) a1 ?_;have I2:Inv X pins σ H1 {s1 with heap:=h'}:=I1.kept (t':=s1.toks) a7;have far:=qJ s1.heap.objs.size a' b' l1 l2;refine⟨s1.heap.objs.size+4,[s1.heap.objs.size+4,s1.heap.objs.size+2,s1.heap.objs.size+3,s1.heap.objs.size,s1.heap.objs.size+1],_,_,H1,rfl,I2,wR ok ok _ _ _ _ _ a' b' far (ne_of_lt l1) (ne_of_lt (lt_succ_of_lt l2)),⟨a1,a2,⟨_,_,a3⟩,a4,a5⟩,fun c hc'=> ?_,q⟩;have hge:s1.heap.objs.size<=c:=by
  simp only [mem_cons,not_mem_nil,or_false]at hc';rcases hc' with rfl|rfl|rfl|rfl|rfl
  ·exact le_add_right _ 4
  ·exact le_add_right _ 2
  ·exact le_add_right _ 3
  ·exact zjQ _
  ·exact le_succ _
 exact I1.fpOk hge (I1.hok.fresh hge)
theorem A01 (hlen:ys.length<=xs.length)(Pv:Nat->St->Hp->Prop)(h0:Pv 0 σ H)(hl:∀i σ H,Pv i σ H->S1 H xs/\S2 H ys)
  (hs:∀i x y p σ H,xs[i]?=some x->ys[i]?=some y->Pv i σ H->H p=none->g (.ref p) σ (upd H p (.tup [x,y])) fun σ2 H2=>tb {D with nx:=Pv (i+1),ct:=Pv (i+1),bk:=D.nx} σ2 H2)(hd:∀σ H,Pv ys.length σ H->D.nx σ H):
  dI (Itz S1 S2) g tb D σ H:=by
 refine⟨fun i m σ H=>m=ys.length - i/\i<=ys.length/\Pv i σ H,⟨ys.length,by simp,zero_le _,h0⟩,?_⟩;rintro i m σ H ⟨rfl,hi,p⟩;obtain⟨q1,q2⟩:=hl i σ H p;by_cases hlt2:i<ys.length
 ·have hlt:i<xs.length:=by omega
  refine .inr ⟨⟨xs,ys,xs[i],ys[i],q1,q2,by simp [hlt],by simp [hlt2]⟩,Pv (i+1),fun σ' H' p'=> ⟨ys.length -(i+1),by omega,rfl,hlt2,p'⟩,fun x H' y=> ?_⟩;obtain⟨pp,a,b,e1,e2,e3,e4,e5⟩:=y;subst e1 e3;exact hs i a b pp σ H (e4 xs q1) (e5 ys q2) p e2
 ·have e:i=ys.length:=by omega
  subst e;exact .inl ⟨⟨xs,ys,q1,q2,by omega⟩,hd σ H p⟩
end
section
variable {X:Cx}
theorem jX (ns:List Int):∀j:Nat,preSum (fun i=>(ns[i]?).getD 0) j=(ns.take j).sum
 |0=>by simp [preSum]
 |j+1=>by
  have ih:=jX ns j;rw [take_succ,List.sum_append];show preSum (fun i=>(ns[i]?).getD 0) j+(ns[j]?).getD 0=_;rw [ih];cases ns[j]?<;>simp
theorem qW (hB:0<=B):∀{ns:List Int},(∀n∈ns,-B<=n/\n<=B)->-(B*ns.length)<=ns.sum/\ns.sum<=B*ns.length
 | [],_=>by simp
 |n::ns,h=>by
  have ih:=qW hB (ns:=ns) fun m hm=>h m (zjS _ hm);have h0:=h n zjR;rw [sum_cons,length_cons];have e:B*((ns.length+1:Nat):Int)=B*(ns.length:Int)+B:=by
   rw [Int.natCast_add,Int.mul_add];simp
  rw [e];constructor<;>omega
theorem lB (hc:X.calm=true):dZ X (.builtin "sum") (fun xs H Q=> ∃(p:Addr)(ns:List Int),xs=[.ref p]/\SqL X.K H p (ns.map V.int)/\ns.length<=1000/\(∀n∈ns,-1000<=n/\n<=1000)/\Q (.int ns.sum) H):=by
 intro pins s σ H xs us Q I r h;obtain⟨p,ns,rfl,hq,hl,hn,q⟩:=h;obtain⟨u,rfl,rx⟩:=eK r;cases rx;obtain⟨its,rv,pl,hz⟩:=I.list hq;have hlen:=rv.length;rw [length_map]at hlen;have hlt:p<s.heap.objs.size:=by obtain⟨_,e,_⟩:=pl.isList;exact zjT e
 have long:∀z:Int,-1000000<=z->z<=1000000->InLong z:=fun z h1 h2=>by unfold InLong;omega
 refine call_sum_walk (wpAny_pyIter_list pl.isList ?_);refine⟨s.heap.objs.size,[s.heap.objs.size,p],[s.heap.objs.size],its.toArray.size,_,_,fun i=>(ns[i]?).getD 0,rfl,Walks.list (A:=X.A.in1) (by simp [I.ok.hd hc]) _ p (ne_of_lt hlt) its.toArray,⟨⟨_,get?_push_size _ rfl,rfl,rfl⟩,pl.isList.push _⟩,fun b hb=> ?_,fun i v hP=> ?_,fun j hj=> ?_,fun h' tk t' hk=> ?_⟩
 ·show b<(s.heap.push _).objs.size;rw [size_push];rcases mem_cons.mp hb with z|z
  ·rw [z];exact lt_succ_self _
  ·rw [mem_singleton.mp z];exact lt_succ_of_lt hlt
 ·have hP':its[i]?=some v:=by simpa using hP
  have hi:i<ns.length:=by rw [hlen];exact(zjW.mp hP').1
  obtain⟨u,hu,ru⟩:=rv.get (i:=i) (x:=.int ns[i]) (by rw [getElem?_map];simp [hi]);rw [hP']at hu;cases hu;obtain⟨t,rfl⟩:=ru;exact⟨t,by simp [hi]⟩
 ·have hj':j<ns.length:=by rw [size_toArray]at hj;omega
  refine⟨?_,?_⟩
  ·have:=hn ns[j] (getElem_mem hj');have e:(ns[j]?).getD 0=ns[j]:=by simp [hj']
   show InLong ((ns[j]?).getD 0);rw [e];exact long _ (by omega) (by omega)
  ·rw [jX];have:=qW (B:=1000) (by decide) (ns:=ns.take (j+1)) fun n h=>hn n (mem_of_mem_take h);have h2:(ns.take (j+1)).length<=1000:=by rw [length_take];omega
   exact long _ (by omega) (by omega)
 ·have e:preSum (fun i=>(ns[i]?).getD 0) its.toArray.size=ns.sum:=by
   rw [jX,size_toArray,←hlen,take_of_length_le (zjQ _)]
  rw [e];exact⟨.int _,H,I.kept (h':=h') (t':=tk) (LSm.kept_iter hk),⟨_,rfl⟩,q⟩
theorem A8b {pins:List (Addr×Obj)}{σ:St}{H:Hp}{s:Shared}{A:Around}{a p:Addr}{c d:Int×Int}(I:Inv X pins σ H s)(hu:A.units<cLine)(ha:H a=some (.tup [.int d.1,.int d.2]))(hp:H p=some (.tup [.int c.1,.int c.2])):SeqAt.EqAt A s (.ref a) (.ref p) (decide (d=c)):=by
 by_cases hap:a=p
 ·subst hap;rw [ha]at hp;have e:d=c:=by
   injection hp with z;injection z with z;injection z with z1 z2;injection z2 with z2 _;exact Prod.ext (V.int.inj z1) (V.int.inj z2)
  rw [zjV e];exact SeqAt.EqAt.same _
 ·obtain⟨its,r1,p1,_⟩:=I.tuple (SqT.of ha);obtain⟨jts,r2,p2,_⟩:=I.tuple (SqT.of hp);obtain⟨x1,x2,rfl,⟨t1,rfl⟩,⟨t2,rfl⟩⟩:=r1.two;obtain⟨y1,y2,rfl,⟨u1,rfl⟩,⟨u2,rfl⟩⟩:=r2.two;have key:SeqAt.RcAt A s (.ref a) (.ref p) ((List.range (min 2 2)).all (fun j=>if j=0 then d.1==c.1 else d.2==c.2)&&(2:Nat)==2):=SeqAt.RcAt.tuples (items:=#[.int d.1 t1,.int d.2 t2]) (items2:=#[.int c.1 u1,.int c.2 u2]) p1 p2 hu fun j h1 h2=>by
   match j,h1,h2 with
   |0,_,_=>exact SeqAt.EqAt.int_int _ _ _ _
   |1,_,_=>exact SeqAt.EqAt.int_int _ _ _ _
  have e:((List.range (min 2 2)).all (fun j=>if j=0 then d.1==c.1 else d.2==c.2)&&(2:Nat)==2)=decide (d=c):=by
   obtain⟨d1,d2⟩:=d;obtain⟨c1,c2⟩:=c;show(List.all [0,1] _&&true)=_;simp only [all_cons,all_nil,Bool.and_true,if_true,Nat.one_ne_zero,if_false];rw [Bool.eq_iff_iff];simp
  rw [e]at key;exact SeqAt.EqAt.of_refs hap key
end
section
end
section
variable {X:Cx}{x:Str}{z:Str}{j:Nat}{np p1 cpos pos:Pos}{C:Addr}{E:XK}
end
noncomputable def Cx.within (X:Cx)(e:Addr)(oe:Obj):Cx:={X with A:=X.A.mark (some (.ref e)),calm:=false,pn:=(e,oe)::X.pn,xe:=fun _ _=>False}
section
end
section
variable {X:Cx}{E:XK}{R:VK}{y n:Str}{i:Nat}{Cy:Addr}{b₀:Stmt}{suite:List Stmt}{np hp:Pos}{tS:Addr->Obj->TS}
end
section
variable {P:Program}{w:World}{K:W.Frag}{mg:Str->Option Value}{base:Heap}
end
end L2
namespace L2
open PySem PySem.Spec PyProof.Rows Grd
theorem GridAt.same (h:GridAt H a g)(s:Same H H'):GridAt H' a g:=h.ext s.ext
theorem xQ {K:W.Frag}{a l:Addr}{g:bD}{bs:List Addr}{f:Int->Bool}{H0:Hp}{tt2:TT}{Q:St->Hp->Prop}(ha:H0 a=some (.tup (bs.map V.ref)))(hG:RowsG H0 bs g)(hl:H0 l=none)(h4:g.length<=4)(h6:∀xs∈g,xs.length<=6)
  (htt:∀(at' k:Nat)(r:V)(i:Int) H' (Q':Bool->Hp->Prop),Q' (f i) H'->tt2 [some (.int at'),some r,some (.int k),some (.int i)] H' Q')
  (hQ:∀σ H' ps,Same H0 H'->H' l=some (.lst (ps.map V.ref))->PlAt H' ps (aT f g)->Q σ H'):
  dI (Ite fun H xs=>SqT K H a xs) (iA K 2 (dU (cO 0) (dU (cO 1) gT))) (cL fX (kW (tI K (dJ (dP 1) kS)) (iA K 2 (dU (cO 2) (dU (cO 3) gT))) tt2 (dL l (nS (dJ (dP 0) (dJ (dP 2) kS)))))) (eC Q) [none,none,none,none] (upd H0 l (.lst [])):=by
 have s0:Same H0 (upd H0 l (.lst [])):=aM hl;have hbs:bs.length=g.length:=Paired.length hG;refine jJ (xs:=bs.map V.ref) (fun i σ H'=>σ.length=4/\Same H0 H'/\∃ps,H' l=some (.lst (ps.map V.ref))/\PlAt H' ps (aT f (g.take i))/\ps.length<=6*i) ⟨rfl,s0,[],by rw [aG];rfl,.nil,zero_le _⟩ (fun i σ H' _ h=>SqT.of (h.2.1 _ _ ha)) ?_ ?_
 ·rintro i r p σ H' hx ⟨hσ,hs,ps,hl',hP,hn⟩ hp;obtain⟨b,hbi,rfl⟩:∃b,bs[i]?=some b/\V.ref b=r:=by
   rw [getElem?_map]at hx;cases e:bs[i]? with
   |none=>rw [e]at hx;cases hx
   |some b=>rw [e]at hx;exact⟨b,rfl,Option.some.inj hx⟩
  obtain⟨xs,hgi,hb⟩:=hG.row hbi;have hx6:=h6 xs (mem_of_getElem? hgi);have hi4:i<4:=lt_of_lt_of_le (zjW.mp hgi).1 h4;have s1:Same H' (upd H' p (.tup [.int i,.ref b])):=aM hp
  match σ,hσ with
  | [x0,x1,x2,x3],_=>
  refine⟨p,_,rfl,SqT.of aG,rfl,_,_,rfl,_,_,rfl,rfl,?_⟩;refine hZ ?_;refine⟨_,rfl,b,xs.map V.int,rfl,SqT.of (s1 _ _ (hs _ _ hb)),?_⟩;refine jJ (xs:=xs.map V.int) (fun j σ H2=>(∃y2 y3,σ=[some (.int i),some (.ref b),y2,y3])/\Same H0 H2/\∃ps,H2 l=some (.lst (ps.map V.ref))/\PlAt H2 ps (aT f (g.take i)++eJ f i (xs.take j))/\ps.length<=6*i+j) ?_ (fun j σ H2 _ h=>SqT.of (h.2.1 _ _ hb)) ?_ ?_
  ·exact⟨⟨x2,x3,rfl⟩,hs.trans s1,ps,s1 _ _ hl',by simpa [eJ]using hP.same s1,hn⟩
  ·rintro j x p2 σ H2 hxj ⟨⟨y2,y3,rfl⟩,hs2,ps2,hl2,hP2,hn2⟩ hp2;obtain⟨z,hzj,rfl⟩:∃z,xs[j]?=some z/\V.int z=x:=by
    rw [getElem?_map]at hxj;cases e:xs[j]? with
    |none=>rw [e]at hxj;cases hxj
    |some z=>rw [e]at hxj;exact⟨z,rfl,Option.some.inj hxj⟩
   have hj6:j<6:=lt_of_lt_of_le (zjW.mp hzj).1 hx6;have s2:Same H2 (upd H2 p2 (.tup [.int j,.int z])):=aM hp2;refine⟨p2,_,rfl,SqT.of aG,rfl,_,_,rfl,_,_,rfl,rfl,?_⟩;refine htt i j (.ref b) z _ _ (dC (fun e=> ?_) fun e=> ?_)
   ·refine⟨_,rfl,_,rfl,(by show 2<=sizeLine;decide),fun q hq=> ?_⟩;have s3:=aM (o:=.tup [.int i,.int j]) hq;have hlq:l≠q:=bG (s2 _ _ hl2) hq;refine⟨_,s3 _ _ (s2 _ _ hl2),cA (by rw [length_map];omega),⟨_,_,rfl⟩,fun b' u e'=> ?_,ps2++[q],?_,?_,?_⟩
    ·rw [aV (bG e' hl)];exact s3 _ _ (s2 _ _ (hs2 _ _ e'))
    ·rw [aG,map_append];rfl
    ·have hne:∀b' u,(upd (upd H2 p2 (.tup [.int j,.int z])) q (.tup [.int i,.int j])) b'=some (.tup u)->(upd (upd (upd H2 p2 (.tup [.int j,.int z])) q (.tup [.int i,.int j])) l (.lst (ps2.map V.ref++[.ref q]))) b'=some (.tup u):=fun b' u e'=>by
      rw [aV (fun z'=> ?_)];exact e';rw [z',aV hlq,s2 _ _ hl2]at e';cases e'
     rw [Grd.rowF_succ f i xs j _ hzj,if_pos e,←append_assoc];exact PlAt.snoc (Paired.mapP ((hP2.same s2).same s3) fun _ _ e'=>hne _ _ e') (hne _ _ aG)
    ·rw [length_append];show ps2.length+1<=_;omega
   ·refine⟨⟨_,_,rfl⟩,hs2.trans s2,ps2,s2 _ _ hl2,?_,by omega⟩;rw [Grd.rowF_succ f i xs j _ hzj,if_neg (by rw [e];decide),append_nil];exact hP2.same s2
  ·rintro σ H2 ⟨⟨y2,y3,rfl⟩,hs2,ps2,hl2,hP2,hn2⟩;rw [length_map]at hP2 hn2;refine⟨rfl,hs2,ps2,hl2,?_,by omega⟩;rw [take_of_length_le (zjQ _)]at hP2;rw [Grd.gridF_succ f g i _ hgi];exact hP2
 ·rintro σ H' ⟨_,hs,ps,hl',hP,_⟩;rw [length_map,hbs,take_of_length_le (zjQ _)]at hP;exact hQ σ H' ps hs hl' hP
theorem GridAt.ix {H:Hp}{a:Addr}{g:bD}(hA:GridAt H a g){i j:Nat}{xs:List Int}{x:Int}(h1:g[i]?=some xs)(h2:xs[j]?=some x):∃(bs:List Addr)(b:Addr),H a=some (.tup (bs.map V.ref))/\atI (bs.map V.ref) i=some (.ref b)/\H b=some (.tup (xs.map V.int))/\atI (xs.map V.int) j=some (.int x):=by obtain⟨bs,ha,hG⟩:=hA;obtain⟨b,hb,hr⟩:=hG.get h1;exact⟨bs,b,ha,bR (by rw [getElem?_map,hb];rfl),hr,bR (by rw [getElem?_map,h2];rfl)⟩
end L2
namespace M52
open PySem L2 PyProof.Rows Grd
noncomputable def eP (f:Int->Bool):Sp:=fun vs H Q _=> ∃a g w,vs=[.ref a]/\GridAt H a g/\cK g w/\∀H' l ps,H l=none->Same H H'->H' l=some (.lst (ps.map V.ref))->PlAt H' ps (aT f g)->Q (.ref l) H'
noncomputable def tF:Sp:=fun vs H Q _=> ∃b xs,vs=[.ref b]/\H b=some (.tup ((xs:List Int).map V.int))/\1<=xs.length/\xs.length<=6/\(∀n∈xs,-2<=n/\n<=99)/\∀H',Same H H'->Q (.bl true) H'
noncomputable def qH:Sp:=fun vs H Q _=> ∃a g w,vs=[.ref a]/\GridAt H a g/\cK g w/\∀H',Same H H'->Q (.bl true) H'
theorem yQ {H:Hp}{a:Addr}{xs:List V}{lo hi:Int}(h:H a=some (.tup xs))(h1:lo<=xs.length)(h2:(xs.length:Int)<=hi):cV H lo hi (.ref a)=true:=by
 unfold cV;rw [hW h];dsimp only
 rw [zjV h1,zjV h2];rfl
theorem pW (xs:List α):(xs.map fun _=>true).all id=true:=by simp
noncomputable def qT:Sp:=fun vs H Q _=> ∃a g w,vs=[.ref a]/\GridAt H a g/\cK g w/\∀H',Same H H'->Q .non H'
section
variable {P:Program}{w:World}{K:W.Frag}{mg:Str->Option Value}{base:Heap}
theorem A9l (F:D1 K mg "places_of_cells" sR ["mead"])(T:Txt mg):A1 P w K mg base 1 "places_of_cells" (eP pos):=by
 refine F.k ["mead"] ?_;ac_nf
 ·obtain⟨a,g,w',rfl,⟨bs,ha,hG⟩,G,q⟩:=h;refine⟨_,aQ (bA (wL (bC sR).names ["mead"] ["at","row","k","mark"] [] rfl (gS rfl rfl T.enumerate (bB (pv 0) aA)) rfl rfl rfl (by decide +kernel)
   (fun Z=>bN rfl (aX (nm1 0 nd4) (aX (nm1 1 nd4) bM))) (fun Z=>bZ)
   (fun Z=>gS rfl rfl T.enumerate (bB (pv 1) aA)) (fun Z=>bN rfl (aX (nm1 2 nd4) (aX (nm1 3 nd4) bM)))
   (fun Z=>dY (bX rX (pv 3) aK (nomark _))) (fun Z=>dN (bB (pv 0) (bB (pv 2) aA))))),?_⟩
  refine⟨_,rfl,a,_,rfl,SqT.of ha,fun Z l hl=> ?_⟩;exact xQ (f:=pos) ha hG hl G.h4 (fun xs hx=>by have:=G.len xs hx;have:=G.w5;omega) (fun at' k r i H' Q' hq=> ⟨_,rfl,_,_,rfl,rfl,_,rfl,hq⟩) fun σ H' ps hs hl' hP=>q H' l ps hl hs hl' hP
theorem A64 (F:D1 K mg "is_row" pU ["thing"])(T:Txt mg)(a1:A1 P w K mg base 1 "is_tuple_within" gA)(a2:A1 P w K mg base 2 "is_number_within" jS):A1 P w K mg base 3 "is_row" tF:=by
 obtain⟨t1,mCol⟩:=T.cols;obtain⟨t2,mWa⟩:=T.water;obtain⟨t3,mWo⟩:=T.worth;refine F.k ["thing"] ?_;ac_nf
 ·obtain⟨b,xs,rfl,hb,h1,h6,hn,q⟩:=h;refine⟨_,aN (bV (cD (bQ (a1.c hr (bB (pv 0) (bB aK (bB (eD (v:=.int 6) rfl mCol ⟨_,rfl⟩) aA)))))) (aQ (bA eR)) bU)
   (aQ (bA (bH (fU rfl) rfl T.all boot_all (bB (bJ (bC pU).names ["thing"] ["mark"] [] rfl (cQ (pv 0)) rfl rfl rfl (by decide +kernel)
    (fun Z=>aJ (i:=0) (show(["mark"]:List Str).Nodup by decide +kernel) rfl (Or.inl rfl)) (fun Z=>bZ)
    (fun Z=>a2.c hr (bB (pv 0) (bB (eD (v:=.int (-2)) rfl mWa ⟨_,rfl⟩) (bB (eD (v:=.int 99) rfl mWo ⟨_,rfl⟩) aA))))) aA)))),?_⟩
  have hz:(xs.map V.int).length<=1000:=by rw [length_map];omega
  refine⟨_,rfl,.ref b,1,6,rfl,.inr (.inr ⟨_,hb,hz,fun _ _=>trivial⟩),_,rfl,?_⟩;rw [yQ hb (by rw [length_map];omega) (by rw [length_map];omega)];refine bL ⟨_,rfl,b,rfl,⟨_,SqT.of hb⟩,fun Z l hl=> ?_⟩;refine gC (fun _=> .bl true) hb hl hz (fun x H' Q' hm hs hq=> ?_) fun σ H' hs hl'=> ?_
  ·obtain⟨n,hn',rfl⟩:=mem_map.mp hm;have:=hn n hn';refine⟨_,rfl,.int n,-2,99,rfl,trivial,?_⟩;rw [show dG (-2) 99 (.int n)=true by simp [dG,this]];exact hq _ (Same.refl _)
  ·refine⟨l,(xs.map V.int).map fun _=>true,rfl,SqL.of (by rw [hl'];simp only [map_map];rfl),?_⟩;rw [pW];exact q H' hs
theorem A7o (F:D1 K mg "is_mead" lZ ["thing"])(T:Txt mg)(a1:A1 P w K mg base 1 "is_tuple_within" gA)(a2:A1 P w K mg base 3 "is_row" tF)(a3:A1 P w K mg base 1 "places_of_cells" (eP pos)):A1 P w K mg base 4 "is_mead" qH:=by
 obtain⟨t1,mRow⟩:=T.rows;obtain⟨t2,mCel⟩:=T.cells;refine F.k ["thing"] ?_;ac_nf
 ·obtain⟨a,g,w',rfl,hA,G,q⟩:=h;refine⟨_,aN (bV (cD (bQ (a1.c hr (bB (pv 0) (bB aK (bB (eD (v:=.int 4) rfl mRow ⟨_,rfl⟩) aA)))))) (aQ (bA eR)) bU)
   (aN (bV (cD (bQ (bH (fU rfl) rfl T.all boot_all (bB (bJ (bC lZ).names ["thing"] ["row"] [] rfl (cQ (pv 0)) rfl rfl rfl (by decide +kernel)
    (fun Z=>aJ (i:=0) (show(["row"]:List Str).Nodup by decide +kernel) rfl (Or.inl rfl)) (fun Z=>bZ) (fun Z=>a2.c hr (bB (pv 0) aA))) aA)))) (aQ (bA eR)) bU)
   (aN (bV (cD (bQ (bH (fU rfl) rfl T.all boot_all (bB (bJ (bC lZ).names ["thing"] ["row"] [("thing",0)] rfl (cQ (pv 0)) rfl rfl rfl (by decide +kernel)
    (fun Z=>aJ (i:=0) (show(["row","thing"]:List Str).Nodup by decide +kernel) rfl (Or.inl rfl)) (fun Z=>bZ)
    (fun Z=>eL eW (bH fE rfl T.len PySem.boot_len (bB (pv 0) aA)) (bH fE rfl T.len PySem.boot_len (bB (bI cB (pv 1) aK (fun _ _=>rfl)) aA)) (nomark _))) aA)))) (aQ (bA eR)) bU)
   (aQ (bA (sZ iE iE aK (bH fE rfl T.len PySem.boot_len (bB (a3.c hr (bB (pv 0) aA)) aA)) (eD (v:=.int 10) rfl mCel ⟨_,rfl⟩)))))),?_⟩
  obtain⟨bs,ha,hG⟩:=id hA;have hbl:bs.length=g.length:=Paired.length hG;have h4:=G.h4;have h1:=G.h1;have w5:=G.w5;have hz:(bs.map V.ref).length<=1000:=by rw [length_map];omega
  refine⟨_,rfl,.ref a,1,4,rfl,.inr (.inr ⟨_,ha,hz,fun _ _=>trivial⟩),_,rfl,?_⟩;rw [yQ ha (by rw [length_map];omega) (by rw [length_map];omega)];refine bL ⟨_,rfl,a,rfl,⟨_,SqT.of ha⟩,fun Z l hl=> ?_⟩;have row:∀x∈bs.map V.ref,∃b xs,x= .ref b/\H b=some (.tup ((xs:List Int).map V.int))/\xs∈g:=fun x hx=>by
   obtain⟨b,hb,rfl⟩:=mem_map.mp hx;obtain⟨i,hi⟩:=mem_iff_getElem?.mp hb;obtain⟨xs,h1,h2⟩:=hG.row hi;exact⟨b,xs,rfl,h2,mem_of_getElem? h1⟩
  refine gC (fun _=> .bl true) ha hl hz (fun x H' Q' hm hs hq=> ?_) fun σ H1 s1 hl1=> ?_
  ·obtain⟨b,xs,rfl,hb,hx⟩:=row x hm;have:=G.len xs hx;have:=G.w1;exact⟨_,rfl,b,xs,rfl,hs _ _ hb,by omega,by omega,G.num xs hx,fun H3 s3=>hq H3 s3⟩
  ·refine⟨l,(bs.map V.ref).map fun _=>true,rfl,SqL.of (by rw [hl1];simp only [map_map];rfl),_,rfl,?_⟩;rw [pW];refine bL ⟨_,rfl,a,rfl,⟨_,SqT.of (s1 _ _ ha)⟩,fun Z2 l2 hl2=> ?_⟩;refine gC (rest:=[some (.ref a)]) (fun _=> .bl true) (s1 _ _ ha) hl2 hz (fun x H' Q' hm hs hq=> ?_) fun σ H2 s2 hl2'=> ?_
   ·obtain⟨b,xs,rfl,hb,hx⟩:=row x hm;obtain⟨xs0,e0⟩:∃xs0,g[0]?=some xs0:=⟨g[0],getElem?_eq_getElem (by omega)⟩;obtain⟨b0,hb0,eb0⟩:=hG.get e0;have sH:=s1.trans hs;refine⟨_,rfl,b,_,rfl,.inr (SqT.of (sH _ _ hb)),_,rfl,a,_,0,.ref b0,rfl,rfl,SqT.of (sH _ _ ha),bR (j:=0) (by rw [getElem?_map,hb0];rfl),b0,_,rfl,.inr (SqT.of (sH _ _ eb0)),rfl,?_⟩;rw [zjV (by rw [length_map,length_map,G.len xs hx,G.len xs0 (mem_of_getElem? e0)])];exact hq _ (Same.refl _)
   ·refine⟨l2,(bs.map V.ref).map fun _=>true,rfl,SqL.of (by rw [hl2'];simp only [map_map];rfl),_,rfl,?_⟩;rw [pW];have s12:=s1.trans s2;refine bL ⟨_,rfl,a,g,w',rfl,hA.same s12,G,fun H3 l3 ps hl3' s3 hl3 hP=> ?_⟩;have hp:ps.length=_:=Paired.length hP;rw [eV]at hp;have c1:=G.c1;have c10:=G.c10;refine⟨l3,_,rfl,.inl (SqL.of hl3),_,_,rfl,rfl,_,rfl,dR (fun z=> ?_) fun z=>absurd ?_ z⟩
    ·refine⟨_,_,rfl,rfl,?_⟩;dsimp only
     rw [zjV (show(((ps.map V.ref).length:Nat):Int)<=10 by rw [length_map];omega)];exact q H3 (s12.trans s3)
    ·rw [length_map];omega
theorem A17 (F:D1 K mg "check_mead" vA ["mead"])(aI:A1 P w K mg base 4 "is_mead" qH):A1 P w K mg base 5 "check_mead" qT:=by
 refine F.k ["mead"] ?_;ac_nf
 ·obtain⟨a,g,w',rfl,hA,G,q⟩:=h;refine⟨_,aQ (bV (cD (bQ (aI.c hr (aB (pv 0) aA)))) eY bU),?_⟩;exact⟨_,rfl,a,g,w',rfl,hA,G,fun H' hs=> ⟨_,rfl,bL (q H' hs)⟩⟩
theorem A6r (F:D1 K mg "cells_of" yW ["mead"])(aC:A1 P w K mg base 5 "check_mead" qT)(aP:A1 P w K mg base 1 "places_of_cells" (eP pos)):A1 P w K mg base 6 "cells_of" (eP pos):=by
 refine F.k ["mead"] ?_;ac_nf
 ·obtain⟨a,g,w',rfl,hA,G,q⟩:=h;refine⟨_,aN (cF (aC.c hr (aB (pv 0) aA)))<|aQ (bA (aP.c hr (aB (pv 0) aA))),?_⟩;refine⟨_,rfl,a,g,w',rfl,hA,G,fun H1 s1=> ?_⟩;exact⟨_,rfl,a,g,w',rfl,hA.same s1,G,fun H2 l ps hl s2 hl' hP=>q H2 l ps (s1.free hl) (s1.trans s2) hl' hP⟩
theorem A8a (F:D1 K mg "roads_of" oI ["mead"])(T:Txt mg)(T2:dX mg)(aC:A1 P w K mg base 5 "check_mead" qT):A1 P w K mg base 6 "roads_of" (eP road):=by
 obtain⟨tR,mR⟩:=T2.road;refine F.k ["mead"] ?_;ac_nf
 ·obtain⟨a,g,w',rfl,hA,G,q⟩:=h;refine⟨_,aN (cF (aC.c hr (aB (pv 0) aA)))<|aQ (bA (wL (bC oI).names ["mead"] ["at","row","k","mark"] [] rfl (gS rfl rfl T.enumerate (bB (pv 0) aA)) rfl rfl rfl (by decide +kernel)
   (fun Z=>bN rfl (aX (nm1 0 nd4) (aX (nm1 1 nd4) bM))) (fun Z=>bZ)
   (fun Z=>gS rfl rfl T.enumerate (bB (pv 1) aA)) (fun Z=>bN rfl (aX (nm1 2 nd4) (aX (nm1 3 nd4) bM)))
   (fun Z=>dY (bX eW (pv 3) (eD (v:=.int (-1)) rfl mR ⟨_,rfl⟩) (nomark _))) (fun Z=>dN (bB (pv 0) (bB (pv 2) aA))))),?_⟩
  refine⟨_,rfl,a,g,w',rfl,hA,G,fun H1 s1=> ?_⟩;obtain⟨bs,ha,hG⟩:=hA.same s1;refine⟨_,rfl,a,_,rfl,SqT.of ha,fun Z l hl=> ?_⟩;refine xQ (f:=road) ha hG hl G.h4 (fun xs hx=>by have:=G.len xs hx;have:=G.w5;omega) (fun at' k r i H' Q' hq=> ⟨_,rfl,rfl,_,rfl,?_⟩) fun σ H' ps hs hl' hP=>q H' l ps (s1.free hl) (s1.trans hs) hl' hP;have e:decide (V.int i=V.int (-1))=road i:=by
   unfold road;rw [Bool.eq_iff_iff];simp
  rw [e];exact hq
noncomputable def tQ:Sp:=fun vs H Q _=> ∃a l g w ps,vs=[.ref a,.ref l]/\GridAt H a g/\cK g w/\H l=some (.lst ((ps:List Addr).map V.ref))/\PlAt H ps (aT pos g)/\∀H',Same H H'->Q (.int (bO g)) H'
theorem mW:(["row","column","mead"]:List Str).Nodup:=by decide +kernel
theorem A5u (F:D1 K mg "worth_together" jW ["mead","places"])(T2:dX mg):A1 P w K mg base 1 "worth_together" tQ:=by
 refine F.k ["mead","places"] fun nd f cdv A outer s H2 vs Q E hr h=> ?_
 ·obtain⟨a,l,g,w',ps,rfl,hA,G,hl',hP,q⟩:=h;refine⟨_,aQ (bA (bH (lB rfl) rfl T2.sum boot_sum (cP (bJ (bC jW).names ["mead","places"] ["row","column"] [("mead",0)] rfl (cU (pv 1)) rfl rfl rfl (by decide +kernel)
    (fun Z=>bN rfl (aX (nm1 0 mW) (aX (nm1 1 mW) bM))) (fun Z=>bZ) (fun Z=>bI cB (bI cB (pv 2) (pv 0) (fun _ _=>rfl)) (pv 1) (fun _ _=>rfl))) aA))),?_⟩
  have s12:Same H2 H2:=Same.refl H2;refine⟨_,rfl,?_⟩;have hpl:ps.length=(aT pos g).length:=Paired.length hP;have h20:ps.length<=10:=by rw [hpl,eV];exact G.c10
  refine⟨l,rfl,⟨_,SqL.of hl'⟩,fun Z l3 hl3=> ?_⟩;refine dQ (K:=K) (a:=l) (xs:=ps.map V.ref) (fun i σ H'=>(∃o1 o2,σ=[o1,o2,some (.ref a)])/\Same H2 H'/\H' l3=some (.lst ((((aT pos g).take i).map (atG g)).map V.int))) ⟨⟨_,_,rfl⟩,aM hl3,by rw [aG];rfl⟩ (fun i σ H' _ h=>SqL.of (h.2.1 _ _ hl')) ?_ ?_
  ·rintro i x σ H' hi ⟨⟨o1,o2,rfl⟩,hs,hl3'⟩;obtain⟨p,hpi,rfl⟩:∃p,ps[i]?=some p/\V.ref p=x:=by
    rw [getElem?_map]at hi;cases e:ps[i]? with
    |none=>rw [e]at hi;cases hi
    |some p=>rw [e]at hi;exact⟨p,rfl,Option.some.inj hi⟩
   have hil:i<ps.length:=(zjW.mp hpi).1;obtain⟨cc,hci,hpc⟩:∃cc,(aT pos g)[i]?=some cc/\H2 p=some (.tup [.int cc.1,.int cc.2]):=by
    have go:∀{ps:List Addr}{cs:List (Int×Int)}{i:Nat}{p:Addr},PlAt H2 ps cs->ps[i]?=some p->∃cc,cs[i]?=some cc/\H2 p=some (.tup [.int cc.1,.int cc.2]):=by
     intro ps cs i p h
     induction h generalizing i with
     |nil=>intro z;simp at z
     |cons r t ih=>
      intro z;cases i with
      |zero=>cases z;exact⟨_,rfl,r⟩
      |succ i=>exact ih (by simpa using z)
    exact go hP hpi
   obtain⟨i',j',xs,n,rfl,hg,hx,hf⟩:=mem_gridF.mp (mem_of_getElem? hci);obtain⟨bs,b,h1,h2,h3,h4⟩:=(hA.same (s12.trans hs)).ix hg hx;refine⟨p,_,rfl,SqT.of (hs _ _ hpc),rfl,_,_,rfl,_,_,rfl,rfl,?_⟩;refine hZ ?_;refine⟨_,rfl,_,rfl,a,_,_,_,rfl,rfl,SqT.of h1,h2,_,rfl,b,_,_,_,rfl,rfl,SqT.of h3,h4,?_⟩;refine⟨_,hl3',cA (by rw [length_map,length_map,length_take];omega),⟨_,_,rfl⟩,fun b' u e'=> ?_,?_⟩
   ·rw [aV (bG e' hl3)];exact hs _ _ e'
   ·rw [aG,take_succ,hci,map_append,map_append];show some (HO.lst (_++[V.int n]))=some (HO.lst (_++[V.int (atG g ((i':Int),(j':Int)))]));rw [iQ hg hx]
  ·rintro σ H' ⟨_,hs,hl3'⟩;rw [length_map,hpl,take_of_length_le (zjQ _)]at hl3';refine⟨l3,_,rfl,SqL.of hl3',by rw [length_map,←hpl];omega,fun n hn=> ?_,?_⟩
   ·rw [qR]at hn;obtain⟨ys,hy,hny⟩:=mem_flatten.mp hn;obtain⟨xs,hxg,rfl⟩:=mem_map.mp hy;have:=G.num xs hxg n (mem_filter.mp hny).1;omega
   ·rw [wI];exact q H' (s12.trans hs)
end
end M52
namespace Srt
open PySem PySem.W PyProof.Rows
section
noncomputable def fW (cmp:Nat->Nat->(Bool->Shared->Prop)->Shared->Prop)(n:Nat)(r:Nat->Int)(s:Shared):Prop:=∀i j (C:Bool->Shared->Prop),i<n->j<n->C (decide (r i<r j)) s->cmp i j C s
noncomputable def at' (p:Array Nat)(k:Nat):Nat:=p.getD k 0
noncomputable def Pm (n:Nat)(p:Array Nat):Prop:=p.Perm (List.range n).toArray
theorem Pm.size (h:Pm n p):p.size=n:=by rw [Array.Perm.size_eq h];simp
theorem Pm.lt (h:Pm n p)(k:Nat)(hn:0<n):at' p k<n:=by
 unfold at';by_cases hk:k<p.size
 ·have e:p.getD k 0=p[k]:=by simp [Array.getD,hk]
  rw [e];have h1:p[k]∈p.toList:=by simp
  have h2:=(Array.perm_iff_toList_perm.mp h).mem_iff.mp h1;simpa using h2
 ·have e:p.getD k 0=0:=by simp [Array.getD,hk]
  rw [e];exact hn
noncomputable def R (r:Nat->Int)(p:Array Nat)(k:Nat):Int:=r (at' p k)
noncomputable def Up (r:Nat->Int)(p:Array Nat)(k:Nat):Prop:=∀i j,i<=j->j<k->R r p i<=R r p j
noncomputable def Dn (r:Nat->Int)(p:Array Nat)(k:Nat):Prop:=∀i j,i<=j->j<k->R r p j<=R r p i
theorem A8r (h:Up r p k)(h1:R r p (k - 1)<=R r p k):Up r p (k+1):=by
 intro i j hij hj;by_cases e:j<k
 ·exact h i j hij e
 ·have:j=k:=by omega
  subst this;by_cases e2:i=j
  ·subst e2;exact Int.le_refl _
  ·exact Int.le_trans (h i (j - 1) (by omega) (by omega)) h1
theorem rC (h:Dn r p k)(h1:R r p k<=R r p (k - 1)):Dn r p (k+1):=by
 intro i j hij hj;by_cases e:j<k
 ·exact h i j hij e
 ·have:j=k:=by omega
  subst this;by_cases e2:i=j
  ·subst e2;exact Int.le_refl _
  ·exact Int.le_trans h1 (h i (j - 1) (by omega) (by omega))
theorem A4f (hj:j<=p.size)(k:Nat):at' (kas_rev p i j) k=if i<=k/\k<j then at' p (i+j - 1 - k)else at' p k:=by
 have e:=getElem?_mirror_all (xs:=p) (i:=i) hj k;have g:∀(xs:Array Nat)(k:Nat),at' xs k=(xs[k]?).getD 0:=fun xs k=>by unfold at';simp [Array.getD];split<;>simp [*]
 rw [g,g,g];show(mirror p i j ((j - i)/2))[k]?.getD 0=_;rw [e]
 split<;>rfl
theorem qL (hj:j<=p.size)(k:Nat):R r (kas_rev p i j) k=if i<=k/\k<j then R r p (i+j - 1 - k)else R r p k:=by unfold R;rw [A4f hj];split<;>rfl
theorem jO (hj:j<=p.size)(h:∀k,i<=k->k<j->R r p k=R r p (j - 1))(k:Nat):R r (kas_rev p i j) k=R r p k:=by
 rw [qL hj]
 split
 ·rw [h _ (by omega) (by omega),h k (by omega) (by omega)]
 ·rfl
theorem Pm.rev (h:Pm n p)(i j:Nat):Pm n (kas_rev p i j):=Array.Perm.trans (mirror_perm _ _ _ _) h
theorem Pm.bub (h:Pm n p)(k d:Nat):Pm n (bubble p k d):=Array.Perm.trans (bubble_perm _ _ _) h
theorem zS (hs:src<p.size)(hd:d<=src)(k:Nat):R r (bubble p src d) k=if k=src - d then R r p src else if src - d<k/\k<=src then R r p (k - 1)else R r p k:=by
 have e:=getElem?_bubble (xs:=p) hs d hd k;have g:∀(xs:Array Nat)(k:Nat),at' xs k=(xs[k]?).getD 0:=fun xs k=>by unfold at';simp [Array.getD];split<;>simp [*]
 unfold R;rw [g,e]
 split
 ·rw [g]
 ·split<;>rw [g]
theorem oK (ha:fW cmp n r s)(hn:0<n)(hp:Pm n p):∀(f k:Nat)(Q:Nat->Shared->Prop),1<=k->Up r p k->(∀m,k<=m->m<=k+f->Up r p m->(m=k+f\/R r p m<R r p (m - 1))->Q m s)->(kas_asc p f k).kasWp cmp Q s
 |0,k,Q,h1,hu,h=>h k (zjQ _) (zjQ _) hu (.inl rfl)
 |f+1,k,Q,h1,hu,h=>by
  show cmp (at' p k) (at' p (k - 1)) (fun b s'=>(if b=true then KasT.ret k else kas_asc p f (k+1)).kasWp cmp Q s') s;refine ha _ _ _ (hp.lt _ hn) (hp.lt _ hn) ?_;by_cases c:r (at' p k)<r (at' p (k - 1))
  ·rw [zjV c];exact h k (zjQ _) (by omega) hu (.inr c)
  ·rw [zjU c];refine oK ha hn hp f (k+1) Q (by omega) (A8r hu (Int.not_lt.mp c)) fun m a b u e=>h m (by omega) (by omega) u ?_;rcases e with e|e
   ·left;omega
   ·exact .inr e
theorem qB (ha:fW cmp n r s)(hn:0<n):∀(f k q:Nat)(p:Array Nat)(Q:Array Nat×Nat×Nat->Shared->Prop),Pm n p->1<=k->k+f<=n->Dn r p k->q+1<=k->(∀i,k -(q+1)<=i->i<k->R r p i=R r p (k - 1))->
  (∀p' m q',Pm n p'->k<=m->m<=k+f->Dn r p' m->q'+1<=m->(∀i,m -(q'+1)<=i->i<m->R r p' i=R r p' (m - 1))->Q (p',m,q') s)->(kas_desc f p k q).kasWp cmp Q s
 |0,k,q,p,Q,hp,h1,hk,hd,hq,he,h=>h p k q hp (zjQ _) (zjQ _) hd hq he
 |f+1,k,q,p,Q,hp,h1,hk,hd,hq,he,h=>by
  have hsz:k<=p.size:=by rw [hp.size];omega
  show cmp (at' p k) (at' p (k - 1)) (fun c s'=>(if c=true then(if q>0 then kas_desc f (kas_rev p (k -(q+1)) k) (k+1) 0 else kas_desc f p (k+1) 0)else KasT.ask (at' p (k - 1)) (at' p k) fun d=>if d=true then KasT.ret (p,k,q)else kas_desc f p (k+1) (q+1)).kasWp cmp Q s') s;refine ha _ _ _ (hp.lt _ hn) (hp.lt _ hn) ?_;by_cases c:r (at' p k)<r (at' p (k - 1))
  ·rw [zjV c];have go:∀p',Pm n p'->(∀i,R r p' i=R r p i)->(kas_desc f p' (k+1) 0).kasWp cmp Q s:=fun p' hp' e=>by
    refine qB ha hn f (k+1) 0 p' Q hp' (by omega) (by omega) ?_ (by omega) ?_ fun p2 m q' a1 a2 a3 a4 a5 a6=>h p2 m q' a1 (by omega) (by omega) a4 a5 a6
    ·intro i j hij hj;rw [e,e];exact rC hd (Int.le_of_lt c) i j hij hj
    ·intro i hi1 hi2;have:i=k:=by omega
     subst this;rfl
   show(if q>0 then kas_desc f (kas_rev p (k -(q+1)) k) (k+1) 0 else kas_desc f p (k+1) 0).kasWp cmp Q s;by_cases hq0:q>0
   ·rw [if_pos hq0];exact go _ (hp.rev _ _) (jO hsz he)
   ·rw [if_neg hq0];exact go p hp fun _=>rfl
  ·rw [zjU c];show cmp (at' p (k - 1)) (at' p k) (fun d s'=>(if d=true then KasT.ret (p,k,q)else kas_desc f p (k+1) (q+1)).kasWp cmp Q s') s;refine ha _ _ _ (hp.lt _ hn) (hp.lt _ hn) ?_;by_cases d:r (at' p (k - 1))<r (at' p k)
   ·rw [zjV d];exact h p k q hp (zjQ _) (by omega) hd hq he
   ·rw [zjU d];have e:R r p k=R r p (k - 1):=Int.le_antisymm (Int.not_lt.mp d) (Int.not_lt.mp c);show(kas_desc f p (k+1) (q+1)).kasWp cmp Q s;refine qB ha hn f (k+1) (q+1) p Q hp (by omega) (by omega) (rC hd (Int.le_of_eq e)) (by omega) ?_ fun p2 m q' a1 a2 a3 a4 a5 a6=>h p2 m q' a1 (by omega) (by omega) a4 a5 a6;intro i hi1 hi2;rw [show k+1 - 1=k by omega,e];by_cases ik:i=k
    ·rw [ik,e]
    ·exact he i (by omega) (by omega)
theorem tM (ha:fW cmp n r s)(hn:0<n)(hp:Pm n p)(h1:1<=k)(hk:k<=nrem)(hz:nrem<=n)(hd:Dn r p k)
  (h:∀m p',Pm n p'->1<=m->m<=nrem->Up r p' m->Q (m,p') s):(kas_tail3 k nrem p).kasWp cmp Q s:=by
 unfold kas_tail3;rw [KasT.kasWp_bind];have hsz:k<=p.size:=by rw [hp.size];omega
 refine oK ha hn (hp.rev 0 k) _ _ _ h1 ?_ fun m a b u _=>h m _ (hp.rev 0 k) (by omega) (by omega) u;intro i j hij hj;rw [qL hsz,qL hsz,if_pos (by omega),if_pos (by omega)];exact hd _ _ (by omega) (by omega)
theorem vJ (ha:fW cmp n r s)(hn:0<n)(hp:Pm n p)(hk:k+1<=nrem)(hz:nrem<=n)(hd:Dn r p (k+1))
  (h:∀m p',Pm n p'->1<=m->m<=nrem->Up r p' m->Q (m,p') s):(kas_descPart k nrem p).kasWp cmp Q s:=by
 unfold kas_descPart;rw [KasT.kasWp_bind];refine qB ha hn _ (k+1) 0 p _ hp (by omega) (by omega) hd (by omega) (fun i a b=>show R r p i=R r p (k+1 - 1) by rw [show i=k+1 - 1 by omega]) fun p' m q hp' a1 a2 hd' hq he=> ?_;show(if q>0 then kas_tail3 m nrem (kas_rev p' (m -(q+1)) m)else kas_tail3 m nrem p').kasWp cmp Q s;have hsz:m<=p'.size:=by rw [hp'.size];omega
 by_cases hq0:q>0
 ·rw [if_pos hq0];refine tM ha hn (hp'.rev _ _) (by omega) (by omega) hz ?_ h;intro i j hij hj;rw [jO hsz he,jO hsz he];exact hd' i j hij hj
 ·rw [if_neg hq0];exact tM ha hn hp' (by omega) (by omega) hz hd' h
theorem B0f (ha:fW cmp n r s)(hn:0<n)(hp:Pm n p)
  (h:∀m p',Pm n p'->1<=m->m<=n->Up r p' m->Q (m,p') s):(kas_count n p).kasWp cmp Q s:=by
 unfold kas_count;rw [KasT.kasWp_bind];refine oK ha hn hp _ 1 _ (zjQ _) (fun i j a b=>show R r p i<=R r p j by rw [show i=j by omega];exact Int.le_refl _) fun m a b u e=> ?_;by_cases e1:m=n
 ·rw [if_pos (by simpa using e1)];exact h m p hp a (by omega) u
 ·rw [if_neg (by simpa using e1)];have hlt:R r p m<R r p (m - 1):=e.resolve_left (by omega);have dn1:∀p',Pm n p'->Dn r p' m->(∀i,R r p' i=R r p i)->Dn r p' (m+1):=fun p' _ d z=>rC d (by rw [z,z];exact Int.le_of_lt hlt);by_cases e2:m>1
  ·rw [if_pos e2];show cmp (at' p 0) (at' p (m - 1)) (fun c s'=>(if c=true then KasT.ret (m,p)else kas_descPart m n (kas_rev p 0 m)).kasWp cmp Q s') s;refine ha _ _ _ (hp.lt _ hn) (hp.lt _ hn) ?_;by_cases c:r (at' p 0)<r (at' p (m - 1))
   ·rw [zjV c];exact h m p hp a (by omega) u
   ·rw [zjU c];have hall:∀k,0<=k->k<m->R r p k=R r p (m - 1):=fun k _ hk=>by
     have a1:=u 0 k (by omega) hk;have a2:=u k (m - 1) (by omega) (by omega);have a3:R r p (m - 1)<=R r p 0:=Int.not_lt.mp c;omega
    have hsz:m<=p.size:=by rw [hp.size];omega
    refine vJ ha hn (hp.rev 0 m) (by omega) (zjQ _) (dn1 _ (hp.rev 0 m) ?_ (jO hsz hall)) h;intro i j hij hj;rw [jO hsz hall,jO hsz hall,hall i (by omega) (by omega),hall j (by omega) hj];exact Int.le_refl _
  ·rw [if_neg e2];have:m=1:=by omega
   subst this;refine vJ ha hn hp (by omega) (zjQ _) (dn1 p hp (fun i j hij hj=> ?_) fun _=>rfl) h;have:i=j:=by omega
   subst this;exact Int.le_refl _
theorem oD (ha:fW cmp n r s)(hn:0<n)(hp:Pm n p)(hu:Up r p k):∀(f lo hi:Nat)(Q:Nat->Shared->Prop),lo<=hi->hi<=k->hi - lo<=f->(∀i,i<lo->R r p i<=R r p k)->(∀i,hi<=i->i<k->R r p k<R r p i)->
  (∀l,l<=k->(∀i,i<l->R r p i<=R r p k)->(∀i,l<=i->i<k->R r p k<R r p i)->Q l s)->(kas_place p k f lo hi).kasWp cmp Q s
 |0,lo,hi,Q,h1,h2,h3,hl,hh,h=>h lo (by omega) hl fun i a b=>hh i (by omega) b
 |f+1,lo,hi,Q,h1,h2,h3,hl,hh,h=>by
  unfold kas_place;by_cases e:lo≥hi
  ·rw [if_pos e];exact h lo (by omega) hl fun i a b=>hh i (by omega) b
  ·rw [if_neg e];show cmp (at' p k) (at' p ((lo+hi)/2)) (fun c s'=>(if c=true then kas_place p k f lo ((lo+hi)/2)else kas_place p k f ((lo+hi)/2+1) hi).kasWp cmp Q s') s;refine ha _ _ _ (hp.lt _ hn) (hp.lt _ hn) ?_;by_cases c:r (at' p k)<r (at' p ((lo+hi)/2))
   ·rw [zjV c];refine oD ha hn hp hu f lo ((lo+hi)/2) Q (by omega) (by omega) (by omega) hl (fun i a b=> ?_) h;exact Int.lt_of_lt_of_le c (hu ((lo+hi)/2) i a b)
   ·rw [zjU c];refine oD ha hn hp hu f ((lo+hi)/2+1) hi Q (by omega) (by omega) (by omega) (fun i a=> ?_) hh h;exact Int.le_trans (hu i ((lo+hi)/2) (by omega) (by omega)) (Int.not_lt.mp c)
theorem A03 (ha:fW cmp n r s)(hn:0<n):∀(f k:Nat)(p:Array Nat)(Q:Array Nat->Shared->Prop),Pm n p->k+f=n->Up r p k->(∀p',Pm n p'->Up r p' n->Q p' s)->(kas_bin f p k).kasWp cmp Q s
 |0,k,p,Q,hp,hk,hu,h=>h p hp (by rw [←hk];exact hu)
 |f+1,k,p,Q,hp,hk,hu,h=>by
  show((kas_place p k k 0 k).bind fun l=>kas_bin f (bubble p k (k - l)) (k+1)).kasWp cmp Q s;rw [KasT.kasWp_bind];refine oD ha hn hp hu k 0 k _ (zero_le _) (zjQ _) (by omega) (fun i a=>by omega) (fun i a b=>by omega) fun l hl h1 h2=> ?_;refine A03 ha hn f (k+1) _ Q (hp.bub _ _) (by omega) ?_ h;have hs:k<p.size:=by rw [hp.size];omega
  intro i j hij hj;rw [zS hs (by omega),zS hs (by omega),show k -(k - l)=l by omega];by_cases c1:i=l
  ·rw [if_pos c1];by_cases c2:j=l
   ·rw [if_pos c2];exact Int.le_refl _
   ·rw [if_neg c2,if_pos (by omega)];exact Int.le_of_lt (h2 (j - 1) (by omega) (by omega))
  ·rw [if_neg c1];by_cases c2:j=l
   ·rw [if_pos c2,if_neg (by omega)];exact h1 i (by omega)
   ·rw [if_neg c2];by_cases c3:l<i/\i<=k
    ·rw [if_pos c3,if_pos (by omega)];exact hu _ _ (by omega) (by omega)
    ·rw [if_neg c3];by_cases c4:l<j/\j<=k
     ·rw [if_pos c4];exact hu _ _ (by omega) (by omega)
     ·rw [if_neg c4];exact hu _ _ hij (by omega)
theorem B0u (ha:fW cmp n r s)(h2:2<=n)(h:∀p,Pm n p->Up r p n->Q p s):(kas_sort n).kasWp cmp Q s:=by
 unfold kas_sort;rw [KasT.kasWp_bind];refine B0f ha (by omega) (Array.Perm.refl _) fun m p hp h1 hm u=> ?_;show(if m<n then kas_bin (n - max m 1) p (max m 1)else KasT.ret p).kasWp cmp Q s;by_cases e:m<n
 ·rw [if_pos e];have:max m 1=m:=by omega
  rw [this];exact A03 ha (by omega) _ _ p Q hp (by omega) u h
 ·rw [if_neg e];have:m=n:=by omega
  subst this;exact h p hp u
end
end Srt
namespace Tms
open PySem PyProof.Rows
noncomputable def gal:Bool->Keyed->Array Keyed->Nat->Nat->Nat->StateT SortSt Sem (Option Nat):=sortPriv%PySem.Builtin.gallop
section
variable {M:Model}{A:Around}{E:Value->Shared->Prop}{s:Shared}{S:Keyed->Prop}{r:Keyed->Keyed->Bool}{κ:SortKind}
noncomputable def Oc (M:Model)(A:Around)(E:Value->Shared->Prop)(s:Shared)(κ:SortKind)(S:Keyed->Prop)(r:Keyed->Keyed->Bool):Prop:=
 ∀(x y:Keyed)(st:SortSt)(Q:Option Bool->SortSt->Prop),S x->S y->kindOf st=κ->Q (some (r x y)) st->wpS M A E s (lt' x y) Q st
theorem cW {a:Array Keyed}{i:Nat}{x:Keyed}{Q:Keyed->SortSt->Prop}{st:SortSt}(e:a[i]?=some x)(h:Q x st):wpS M A E s (elem' a i) Q st:=by rw [elem'_eq,e];exact wpS_pure h
structure Bey (S:Keyed->Prop)(r:Keyed->Keyed->Bool)(left:Bool)(key:Keyed)(a:Array Keyed)(base n:Nat)(b:Nat->Bool):Prop where
 at_:∀i,i<n->∃x,a[base+i]?=some x/\S x/\(if left=true then r x key else !r key x)=b i
 mono:∀i j,i<=j->j<n->b j=true->b i=true
 key:S key
theorem jM {left:Bool}{key:Keyed}{a:Array Keyed}{base n hint:Nat}{b:Nat->Bool}{Q:Option Nat->SortSt->Prop}{st:SortSt}(O:Oc M A E s κ S r)(hk:kindOf st=κ)(B:Bey S r left key a base n b)(hh:hint<n)
  (h:∀k,k<=n->(∀i,i<k->b i=true)->(∀i,k<=i->i<n->b i=false)->Q (some k) st):wpS M A E s (gal left key a base n hint) Q st:=by
 have bey:∀(i:Nat)(R:Option Bool->SortSt->Prop),i<n->R (some (b i)) st->wpS M A E s (elem' a (base+i)>>=fun x=>if left=true then lt' x key else lt' key x>>=fun z=>pure (z.map (fun x=> !x))) R st:=by
  intro i R hi hR;obtain⟨x,e,hS,eb⟩:=B.at_ i hi;refine wpS_bind (cW e ?_);cases left with
  |true=>rw [if_pos rfl]at eb⊢;exact O _ _ _ _ hS B.key hk (by rw [eb];exact hR)
  |false=>
   rw [if_neg (by decide)]at eb⊢;refine wpS_bind (O _ _ _ _ B.key hS hk (wpS_pure ?_));show R (some (!r key x)) st;rw [eb];exact hR
 have bin:∀lo hi:Nat,lo<=hi->hi<=n->(∀i,i<lo->b i=true)->(∀i,hi<=i->i<n->b i=false)->∀{f:Nat->Option (Option Nat)×Nat×Nat->StateT SortSt Sem (ForInStep (Option (Option Nat)×Nat×Nat))}{g:Option (Option Nat)×Nat×Nat->StateT SortSt Sem (Option Nat)},
   (∀x lo hi (R:ForInStep (Option (Option Nat)×Nat×Nat)->SortSt->Prop),hi<=n->(lo≥hi->R (.done (none,lo,hi)) st)->(∀m,m=lo+(hi - lo)/2->lo<hi->R (.yield (if b m=true then(none,m+1,hi)else(none,lo,m))) st)->wpS M A E s (f x (none,lo,hi)) R st)->
   (∀lo hi,Q (some hi) st->wpS M A E s (g (none,lo,hi)) Q st)->
   wpS M A E s (forIn [0:n] (none,lo,hi) f>>=g) Q st:=by
  intro lo hi h1 h2 h3 h4 f g hf hg;refine wpS_bind (wpS_mono (wpS_forRange (I:=fun x c st'=>st'=st/\∃lo hi,c=(none,lo,hi)/\lo<=hi/\hi<=n/\(∀i,i<lo->b i=true)/\(∀i,hi<=i->i<n->b i=false)/\hi - lo+x<=n)
   (Q:=fun c st'=>st'=st/\∃lo hi,c=(none,lo,hi)/\hi<=lo/\hi<=n/\(∀i,i<lo->b i=true)/\(∀i,hi<=i->i<n->b i=false)) ?_ ?_ ⟨rfl,lo,hi,rfl,h1,h2,h3,h4,by omega⟩) ?_)
  ·rintro x c st' _ hx ⟨rfl,lo,hi,rfl,g1,g2,g3,g4,g5⟩;refine hf x lo hi _ g2 (fun hge=> ⟨rfl,lo,hi,rfl,hge,g2,g3,g4⟩) fun m hm hlt=> ?_;have m1:lo<=m:=by omega
   have m2:m<hi:=by omega
   cases hb:b m with
   |true=>
    rw [if_pos rfl];exact⟨rfl,_,_,rfl,by omega,g2,fun i hi'=>B.mono i m (by omega) (by omega) hb,g4,by omega⟩
   |false=>
    rw [if_neg (by decide)];refine⟨rfl,_,_,rfl,m1,by omega,g3,fun i h5 h6=> ?_,by omega⟩;cases hc:b i with
    |false=>rfl
    |true=>rw [B.mono m i h5 h6 hc]at hb;exact nomatch hb
  ·rintro c st' ⟨rfl,lo,hi,rfl,g1,g2,g3,g4,g5⟩;exact⟨rfl,lo,hi,rfl,by omega,g2,g3,g4⟩
  ·rintro c st' ⟨rfl,lo,hi,rfl,g1,g2,g3,g4⟩;exact hg lo hi (h hi g2 (fun i hi'=>g3 i (by omega)) g4)
 refine wpS_bind (bey hint _ hh ?_);dsimp only
 cases hb:b hint with
 |true=>
  rw [if_pos rfl];refine wpS_bind (wpS_mono (wpS_forRange (I:=fun x c st'=>st'=st/\∃l o,c=(none,l,o)/\x+1<=o/\l<o/\hint+l<n/\b (hint+l)=true)
   (Q:=fun c st'=>st'=st/\∃l o,c=(none,l,o)/\l<o/\hint+l<n/\b (hint+l)=true/\(n - hint<=o\/(hint+o<n/\b (hint+o)=false))) ?_ ?_ ⟨rfl,0,1,rfl,by omega,by omega,hh,hb⟩) ?_)
  ·rintro x c st' _ hx ⟨rfl,l,o,rfl,g1,g2,g3,g4⟩;dsimp only
   by_cases ho:o≥n - hint
   ·rw [if_pos ho];exact wpS_pure ⟨rfl,l,o,rfl,g2,g3,g4,.inl ho⟩
   ·rw [if_neg ho];refine wpS_bind (bey (hint+o) _ (by omega) ?_);cases hc:b (hint+o)with
    |true=>exact wpS_pure ⟨rfl,_,_,rfl,by omega,by omega,by omega,hc⟩
    |false=>exact wpS_pure ⟨rfl,_,_,rfl,g2,g3,g4,.inr ⟨by omega,hc⟩⟩
  ·rintro c st' ⟨rfl,l,o,rfl,g1,g2,g3,g4⟩;exact⟨rfl,l,o,rfl,g2,g3,g4,.inl (by omega)⟩
  ·rintro c st' ⟨rfl,l,o,rfl,g2,g3,g4,g5⟩;dsimp only
   refine bin _ _ (by rcases g5 with g5|g5<;>omega) (by omega) (fun i hi=>B.mono i (hint+l) (by omega) g3 g4) (fun i h5 h6=> ?_) (fun x lo hi R hn h1 h2=> ?_) fun lo hi hq=>wpS_pure hq
   ·rcases g5 with g5| ⟨g5,g6⟩
    ·omega
    ·cases hc:b i with
     |false=>rfl
     |true=>rw [B.mono (hint+o) i (by omega) h6 hc]at g6;exact nomatch g6
   ·dsimp only
    by_cases hlt:lo≥hi
    ·rw [if_pos hlt];exact wpS_pure (h1 hlt)
    ·rw [if_neg hlt];refine wpS_bind (bey (lo+(hi - lo)/2) _ (by omega) ?_);have q:=h2 _ rfl (by omega);cases hc:b (lo+(hi - lo)/2)with
     |true=>rw [hc,if_pos rfl]at q;exact wpS_pure q
     |false=>rw [hc,if_neg (by decide)]at q;exact wpS_pure q
 |false=>
  rw [if_neg (by decide)];refine wpS_bind (wpS_mono (wpS_forRange (I:=fun x c st'=>st'=st/\∃l o,c=(none,l,o)/\x+1<=o/\l<o/\l<=hint/\b (hint - l)=false)
   (Q:=fun c st'=>st'=st/\∃l o,c=(none,l,o)/\l<o/\l<=hint/\b (hint - l)=false/\(hint+1<=o\/(o<=hint/\b (hint - o)=true))) ?_ ?_ ⟨rfl,0,1,rfl,by omega,by omega,zero_le _,hb⟩) ?_)
  ·rintro x c st' _ hx ⟨rfl,l,o,rfl,g1,g2,g3,g4⟩;dsimp only
   by_cases ho:o≥hint+1
   ·rw [if_pos ho];exact wpS_pure ⟨rfl,l,o,rfl,g2,g3,g4,.inl ho⟩
   ·rw [if_neg ho];refine wpS_bind (bey (hint - o) _ (by omega) ?_);cases hc:b (hint - o)with
    |true=>exact wpS_pure ⟨rfl,_,_,rfl,g2,g3,g4,.inr ⟨by omega,hc⟩⟩
    |false=>exact wpS_pure ⟨rfl,_,_,rfl,by omega,by omega,by omega,hc⟩
  ·rintro c st' ⟨rfl,l,o,rfl,g1,g2,g3,g4⟩;exact⟨rfl,l,o,rfl,g2,g3,g4,.inl (by omega)⟩
  ·rintro c st' ⟨rfl,l,o,rfl,g2,g3,g4,g5⟩;dsimp only
   refine bin _ _ (by rcases g5 with g5|g5<;>omega) (by omega) (fun i hi=> ?_) (fun i h5 h6=> ?_) (fun x lo hi R hn h1 h2=> ?_) fun lo hi hq=>wpS_pure hq
   ·rcases g5 with g5| ⟨g5,g6⟩
    ·omega
    ·exact B.mono i (hint - o) (by omega) (by omega) g6
   ·cases hc:b i with
    |false=>rfl
    |true=>rw [B.mono (hint - l) i (by omega) h6 hc]at g4;exact nomatch g4
   ·dsimp only
    by_cases hlt:lo≥hi
    ·rw [if_pos hlt];exact wpS_pure (h1 hlt)
    ·rw [if_neg hlt];refine wpS_bind (bey (lo+(hi - lo)/2) _ (by omega) ?_);have q:=h2 _ rfl (by omega);cases hc:b (lo+(hi - lo)/2)with
     |true=>rw [hc,if_pos rfl]at q;exact wpS_pure q
     |false=>rw [hc,if_neg (by decide)]at q;exact wpS_pure q
end
section
variable {α:Type}{R:α->α->Prop}{la lb lo:List α}{ia ib k:Nat}{x:α}
structure Mg (R:α->α->Prop)(la lb lo:List α)(ia ib:Nat):Prop where
 pm:lo.Perm (la.take ia++lb.take ib)
 so:lo.Pairwise R
 lt:∀x∈lo,∀y,y∈la.drop ia\/y∈lb.drop ib->R x y
noncomputable def Md (R:α->α->Prop)(la lb l:List α):Prop:=l.Perm (la++lb)/\l.Pairwise R
theorem Mg.sw (m:Mg R la lb lo ia ib):Mg R lb la lo ib ia:=⟨m.pm.trans perm_append_comm,m.so,fun x hx y hy=>m.lt x hx y hy.symm⟩
theorem jZ (e:la[ia]?=some x):la.drop ia=x::la.drop (ia+1):=by obtain⟨h,e⟩:=zjW.mp e;rw [List.drop_eq_getElem_cons h,e]
theorem iM (e:la[ia]?=some x):la.take (ia+1)=la.take ia++[x]:=by rw [List.take_add_one,e];rfl
theorem Mg.a (m:Mg R la lb lo ia ib)(sa:la.Pairwise R)(e:la[ia]?=some x)(h:∀y∈lb.drop ib,R x y):Mg R la lb (lo++[x]) (ia+1) ib:=by
 have sd:(la.drop ia).Pairwise R:=sa.sublist (drop_sublist _ _);have ed:=jZ e;refine⟨?_,?_,?_⟩
 ·rw [iM e];refine(m.pm.append_right [x]).trans ?_;rw [append_assoc,append_assoc];exact List.Perm.append_left _ perm_append_comm
 ·refine pairwise_append.mpr ⟨m.so,pairwise_singleton _ _,fun z hz y hy=> ?_⟩;obtain rfl:y=x:=by simpa using hy
  exact m.lt z hz _ (.inl (by rw [ed];exact zjR))
 ·intro z hz y hy;rcases mem_append.mp hz with hz|hz
  ·exact m.lt z hz y (hy.imp (fun q=>by rw [ed];exact zjS _ q) id)
  ·obtain rfl:z=x:=by simpa using hz
   rcases hy with hy|hy
   ·rw [ed]at sd;exact(pairwise_cons.mp sd).1 y hy
   ·exact h y hy
theorem Mg.b (m:Mg R la lb lo ia ib)(sb:lb.Pairwise R)(e:lb[ib]?=some x)(h:∀y∈la.drop ia,R x y):Mg R la lb (lo++[x]) ia (ib+1):=(m.sw.a sb e h).sw
theorem Mg.as (m:Mg R la lb lo ia ib)(sa:la.Pairwise R):∀k,ia+k<=la.length->(∀i x,i<k->la[ia+i]?=some x->∀y∈lb.drop ib,R x y)->Mg R la lb (lo++(la.drop ia).take k) (ia+k) ib
 |0,_,_=>by simpa using m
 |k+1,hk,h=>by
  have m1:=m.as sa k (by omega) fun i x hi e=>h i x (by omega) e;have hl:ia+k<la.length:=by omega
  have e:la[ia+k]?=some la[ia+k]:=getElem?_eq_getElem hl;have m2:=m1.a sa e (h k _ (by omega) e);have et:(la.drop ia).take (k+1)=(la.drop ia).take k++[la[ia+k]]:=iM (by rw [getElem?_drop];exact e);rw [et,←append_assoc];exact m2
theorem Mg.bs (m:Mg R la lb lo ia ib)(sb:lb.Pairwise R)(k:Nat)(hk:ib+k<=lb.length)(h:∀i x,i<k->lb[ib+i]?=some x->∀y∈la.drop ia,R x y):Mg R la lb (lo++(lb.drop ib).take k) ia (ib+k):=(m.sw.as sb k hk h).sw
theorem Mg.da (m:Mg R la lb lo ia ib)(sa:la.Pairwise R)(hb:lb.length<=ib):Md R la lb (lo++la.drop ia):=by refine⟨?_,pairwise_append.mpr ⟨m.so,sa.sublist (drop_sublist _ _),fun x hx y hy=>m.lt x hx y (.inl hy)⟩⟩;have p:=m.pm.append_right (la.drop ia);rw [take_of_length_le hb]at p;refine p.trans ?_;rw [append_assoc];refine(List.Perm.append_left _ perm_append_comm).trans ?_;rw [←append_assoc,take_append_drop]
theorem Mg.db (m:Mg R la lb lo ia ib)(sb:lb.Pairwise R)(ha:la.length<=ia):Md R la lb (lo++lb.drop ib):=⟨(m.sw.da sb ha).1.trans perm_append_comm,(m.sw.da sb ha).2⟩
theorem Mg.l1 (m:Mg R la lb lo ia ib)(sb:lb.Pairwise R)(e:la[ia]?=some x)(hl:ia+1=la.length)(h:∀y∈lb,R y x):Md R la lb (lo++lb.drop ib++la.drop ia):=by
 have ed:la.drop ia=[x]:=by rw [jZ e,drop_of_length_le (by omega)]
 refine⟨?_,?_⟩
 ·have p:=(m.pm.append_right (lb.drop ib)).append_right (la.drop ia);refine p.trans ?_;rw [append_assoc (la.take ia),take_append_drop,append_assoc];refine(List.Perm.append_left _ perm_append_comm).trans ?_;rw [←append_assoc,take_append_drop]
 ·rw [ed];refine pairwise_append.mpr ⟨pairwise_append.mpr ⟨m.so,sb.sublist (drop_sublist _ _),fun x hx y hy=>m.lt x hx y (.inr hy)⟩,pairwise_singleton _ _,fun z hz y hy=> ?_⟩;obtain rfl:y=x:=by simpa using hy
  rcases mem_append.mp hz with hz|hz
  ·exact m.lt z hz _ (.inl (by rw [ed];exact zjR))
  ·exact h z (mem_of_mem_drop hz)
theorem iT (tr:∀x y z:α,R x y->R y z->R x z)(sb:lb.Pairwise R){y:α}(e:lb[ib]?=some y)(h:R x y):∀z∈lb.drop ib,R x z:=by
 have sd:(lb.drop ib).Pairwise R:=sb.sublist (drop_sublist _ _);rw [jZ e]at sd⊢;intro z hz;rcases mem_cons.mp hz with rfl|hz
 ·exact h
 ·exact tr _ _ _ h ((pairwise_cons.mp sd).1 z hz)
theorem Mg.nil:Mg R la lb [] 0 0:=⟨by simp,List.Pairwise.nil,fun _ h=>nomatch h⟩
end
noncomputable def mgl:Array Keyed->Array Keyed->StateT SortSt Sem (Array Keyed):=sortPriv%PySem.Builtin.mergeLo
noncomputable abbrev sg (st:SortSt)(g:Nat):SortSt:=SortSt.mk' (kindOf st) (arrOf st) (pendingOf st) g (failedOf st)
noncomputable def Le (r:Keyed->Keyed->Bool)(x y:Keyed):Prop:=r y x=false
section
variable {M:Model}{A:Around}{E:Value->Shared->Prop}{s:Shared}{S:Keyed->Prop}{r:Keyed->Keyed->Bool}{κ:SortKind}{β:Type}{st:SortSt}{Q:β->SortSt->Prop}
end
section
variable {M:Model}{A:Around}{E:Value->Shared->Prop}{s:Shared}{S:Keyed->Prop}{r:Keyed->Keyed->Bool}{κ:SortKind}{a b:Array Keyed}
theorem gY {a:Array Keyed}{i j:Nat}:(a.extract i j).toList=(a.toList.drop i).take (j - i):=by rw [Array.toList_extract]
theorem jQ {a:Array Keyed}{i:Nat}:(a.extract i a.size).toList=a.toList.drop i:=by rw [gY,take_of_length_le];rw [length_drop];exact zjQ _
theorem cZ {a:Array Keyed}{i:Nat}(h:i<a.size):∃x,a[i]?=some x/\a.toList[i]?=some x/\x∈a.toList:=⟨a[i],by simp [h],by simp [h],by simp⟩
structure Li (r:Keyed->Keyed->Bool)(a b o:Array Keyed)(i j:Nat):Prop where
 mg:Mg (Le r) a.toList b.toList o.toList i j
 ha:i+1<a.size
 hb:j<b.size
theorem uG {key:Keyed}{i:Nat}(tr:∀x y z,Le r x y->Le r y z->Le r x z)(sa:a.toList.Pairwise (Le r))(hS:∀x∈a.toList,S x)(hk:S key):Bey S r false key a i (a.size - i) (fun k=>match a[i+k]? with|some x=> !r key x|none=>false):=by
 refine⟨fun k hk'=> ?_,fun k l hkl hl hb=> ?_,hk⟩
 ·obtain⟨x,e,_,m⟩:=cZ (a:=a) (i:=i+k) (by omega);exact⟨x,e,hS x m,by rw [e];rfl⟩
 ·obtain⟨x,e,e1,m⟩:=cZ (a:=a) (i:=i+k) (by omega);obtain⟨y,e',e1',m'⟩:=cZ (a:=a) (i:=i+l) (by omega);simp only [e,e']at hb⊢;rcases eq_or_lt_of_le hkl with rfl|hlt
  ·rw [e]at e';cases e';exact hb
  ·have q:Le r x y:=(pairwise_iff_getElem.mp sa) (i+k) (i+l) (by simp;omega) (by simp;omega) (by omega)|>fun q=>by
    have h1:=(zjW.mp e1).2;have h2:=(zjW.mp e1').2;rw [h1,h2]at q;exact q
   have q2:Le r y key:=by unfold Le;simpa using hb
   have q3:Le r x key:=tr _ _ _ q q2;unfold Le at q3;simp [q3]
theorem uY {key:Keyed}{i:Nat}(tr:∀x y z,Le r x y->Le r y z->Le r x z)(sa:a.toList.Pairwise (Le r))(hS:∀x∈a.toList,S x)(hk:S key):Bey S r true key a i (a.size - i) (fun k=>match a[i+k]? with|some x=>r x key|none=>false):=by
 refine⟨fun k hk'=> ?_,fun k l hkl hl hb=> ?_,hk⟩
 ·obtain⟨x,e,_,m⟩:=cZ (a:=a) (i:=i+k) (by omega);exact⟨x,e,hS x m,by rw [e];rfl⟩
 ·obtain⟨x,e,e1,m⟩:=cZ (a:=a) (i:=i+k) (by omega);obtain⟨y,e',e1',m'⟩:=cZ (a:=a) (i:=i+l) (by omega);simp only [e,e']at hb⊢;rcases eq_or_lt_of_le hkl with rfl|hlt
  ·rw [e]at e';cases e';exact hb
  ·have q:Le r x y:=(pairwise_iff_getElem.mp sa) (i+k) (i+l) (by simp;omega) (by simp;omega) (by omega)|>fun q=>by
    have h1:=(zjW.mp e1).2;have h2:=(zjW.mp e1').2;rw [h1,h2]at q;exact q
   cases h3:r x key with
   |true=>rfl
   |false=>
    have q3:Le r key y:=tr _ _ _ h3 q;unfold Le at q3;rw [q3]at hb;exact nomatch hb
end
section
variable {M:Model}{A:Around}{E:Value->Shared->Prop}{s:Shared}{S:Keyed->Prop}{r:Keyed->Keyed->Bool}{κ:SortKind}{a b:Array Keyed}
theorem tW {α:Type}{c:Nat->Prop} [∀n,Decidable (c n)]{X F:Nat->StateT SortSt Sem α}{Q:α->SortSt->Prop}{st:SortSt}(hX:∀n,X n=F (n - 1))(h:∀n,wpS M A E s (F n) Q st):∀n,wpS M A E s (if c n then X n else F n) Q st:=fun n=>by
 split
 ·rw [hX];exact h _
 ·exact h _
theorem mX {β γ α:Type}{c:Prop} [Decidable c]{X F:β->γ->StateT SortSt Sem α}{Q:α->SortSt->Prop}{st:SortSt}{b0:β}{g0:γ}(Pre:β->γ->Prop)(hn:¬c->Pre b0 g0)(key:∀b g,Pre b g->wpS M A E s (F b g) Q st)
  (hp:c->(∀b g,Pre b g->wpS M A E s (F b g) Q st)->wpS M A E s (X b0 g0) Q st):∀b,b=b0->∀g,g=g0->wpS M A E s (if c then X b g else F b g) Q st:=by
 rintro _ rfl _ rfl
 split
 ·rename_i h;exact hp h key
 ·rename_i h;exact key _ _ (hn h)
structure Mi (S:Keyed->Prop)(r:Keyed->Keyed->Bool)(a b:Array Keyed):Prop where
 tr:∀x y z,Le r x y->Le r y z->Le r x z
 as:∀x y,r x y=true->Le r x y
 sa:a.toList.Pairwise (Le r)
 sb:b.toList.Pairwise (Le r)
 xa:∀x∈a.toList,S x
 xb:∀x∈b.toList,S x
 na:1<=a.size
 nb:1<=b.size
 hd:∀x∈a.toList,∀y,b.toList[0]?=some y->Le r y x
 tl:∀y∈b.toList,∀x,a.toList[a.size - 1]?=some x->Le r y x
theorem len {a:Array Keyed}:a.toList.length=a.size:=Array.length_toList
theorem Li.one {o:Array Keyed}{i j:Nat}(m:Mi S r a b)(L:Mg (Le r) a.toList b.toList o.toList i j)(hi:(i+1==a.size)=true):Md (Le r) a.toList b.toList (o++b.extract j b.size++a.extract i a.size).toList:=by
 have hi:i+1=a.size:=by simpa using hi
 obtain⟨x,_,e,_⟩:=cZ (a:=a) (i:=i) (by omega);rw [Array.toList_append,Array.toList_append,jQ,jQ];exact L.l1 m.sb e (by rw [len];exact hi) fun y hy=>m.tl y hy x (by rw [show a.size - 1=i by omega];exact e)
theorem Li.fb {o:Array Keyed}{i j:Nat}(m:Mi S r a b)(L:Mg (Le r) a.toList b.toList o.toList i j)(hj:(j==b.size)=true):Md (Le r) a.toList b.toList (o++a.extract i a.size++b.extract j b.size).toList:=by
 have hj:j=b.size:=by simpa using hj
 rw [Array.toList_append,Array.toList_append,jQ,jQ,drop_of_length_le (l:=b.toList) (by rw [len];omega),append_nil];exact L.da m.sa (by rw [len];omega)
theorem Li.fa {o:Array Keyed}{i j:Nat}(m:Mi S r a b)(L:Mg (Le r) a.toList b.toList o.toList i j)(hi:(i==a.size)=true):Md (Le r) a.toList b.toList (o++a.extract i a.size++b.extract j b.size).toList:=by
 have hi:i=a.size:=by simpa using hi
 rw [Array.toList_append,Array.toList_append,jQ,jQ,drop_of_length_le (l:=a.toList) (by rw [len];omega),append_nil];exact L.db m.sb (by rw [len];omega)
theorem A6f {st:SortSt}{Q:Array Keyed->SortSt->Prop}(O:Oc M A E s κ S r)(hk:kindOf st=κ)(m:Mi S r a b)(h:∀l g,Md (Le r) a.toList b.toList l.toList->Q l (sg st g)):wpS M A E s (mgl a b) Q st:=by
 have ga:∀{o:Array Keyed}{i j:Nat}{x y:Keyed},Mg (Le r) a.toList b.toList o.toList i j->a.toList[i]?=some x->b.toList[j]?=some y->Le r x y->Mg (Le r) a.toList b.toList (o.push x).toList (i+1) j:=by
  intro o i j x y L ex ey q;rw [Array.toList_push];exact L.a m.sa ex (iT m.tr m.sb ey q)
 have gb:∀{o:Array Keyed}{i j:Nat}{x y:Keyed},Mg (Le r) a.toList b.toList o.toList i j->a.toList[i]?=some x->b.toList[j]?=some y->Le r y x->Mg (Le r) a.toList b.toList (o.push y).toList i (j+1):=by
  intro o i j x y L ex ey q;rw [Array.toList_push];exact L.b m.sb ey (iT m.tr m.sa ex q)
 refine wpS_bind (wpS_lift (wpAny_rule ⟨rfl,?_⟩));obtain⟨y0,b0,b0',_⟩:=cZ (a:=b) (i:=0) m.nb;refine wpS_bind (cW b0 ?_);have L0:Mg (Le r) a.toList b.toList (#[y0]:Array Keyed).toList 0 1:=(Mg.nil (R:=Le r) (la:=a.toList) (lb:=b.toList)).b m.sb b0' (fun z hz=>m.hd z hz y0 b0');dsimp only
 by_cases e1:((1:Nat)==b.size)=true
 ·rw [if_pos e1];exact wpS_pure (h _ (gallopOf st) (Li.fb m L0 e1))
 rw [if_neg e1];by_cases e2:((0:Nat)+1==a.size)=true
 ·rw [if_pos e2];exact wpS_pure (h _ (gallopOf st) (Li.one m L0 e2))
 rw [if_neg e2];have n1:=m.na;have n2:=m.nb;have b1:1<b.size:=by have:¬(1:Nat)=b.size:=fun q=>e1 (by rw [←q];rfl);omega
 have a1:0+1<a.size:=by have:¬(0:Nat)+1=a.size:=fun q=>e2 (by rw [←q];rfl);omega
 refine wpS_bind (wpS_get ?_);refine wpS_bind (wpS_mono (wpS_forRange
  (I:=fun X c st'=> ∃g o i j mg,st'=sg st g/\c=(none,o,i,j,mg)/\Li r a b o i j/\X<=i+j)
  (Q:=fun c st'=> ∃g l w,st'=sg st g/\c=(some l,w)/\Md (Le r) a.toList b.toList l.toList) ?_ ?_ ⟨gallopOf st,_,_,_,_,rfl,rfl,⟨L0,a1,b1⟩,by omega⟩) ?_)
 ·rintro X c _ _ hX ⟨g,o,i,j,mg,rfl,rfl,L,hx⟩;dsimp only
  refine wpS_bind (wpS_mono (wpS_forRange
   (I:=fun X c st'=>st'=sg st g/\∃o i' j' ac bc,c=(none,o,i',j',ac,bc)/\Li r a b o i' j'/\i+j+X<=i'+j')
   (Q:=fun c st'=>st'=sg st g/\((∃l w,c=(some l,w)/\Md (Le r) a.toList b.toList l.toList)\/ ∃o i' j' ac bc,c=(none,o,i',j',ac,bc)/\Li r a b o i' j'/\i+j+1<=i'+j')) ?_ ?_ ⟨rfl,_,_,_,_,_,rfl,L,by omega⟩) ?_)
  ·rintro X c _ _ hX ⟨rfl,o,i',j',ac,bc,rfl,L,hx⟩;dsimp only
   obtain⟨x,ea,ea',ma⟩:=cZ (a:=a) (i:=i') (by have:=L.ha;omega);obtain⟨y,eb,eb',mb⟩:=cZ (a:=b) (i:=j') L.hb;refine wpS_bind (cW eb (wpS_bind (cW ea (wpS_bind (O _ _ _ _ (m.xb y mb) (m.xa x ma) hk ?_)))));dsimp only
   cases hr:r y x with
   |true=>
    rw [if_pos rfl];refine wpS_bind (cW eb ?_);have L1:=gb L.mg ea' eb' (m.as _ _ hr);by_cases f1:(j'+1==b.size)=true
    ·rw [if_pos f1];exact wpS_pure ⟨rfl,.inl ⟨_,_,rfl,Li.fb m L1 f1⟩⟩
    ·rw [if_neg f1];have L2:Li r a b (o.push y) i' (j'+1):=⟨L1,L.ha,by have:=L.hb;have:¬j'+1=b.size:=fun q=>f1 (by rw [←q];exact beq_self_eq_true _);omega⟩
     split
     ·exact wpS_pure ⟨rfl,.inr ⟨_,_,_,_,_,rfl,L2,by omega⟩⟩
     ·exact wpS_pure ⟨rfl,_,_,_,_,_,rfl,L2,by omega⟩
   |false=>
    rw [if_neg (by decide)];refine wpS_bind (cW ea ?_);have L1:=ga L.mg ea' eb' hr;by_cases f1:(i'+1+1==a.size)=true
    ·rw [if_pos f1];exact wpS_pure ⟨rfl,.inl ⟨_,_,rfl,Li.one m L1 f1⟩⟩
    ·rw [if_neg f1];have L2:Li r a b (o.push x) (i'+1) j':=⟨L1,by have:=L.ha;have:¬i'+1+1=a.size:=fun q=>f1 (by rw [←q];exact beq_self_eq_true _);omega,L.hb⟩
     split
     ·exact wpS_pure ⟨rfl,.inr ⟨_,_,_,_,_,rfl,L2,by omega⟩⟩
     ·exact wpS_pure ⟨rfl,_,_,_,_,_,rfl,L2,by omega⟩
  ·rintro c _ ⟨rfl,o,i',j',ac,bc,rfl,L,hx⟩;exact⟨rfl,.inr ⟨_,_,_,_,_,rfl,L,by omega⟩⟩
  ·rintro c _ ⟨rfl,⟨l,w,rfl,hl⟩| ⟨o,i',j',ac,bc,rfl,L,hx'⟩⟩
   ·exact wpS_pure ⟨g,l,_,rfl,rfl,hl⟩
   dsimp only
   refine wpS_bind (wpS_lift (wpAny_rule ⟨rfl,?_⟩));refine wpS_bind (wpS_mono (wpS_forRange
    (I:=fun _ c st'=> ∃g o i2 j2 mg ac bc,st'=sg st g/\c=(none,o,i2,j2,mg,ac,bc)/\Li r a b o i2 j2/\i'+j'<=i2+j2)
    (Q:=fun c st'=> ∃g,st'=sg st g/\((∃l w,c=(some l,w)/\Md (Le r) a.toList b.toList l.toList)\/ ∃o i2 j2 mg ac bc,c=(none,o,i2,j2,mg,ac,bc)/\Li r a b o i2 j2/\i'+j'<=i2+j2)) ?_ ?_ ⟨g,_,_,_,_,_,_,rfl,rfl,L,by omega⟩) ?_)
   ·rintro X c _ _ hX ⟨g,o,i2,j2,mg,ac,bc,rfl,rfl,L,hx2⟩;dsimp only
    obtain⟨y,eb,eb',mb⟩:=cZ (a:=b) (i:=j2) L.hb;have ha2:=L.ha;have hb2:=L.hb
    revert mg
    refine tW (fun _=>rfl) fun mg=> ?_;refine wpS_bind (wpS_modify ?_);refine wpS_bind (cW eb (wpS_bind (jM O hk (uG m.tr m.sa m.xa (m.xb y mb)) (by omega) fun k k1 k2 k3=> ?_)));dsimp only
    have La:Mg (Le r) a.toList b.toList (o++a.extract i2 (i2+k)).toList (i2+k) j2:=by
     rw [Array.toList_append,gY,show i2+k - i2=k by omega];refine L.mg.as m.sa k (by rw [len];omega) fun q x hq e=>iT m.tr m.sb eb' ?_;have:=k2 q hq;have e':a[i2+q]?=some x:=by rw [←Array.getElem?_toList];exact e
     rw [e']at this;unfold Le;simpa using this
    have low:∀x,i2+k<a.size->a.toList[i2+k]?=some x->Le r y x:=fun x hl e=>by
     have:=k3 k (zjQ _) (by omega);have e':a[i2+k]?=some x:=by rw [←Array.getElem?_toList];exact e
     rw [e']at this;exact m.as _ _ (by simpa using this)
    obtain⟨o9,ho9⟩:∃o9,o9=o:=⟨_,rfl⟩;obtain⟨i9,hi9⟩:∃i9,i9=i2:=⟨_,rfl⟩;rw [←ho9,←hi9]
    revert o9 i9
    refine mX (fun(o3:Array Keyed) (i3:Nat)=>Mg (Le r) a.toList b.toList o3.toList i3 j2/\i3+1<a.size/\i'+j'<=i3+j2/\∀x,a.toList[i3]?=some x->Le r y x) (fun hk0=> ⟨L.mg,ha2,hx2,fun x e=>low x (by omega) (by rw [show k=0 by omega];exact e)⟩) (fun o3 i3 ⟨L3,h3,h4,h5⟩=> ?_) fun hk0 key=> ?_
    rotate_left
    ·by_cases f1:(i2+k+1==a.size)=true
     ·rw [if_pos f1];exact wpS_pure ⟨_,rfl,.inl ⟨_,_,rfl,Li.one m La f1⟩⟩
     rw [if_neg f1];by_cases f2:(i2+k==a.size)=true
     ·rw [if_pos f2];exact wpS_pure ⟨_,rfl,.inl ⟨_,_,rfl,Li.fa m La f2⟩⟩
     rw [if_neg f2];have f1':¬i2+k+1=a.size:=fun q=>f1 (by rw [q];exact beq_self_eq_true _);have f2':¬i2+k=a.size:=fun q=>f2 (by rw [q];exact beq_self_eq_true _);exact key _ _ ⟨La,by omega,by omega,fun x e=>low x (by omega) e⟩
    obtain⟨x,ea,ea',ma⟩:=cZ (a:=a) (i:=i3) (by omega);refine wpS_bind (cW eb ?_);have L4:=gb L3 ea' eb' (h5 x ea');by_cases f1:(j2+1==b.size)=true
    case pos=>rw [if_pos f1];exact wpS_pure ⟨_,rfl,.inl ⟨_,_,rfl,Li.fb m L4 f1⟩⟩
    rw [if_neg f1];have f1':¬j2+1=b.size:=fun q=>f1 (by rw [q];exact beq_self_eq_true _);refine wpS_bind (cW ea (wpS_bind (jM O hk (uY m.tr m.sb m.xb (m.xa x ma)) (by omega) fun k' p1 p2 p3=> ?_)));dsimp only
    generalize o3.push y=o5 at L4⊢;generalize hj5:j2+1=j5 at L4 f1' p1 p2 p3⊢;have Lb:Mg (Le r) a.toList b.toList (o5++b.extract j5 (j5+k')).toList i3 (j5+k'):=by
     rw [Array.toList_append,gY,show j5+k' - j5=k' by omega];refine L4.bs m.sb k' (by rw [len];omega) fun q z hq e=>iT m.tr m.sa ea' ?_;have:=p2 q hq;have e':b[j5+q]?=some z:=by rw [←Array.getElem?_toList];exact e
     rw [e']at this;exact m.as _ _ (by simpa using this)
    have lob:∀z,j5+k'<b.size->b.toList[j5+k']?=some z->Le r x z:=fun z hl e=>by
     have:=p3 k' (zjQ _) (by omega);have e':b[j5+k']?=some z:=by rw [←Array.getElem?_toList];exact e
     rw [e']at this;simpa [Le]using this
    obtain⟨o9,ho9⟩:∃o9,o9=o5:=⟨_,rfl⟩;obtain⟨i9,hi9⟩:∃i9,i9=j5:=⟨_,rfl⟩;rw [←ho9,←hi9]
    revert o9 i9
    refine mX (fun(o4:Array Keyed) (j3:Nat)=>Mg (Le r) a.toList b.toList o4.toList i3 j3/\j3<b.size/\i'+j'<=i3+j3/\∀z,b.toList[j3]?=some z->Le r x z) (fun hk1=> ⟨L4,by omega,by omega,fun z e=>lob z (by omega) (by rw [show k'=0 by omega];exact e)⟩) (fun o4 j3 ⟨L5,h6,h7,h8⟩=> ?_) fun hk1 key=> ?_
    rotate_left
    ·by_cases f2:(j5+k'==b.size)=true
     ·rw [if_pos f2];exact wpS_pure ⟨_,rfl,.inl ⟨_,_,rfl,Li.fb m Lb f2⟩⟩
     rw [if_neg f2];have f2':¬j5+k'=b.size:=fun q=>f2 (by rw [q];exact beq_self_eq_true _);exact key _ _ ⟨Lb,by omega,by omega,fun z e=>lob z (by omega) e⟩
    obtain⟨z,ez,ez',mz⟩:=cZ (a:=b) (i:=j3) h6;refine wpS_bind (cW ea ?_);have L6:=ga L5 ea' ez' (h8 z ez');by_cases f2:(i3+1+1==a.size)=true
    case pos=>rw [if_pos f2];exact wpS_pure ⟨_,rfl,.inl ⟨_,_,rfl,Li.one m L6 f2⟩⟩
    rw [if_neg f2];have f2':¬i3+1+1=a.size:=fun q=>f2 (by rw [q];exact beq_self_eq_true _);have L7:Li r a b (o4.push x) (i3+1) j3:=⟨L6,by omega,h6⟩
    split
    ·exact wpS_pure ⟨_,rfl,.inr ⟨_,_,_,_,_,_,rfl,L7,by omega⟩⟩
    ·exact wpS_pure ⟨_,_,_,_,_,_,_,rfl,rfl,L7,by omega⟩
   ·rintro c _ ⟨g,o,i2,j2,mg,ac,bc,rfl,rfl,L,hx⟩;exact⟨g,rfl,.inr ⟨_,_,_,_,_,_,rfl,L,hx⟩⟩
   ·rintro c _ ⟨g,rfl,⟨l,w,rfl,hl⟩| ⟨o,i2,j2,mg,ac,bc,rfl,L,hx2⟩⟩
    ·exact wpS_pure ⟨g,l,_,rfl,rfl,hl⟩
    ·dsimp only
     exact wpS_bind (wpS_modify (wpS_pure ⟨_,_,_,_,_,rfl,rfl,L,by omega⟩))
 ·rintro c _ ⟨g,o,i,j,mg,rfl,rfl,L,hx⟩;have h1:=L.ha;have h2:=L.hb;omega
 ·rintro c _ ⟨g,l,w,rfl,rfl,hl⟩;exact wpS_pure (h l g hl)
end
section
variable {α:Type}{R:α->α->Prop}{la lb lo:List α}{na nb k:Nat}{x:α}
structure Mh (R:α->α->Prop)(la lb lo:List α)(na nb:Nat):Prop where
 pm:lo.Perm (la.drop na++lb.drop nb)
 so:lo.Pairwise (fun x y=>R y x)
 lt:∀x∈lo,∀y,y∈la.take na\/y∈lb.take nb->R y x
theorem Mh.sw (m:Mh R la lb lo na nb):Mh R lb la lo nb na:=⟨m.pm.trans perm_append_comm,m.so,fun x hx y hy=>m.lt x hx y hy.symm⟩
theorem Mh.a (m:Mh R la lb lo (na+1) nb)(sa:la.Pairwise R)(e:la[na]?=some x)(h:∀y∈lb.take nb,R y x):Mh R la lb (lo++[x]) na nb:=by
 have st:(la.take (na+1)).Pairwise R:=sa.sublist (take_sublist _ _);have et:=iM e;refine⟨?_,?_,?_⟩
 ·rw [jZ e];exact(perm_append_comm).trans (m.pm.cons x)
 ·refine pairwise_append.mpr ⟨m.so,pairwise_singleton _ _,fun z hz y hy=> ?_⟩;obtain rfl:y=x:=by simpa using hy
  exact m.lt z hz _ (.inl (by rw [et];exact mem_append_right _ zjR))
 ·intro z hz y hy;rcases mem_append.mp hz with hz|hz
  ·exact m.lt z hz y (hy.imp (fun q=>by rw [et];exact mem_append_left _ q) id)
  ·obtain rfl:z=x:=by simpa using hz
   rcases hy with hy|hy
   ·rw [et]at st;exact(pairwise_append.mp st).2.2 y hy _ zjR
   ·exact h y hy
theorem Mh.as (sa:la.Pairwise R):∀(k na:Nat),Mh R la lb lo (na+k) nb->na+k<=la.length->(∀i x,na<=i->i<na+k->la[i]?=some x->∀y∈lb.take nb,R y x)->Mh R la lb (lo++((la.drop na).take k).reverse) na nb
 |0,na,m,_,_=>by simpa using m
 |k+1,na,m,hk,h=>by
  have m1:=Mh.as sa k (na+1) (by rw [show na+1+k=na+(k+1) by omega];exact m) (by omega) fun i x h1 h2 e=>h i x (by omega) (by omega) e;have hl:na<la.length:=by omega
  have e:la[na]?=some la[na]:=getElem?_eq_getElem hl;have m2:=m1.a sa e (h na _ (zjQ _) (by omega) e);have et:((la.drop na).take (k+1)).reverse=((la.drop (na+1)).take k).reverse++[la[na]]:=by rw [jZ e,List.take_succ_cons,List.reverse_cons]
  rw [et,←append_assoc];exact m2
theorem Mh.da (m:Mh R la lb lo na nb)(sa:la.Pairwise R)(hb:nb=0):Md R la lb (la.take na++lo.reverse):=by refine⟨?_,pairwise_append.mpr ⟨sa.sublist (take_sublist _ _),List.pairwise_reverse.mpr m.so,fun y hy x hx=>m.lt x (mem_reverse.mp hx) y (.inl hy)⟩⟩;have p:=(List.reverse_perm lo).trans m.pm;rw [hb,drop_zero]at p;refine(List.Perm.append_left _ p).trans ?_;rw [←append_assoc,take_append_drop]
theorem Mh.db (m:Mh R la lb lo na nb)(sb:lb.Pairwise R)(ha:na=0):Md R la lb (lb.take nb++lo.reverse):=⟨(m.sw.da sb ha).1.trans perm_append_comm,(m.sw.da sb ha).2⟩
theorem Mh.l1 (m:Mh R la lb lo na 1)(sa:la.Pairwise R)(e:lb[0]?=some x)(h:∀y∈la,R x y):Md R la lb (lb.take 1++la.take na++lo.reverse):=by
 have ed:lb.take 1=[x]:=by rw [show 1=0+1 from rfl,iM e];rfl
 refine⟨?_,?_⟩
 ·have p:=(List.reverse_perm lo).trans m.pm;refine(List.Perm.append_left _ p).trans ?_;rw [append_assoc,←append_assoc (la.take na),take_append_drop];refine perm_append_comm.trans ?_;rw [append_assoc];refine List.Perm.append_left _ (perm_append_comm.trans ?_);rw [take_append_drop]
 ·rw [ed];refine pairwise_append.mpr ⟨pairwise_append.mpr ⟨pairwise_singleton _ _,sa.sublist (take_sublist _ _),fun z hz y hy=> ?_⟩,List.pairwise_reverse.mpr m.so,fun z hz y hy=> ?_⟩
  ·obtain rfl:z=x:=by simpa using hz
   exact h y (mem_of_mem_take hy)
  ·rcases mem_append.mp hz with hz|hz
   ·exact m.lt y (mem_reverse.mp hy) z (.inr (by rw [ed];exact hz))
   ·exact m.lt y (mem_reverse.mp hy) z (.inl hz)
theorem mI (tr:∀x y z:α,R x y->R y z->R x z)(sb:lb.Pairwise R){y:α}(e:lb[nb]?=some y)(h:R y x):∀z∈lb.take (nb+1),R z x:=by
 have sd:(lb.take (nb+1)).Pairwise R:=sb.sublist (take_sublist _ _);rw [iM e]at sd⊢;intro z hz;rcases mem_append.mp hz with hz|hz
 ·exact tr _ _ _ ((pairwise_append.mp sd).2.2 z hz y zjR) h
 ·obtain rfl:z=y:=by simpa using hz
  exact h
end
noncomputable def mgh:Array Keyed->Array Keyed->StateT SortSt Sem (Array Keyed):=sortPriv%PySem.Builtin.mergeHi
section
variable {M:Model}{A:Around}{E:Value->Shared->Prop}{s:Shared}{S:Keyed->Prop}{r:Keyed->Keyed->Bool}{κ:SortKind}{a b:Array Keyed}
theorem Bey.le {left:Bool}{key:Keyed}{base n n':Nat}{f:Nat->Bool}(B:Bey S r left key a base n f)(h:n'<=n):Bey S r left key a base n' f:=⟨fun i hi=>B.at_ i (by omega),fun i j h1 h2 h3=>B.mono i j h1 (by omega) h3,B.key⟩
structure Lh (r:Keyed->Keyed->Bool)(a b o:Array Keyed)(i j:Nat):Prop where
 mg:Mh (Le r) a.toList b.toList o.toList i j
 ha:1<=i/\i<=a.size
 hb:2<=j/\j<=b.size
theorem iS {a:Array Keyed}{i:Nat}:(a.extract 0 i).toList=a.toList.take i:=by rw [gY,drop_zero,Nat.sub_zero]
theorem Lh.one {o:Array Keyed}{i j:Nat}(m:Mi S r a b)(L:Mh (Le r) a.toList b.toList o.toList i j)(hj:(j==1)=true):Md (Le r) a.toList b.toList (b.extract 0 j++a.extract 0 i++o.reverse).toList:=by
 have hj:j=1:=by simpa using hj
 subst hj;obtain⟨x,_,e,_⟩:=cZ (a:=b) (i:=0) m.nb;rw [Array.toList_append,Array.toList_append,iS,iS,Array.toList_reverse];exact L.l1 m.sa e fun y hy=>m.hd y hy x e
theorem Lh.fa {o:Array Keyed}{i j:Nat}(m:Mi S r a b)(L:Mh (Le r) a.toList b.toList o.toList i j)(hi:(i==0)=true):Md (Le r) a.toList b.toList (a.extract 0 i++b.extract 0 j++o.reverse).toList:=by
 have hi:i=0:=by simpa using hi
 subst hi;rw [Array.toList_append,Array.toList_append,iS,iS,Array.toList_reverse,take_zero,nil_append];exact L.db m.sb rfl
theorem Lh.fb {o:Array Keyed}{i j:Nat}(m:Mi S r a b)(L:Mh (Le r) a.toList b.toList o.toList i j)(hj:(j==0)=true):Md (Le r) a.toList b.toList (a.extract 0 i++b.extract 0 j++o.reverse).toList:=by
 have hj:j=0:=by simpa using hj
 subst hj;rw [Array.toList_append,Array.toList_append,iS,iS,Array.toList_reverse,take_zero,append_nil];exact L.da m.sa rfl
theorem A7m {st:SortSt}{Q:Array Keyed->SortSt->Prop}(O:Oc M A E s κ S r)(hk:kindOf st=κ)(m:Mi S r a b)(h:∀l g,Md (Le r) a.toList b.toList l.toList->Q l (sg st g)):wpS M A E s (mgh a b) Q st:=by
 have ga:∀{o:Array Keyed}{i j:Nat}{x y:Keyed},Mh (Le r) a.toList b.toList o.toList (i+1) (j+1)->a.toList[i]?=some x->b.toList[j]?=some y->Le r y x->Mh (Le r) a.toList b.toList (o.push x).toList i (j+1):=by
  intro o i j x y L ex ey q;rw [Array.toList_push];exact L.a m.sa ex (mI m.tr m.sb ey q)
 have gb:∀{o:Array Keyed}{i j:Nat}{x y:Keyed},Mh (Le r) a.toList b.toList o.toList (i+1) (j+1)->a.toList[i]?=some x->b.toList[j]?=some y->Le r x y->Mh (Le r) a.toList b.toList (o.push y).toList (i+1) j:=by
  intro o i j x y L ex ey q;rw [Array.toList_push];exact(L.sw.a m.sb ey (mI m.tr m.sa ex q)).sw
 have n1:=m.na;have n2:=m.nb;refine wpS_bind (wpS_lift (wpAny_rule ⟨rfl,?_⟩));obtain⟨x0,a0,a0',_⟩:=cZ (a:=a) (i:=a.size - 1) (by omega);refine wpS_bind (cW a0 ?_);have L0:Mh (Le r) a.toList b.toList (#[x0]:Array Keyed).toList (a.size - 1) b.size:=by
  have z:Mh (Le r) a.toList b.toList [] (a.size - 1+1) b.size:=⟨by rw [drop_of_length_le (l:=a.toList) (by rw [len];omega),drop_of_length_le (l:=b.toList) (by rw [len];omega)];exact List.Perm.refl _,List.Pairwise.nil,fun _ h=>nomatch h⟩;exact z.a m.sa a0' fun y hy=>m.tl y (mem_of_mem_take hy) x0 a0'
 dsimp only
 by_cases e1:(a.size - 1==0)=true
 ·rw [if_pos e1];exact wpS_pure (h _ (gallopOf st) (Lh.fa m L0 e1))
 rw [if_neg e1];by_cases e2:(b.size==1)=true
 ·rw [if_pos e2];exact wpS_pure (h _ (gallopOf st) (Lh.one m L0 e2))
 rw [if_neg e2];have a1:1<=a.size - 1:=by have:¬a.size - 1=0:=fun q=>e1 (by rw [q];rfl);omega
 have b1:2<=b.size:=by have:¬b.size=1:=fun q=>e2 (by rw [q];rfl);omega
 refine wpS_bind (wpS_get ?_);refine wpS_bind (wpS_mono (wpS_forRange
  (I:=fun X c st'=> ∃g o i j mg,st'=sg st g/\c=(none,i,j,o,mg)/\Lh r a b o i j/\X+i+j<=a.size+b.size)
  (Q:=fun c st'=> ∃g l w,st'=sg st g/\c=(some l,w)/\Md (Le r) a.toList b.toList l.toList) ?_ ?_ ⟨gallopOf st,_,_,_,_,rfl,rfl,⟨L0,⟨a1,by omega⟩,⟨b1,zjQ _⟩⟩,by omega⟩) ?_)
 ·rintro X c _ _ hX ⟨g,o,i,j,mg,rfl,rfl,L,hx⟩;dsimp only
  refine wpS_bind (wpS_mono (wpS_forRange
   (I:=fun X c st'=>st'=sg st g/\∃o i' j' ac bc,c=(none,i',j',o,ac,bc)/\Lh r a b o i' j'/\X+i'+j'<=i+j)
   (Q:=fun c st'=>st'=sg st g/\((∃l w,c=(some l,w)/\Md (Le r) a.toList b.toList l.toList)\/ ∃o i' j' ac bc,c=(none,i',j',o,ac,bc)/\Lh r a b o i' j'/\1+i'+j'<=i+j)) ?_ ?_ ⟨rfl,_,_,_,_,_,rfl,L,by omega⟩) ?_)
  ·rintro X c _ _ hX ⟨rfl,o,i',j',ac,bc,rfl,L,hx⟩;dsimp only
   obtain⟨i1,rfl⟩:∃i1,i'=i1+1:=⟨i' - 1,by have:=L.ha;omega⟩;obtain⟨j1,rfl⟩:∃j1,j'=j1+1:=⟨j' - 1,by have:=L.hb;omega⟩;have ha2:=L.ha;have hb2:=L.hb;simp only [add_sub_cancel];obtain⟨x,ea,ea',ma⟩:=cZ (a:=a) (i:=i1) (by omega);obtain⟨y,eb,eb',mb⟩:=cZ (a:=b) (i:=j1) (by omega);refine wpS_bind (cW eb (wpS_bind (cW ea (wpS_bind (O _ _ _ _ (m.xb y mb) (m.xa x ma) hk ?_)))));dsimp only
   cases hr:r y x with
   |true=>
    rw [if_pos rfl];refine wpS_bind (cW ea ?_);have L1:=ga L.mg ea' eb' (m.as _ _ hr);by_cases f1:(i1==0)=true
    ·rw [if_pos f1];exact wpS_pure ⟨rfl,.inl ⟨_,_,rfl,Lh.fa m L1 f1⟩⟩
    ·rw [if_neg f1];have L2:Lh r a b (o.push x) i1 (j1+1):=⟨L1,by have:¬i1=0:=fun q=>f1 (by rw [q];rfl);omega,hb2⟩
     split
     ·exact wpS_pure ⟨rfl,.inr ⟨_,_,_,_,_,rfl,L2,by omega⟩⟩
     ·exact wpS_pure ⟨rfl,_,_,_,_,_,rfl,L2,by omega⟩
   |false=>
    rw [if_neg (by decide)];refine wpS_bind (cW eb ?_);have L1:=gb L.mg ea' eb' hr;by_cases f1:(j1==1)=true
    ·rw [if_pos f1];exact wpS_pure ⟨rfl,.inl ⟨_,_,rfl,Lh.one m L1 f1⟩⟩
    ·rw [if_neg f1];have L2:Lh r a b (o.push y) (i1+1) j1:=⟨L1,ha2,by have:¬j1=1:=fun q=>f1 (by rw [q];rfl);omega⟩
     split
     ·exact wpS_pure ⟨rfl,.inr ⟨_,_,_,_,_,rfl,L2,by omega⟩⟩
     ·exact wpS_pure ⟨rfl,_,_,_,_,_,rfl,L2,by omega⟩
  ·rintro c _ ⟨rfl,o,i',j',ac,bc,rfl,L,hx⟩;exact⟨rfl,.inr ⟨_,_,_,_,_,rfl,L,by omega⟩⟩
  ·rintro c _ ⟨rfl,⟨l,w,rfl,hl⟩| ⟨o,i',j',ac,bc,rfl,L,hx'⟩⟩
   ·exact wpS_pure ⟨g,l,_,rfl,rfl,hl⟩
   dsimp only
   refine wpS_bind (wpS_lift (wpAny_rule ⟨rfl,?_⟩));refine wpS_bind (wpS_mono (wpS_forRange
    (I:=fun _ c st'=> ∃g o i2 j2 mg ac bc,st'=sg st g/\c=(none,i2,j2,o,mg,ac,bc)/\Lh r a b o i2 j2/\i2+j2<=i'+j')
    (Q:=fun c st'=> ∃g,st'=sg st g/\((∃l w,c=(some l,w)/\Md (Le r) a.toList b.toList l.toList)\/ ∃o i2 j2 mg ac bc,c=(none,i2,j2,o,mg,ac,bc)/\Lh r a b o i2 j2/\i2+j2<=i'+j')) ?_ ?_ ⟨g,_,_,_,_,_,_,rfl,rfl,L,by omega⟩) ?_)
   ·rintro X c _ _ hX ⟨g,o,i2,j2,mg,ac,bc,rfl,rfl,L,hx2⟩;dsimp only
    have ha2:=L.ha;have hb2:=L.hb;obtain⟨j1,rfl⟩:∃j1,j2=j1+1:=⟨j2 - 1,by omega⟩;simp only [add_sub_cancel];obtain⟨y,eb,eb',mb⟩:=cZ (a:=b) (i:=j1) (by omega)
    revert mg
    refine tW (fun _=>rfl) fun mg=> ?_;refine wpS_bind (wpS_modify ?_);refine wpS_bind (cW eb (wpS_bind (jM O hk ((uG (i:=0) m.tr m.sa m.xa (m.xb y mb)).le (n':=i2) (by omega)) (by omega) fun k k1 k2 k3=> ?_)));dsimp only
    simp only [zero_add]at k2 k3;have La:Mh (Le r) a.toList b.toList (o++(a.extract k i2).reverse).toList k (j1+1):=by
     rw [Array.toList_append,Array.toList_reverse,gY];refine Mh.as m.sa (i2 - k) k (by rw [show k+(i2 - k)=i2 by omega];exact L.mg) (by rw [len];omega) fun q x h1 h2 e=>mI m.tr m.sb eb' ?_;have:=k3 q h1 (by omega);have e':a[q]?=some x:=by rw [←Array.getElem?_toList];exact e
     rw [e']at this;exact m.as _ _ (by simpa using this)
    have low:∀x,1<=k->a.toList[k - 1]?=some x->Le r x y:=fun x hl e=>by
     have:=k2 (k - 1) (by omega);have e':a[k - 1]?=some x:=by rw [←Array.getElem?_toList];exact e
     rw [e']at this;unfold Le;simpa using this
    generalize hkk:i2 - k=kk;obtain⟨o9,ho9⟩:∃o9,o9=o:=⟨_,rfl⟩;obtain⟨i9,hi9⟩:∃i9,i9=i2:=⟨_,rfl⟩;rw [←ho9,←hi9]
    revert o9 i9
    refine mX (fun(o3:Array Keyed) (i3:Nat)=>Mh (Le r) a.toList b.toList o3.toList i3 (j1+1)/\(1<=i3/\i3<=a.size)/\i3+(j1+1)<=i'+j'/\∀x,a.toList[i3 - 1]?=some x->Le r x y) (fun hk0=> ⟨L.mg,ha2,hx2,fun x e=>low x (by omega) (by rw [show k=i2 by omega];exact e)⟩) (fun o3 i3 ⟨L3,h3,h4,h5⟩=> ?_) fun hk0 key=> ?_
    rotate_left
    ·by_cases f1:(k==0)=true
     ·rw [if_pos f1];exact wpS_pure ⟨_,rfl,.inl ⟨_,_,rfl,Lh.fa m La f1⟩⟩
     rw [if_neg f1];have f1':¬k=0:=fun q=>f1 (by rw [q];rfl);exact key _ _ ⟨La,by omega,by omega,fun x e=>low x (by omega) e⟩
    obtain⟨i1,rfl⟩:∃i1,i3=i1+1:=⟨i3 - 1,by omega⟩;simp only [add_sub_cancel]at h5⊢;obtain⟨x,ea,ea',ma⟩:=cZ (a:=a) (i:=i1) (by omega);refine wpS_bind (cW eb ?_);have L4:=gb L3 ea' eb' (h5 x ea');by_cases f1:(j1==1)=true
    case pos=>rw [if_pos f1];exact wpS_pure ⟨_,rfl,.inl ⟨_,_,rfl,Lh.one m L4 f1⟩⟩
    rw [if_neg f1];have f1':¬j1=1:=fun q=>f1 (by rw [q];rfl);refine wpS_bind (cW ea (wpS_bind (jM O hk ((uY (i:=0) m.tr m.sb m.xb (m.xa x ma)).le (n':=j1) (by omega)) (by omega) fun k' p1 p2 p3=> ?_)));dsimp only
    generalize o3.push y=o5 at L4⊢;simp only [zero_add]at p2 p3;have Lb:Mh (Le r) a.toList b.toList (o5++(b.extract k' j1).reverse).toList (i1+1) k':=by
     rw [Array.toList_append,Array.toList_reverse,gY];refine(Mh.as m.sb (j1 - k') k' (by rw [show k'+(j1 - k')=j1 by omega];exact L4.sw) (by rw [len];omega) fun q z h1 h2 e=>mI m.tr m.sa ea' ?_).sw;have:=p3 q h1 (by omega);have e':b[q]?=some z:=by rw [←Array.getElem?_toList];exact e
     rw [e']at this;simpa [Le]using this
    have lob:∀z,1<=k'->b.toList[k' - 1]?=some z->Le r z x:=fun z hl e=>by
     have:=p2 (k' - 1) (by omega);have e':b[k' - 1]?=some z:=by rw [←Array.getElem?_toList];exact e
     rw [e']at this;exact m.as _ _ (by simpa using this)
    generalize hk9:j1 - k'=kk1;obtain⟨o9,ho9⟩:∃o9,o9=o5:=⟨_,rfl⟩;obtain⟨i9,hi9⟩:∃i9,i9=j1:=⟨_,rfl⟩;rw [←ho9,←hi9]
    revert o9 i9
    refine mX (fun(o4:Array Keyed) (j3:Nat)=>Mh (Le r) a.toList b.toList o4.toList (i1+1) j3/\(2<=j3/\j3<=b.size)/\i1+1+j3<=i'+j'/\∀z,b.toList[j3 - 1]?=some z->Le r z x) (fun hk1=> ⟨L4,by omega,by omega,fun z e=>lob z (by omega) (by rw [show k'=j1 by omega];exact e)⟩) (fun o4 j3 ⟨L5,h6,h7,h8⟩=> ?_) fun hk1 key=> ?_
    rotate_left
    ·by_cases f2:(k'==1)=true
     ·rw [if_pos f2];exact wpS_pure ⟨_,rfl,.inl ⟨_,_,rfl,Lh.one m Lb f2⟩⟩
     rw [if_neg f2];by_cases f3:(k'==0)=true
     ·rw [if_pos f3];exact wpS_pure ⟨_,rfl,.inl ⟨_,_,rfl,Lh.fb m Lb f3⟩⟩
     rw [if_neg f3];have f2':¬k'=1:=fun q=>f2 (by rw [q];rfl);have f3':¬k'=0:=fun q=>f3 (by rw [q];rfl);exact key _ _ ⟨Lb,by omega,by omega,fun z e=>lob z (by omega) e⟩
    obtain⟨j4,rfl⟩:∃j4,j3=j4+1:=⟨j3 - 1,by omega⟩;simp only [add_sub_cancel]at h8;obtain⟨z,ez,ez',mz⟩:=cZ (a:=b) (i:=j4) (by omega);refine wpS_bind (cW ea ?_);have L6:=ga L5 ea' ez' (h8 z ez');by_cases f2:(i1==0)=true
    case pos=>rw [if_pos f2];exact wpS_pure ⟨_,rfl,.inl ⟨_,_,rfl,Lh.fa m L6 f2⟩⟩
    rw [if_neg f2];have f2':¬i1=0:=fun q=>f2 (by rw [q];rfl);have L7:Lh r a b (o4.push x) i1 (j4+1):=⟨L6,by omega,h6⟩
    split
    ·exact wpS_pure ⟨_,rfl,.inr ⟨_,_,_,_,_,_,rfl,L7,by omega⟩⟩
    ·exact wpS_pure ⟨_,_,_,_,_,_,_,rfl,rfl,L7,by omega⟩
   ·rintro c _ ⟨g,o,i2,j2,mg,ac,bc,rfl,rfl,L,hx⟩;exact⟨g,rfl,.inr ⟨_,_,_,_,_,_,rfl,L,hx⟩⟩
   ·rintro c _ ⟨g,rfl,⟨l,w,rfl,hl⟩| ⟨o,i2,j2,mg,ac,bc,rfl,L,hx2⟩⟩
    ·exact wpS_pure ⟨g,l,_,rfl,rfl,hl⟩
    ·dsimp only
     exact wpS_bind (wpS_modify (wpS_pure ⟨_,_,_,_,_,rfl,rfl,L,by omega⟩))
 ·rintro c _ ⟨g,o,i,j,mg,rfl,rfl,L,hx⟩;have h1:=L.ha;have h2:=L.hb;omega
 ·rintro c _ ⟨g,l,w,rfl,rfl,hl⟩;exact wpS_pure (h l g hl)
end
theorem yG {α:Type}(sa:Nat):∀(l:List α)(n:Nat)(a:Array α),sa+n+l.length<=a.size->
  ((l.zipIdx n).foldl (fun a (p:α×Nat)=>a.setIfInBounds (sa+p.2) p.1) a).toList=a.toList.take (sa+n)++l++a.toList.drop (sa+n+l.length)
 | [],n,a,h=>by simp
 |x::l,n,a,h=>by
  have h':sa+n+(l.length+1)<=a.size:=h;show((l.zipIdx (n+1)).foldl _ (a.setIfInBounds (sa+n) x)).toList=_;rw [yG sa l (n+1) _ (by rw [Array.size_setIfInBounds];omega)];have e:(a.setIfInBounds (sa+n) x).toList=a.toList.set (sa+n) x:=by simp
  have hl:sa+n<a.toList.length:=by rw [Array.length_toList];omega
  rw [e];have e1:(a.toList.set (sa+n) x).take (sa+(n+1))=a.toList.take (sa+n)++[x]:=by
   rw [show sa+(n+1)=sa+n+1 by omega,iM (x:=x) (by rw [List.getElem?_set_self hl])];rw [List.take_set_of_le (zjQ _)]
  have e2:(a.toList.set (sa+n) x).drop (sa+(n+1)+l.length)=a.toList.drop (sa+n+(x::l).length):=by
   rw [List.drop_set_of_lt (by omega),length_cons];congr 1;omega
  rw [e1,e2];simp
theorem B1c {M:Model}{A:Around}{E:Value->Shared->Prop}{s:Shared}{Q:PUnit->SortSt->Prop}{st st':SortSt}(h:Q ⟨⟩ st'):wpS M A E s (set st':StateT SortSt Sem PUnit) Q st:=by unfold wpS;rw [StateT.run_set];exact zjY ⟨rfl,h⟩
section
variable {S:Keyed->Prop}{r:Keyed->Keyed->Bool}
noncomputable def bf (r:Keyed->Keyed->Bool)(left:Bool)(key:Keyed)(l:List Keyed)(i:Nat):Bool:=match l[i]? with
 |some x=>if left=true then r x key else !r key x
 |none=>false
theorem tU {left:Bool}{key:Keyed}{ar:Array Keyed}{base n:Nat}{l:List Keyed}(tr:∀x y z,Le r x y->Le r y z->Le r x z)(sl:l.Pairwise (Le r))(g:∀i,i<n->ar[base+i]?=l[i]?)(hn:l.length=n)(hk:S key)(hS:∀x∈l,S x):Bey S r left key ar base n (bf r left key l):=by
 refine⟨fun i hi=> ?_,fun i j hij hj hb=> ?_,hk⟩
 ·have e:l[i]?=some l[i]:=getElem?_eq_getElem (by omega);exact⟨l[i],(g i hi).trans e,hS _ (getElem_mem _),by unfold bf;rw [e]⟩
 ·rcases eq_or_lt_of_le hij with rfl|hlt
  ·exact hb
  have ei:l[i]?=some l[i]:=getElem?_eq_getElem (by omega);have ej:l[j]?=some l[j]:=getElem?_eq_getElem (by omega);have q:Le r l[i] l[j]:=pairwise_iff_getElem.mp sl i j (by omega) (by omega) hlt;unfold bf at hb⊢;rw [ej]at hb;rw [ei];cases left with
  |true=>
   simp only [if_true]at hb⊢;cases h3:r l[i] key with
   |true=>rfl
   |false=>
    have q3:Le r key l[j]:=tr _ _ _ h3 q;unfold Le at q3;rw [q3]at hb;exact nomatch hb
  |false=>
   simp only [Bool.false_eq_true,if_false]at hb⊢;have q2:Le r l[j] key:=by unfold Le;simpa using hb
   have q3:Le r l[i] key:=tr _ _ _ q q2;unfold Le at q3;simp [q3]
end
noncomputable def mga:Nat->StateT SortSt Sem Bool:=mergeAt'
section
variable {M:Model}{A:Around}{E:Value->Shared->Prop}{s:Shared}{S:Keyed->Prop}{r:Keyed->Keyed->Bool}{κ:SortKind}
end
noncomputable def at' (a:Array Keyed)(i:Nat):Keyed:=(a[i]?).getD (Value.none,Value.none)
theorem oS {a:Array Keyed}{i:Nat}(h:i<a.size):a[i]?=some (at' a i):=by unfold at';simp [h]
theorem xX {a:Array Keyed}{i:Nat}(h:i<a.size):at' a i∈a.toList:=by have:=oS h;rw [←Array.getElem?_toList]at this;exact mem_of_getElem? this
section
variable {M:Model}{A:Around}{E:Value->Shared->Prop}{s:Shared}{S:Keyed->Prop}{r:Keyed->Keyed->Bool}{κ:SortKind}{st:SortSt}{a:Array Keyed}{lo nrem n:Nat}
theorem nQ {i j:Nat}{Q:Option Bool->SortSt->Prop}(O:Oc M A E s κ S r)(hk:kindOf st=κ)(hS:∀x∈(arrOf st).toList,S x)(hi:i<(arrOf st).size)(hj:j<(arrOf st).size)(h:Q (some (r (at' (arrOf st) i) (at' (arrOf st) j))) st):wpS M A E s (ltAt' i j) Q st:=by rw [ltAt'_eq];refine wpS_bind (wpS_get ?_);exact wpS_bind (cW (oS hi) (wpS_bind (cW (oS hj) (O _ _ _ _ (hS _ (xX hi)) (hS _ (xX hj)) hk h))))
theorem A76 {i j:Nat}{Q:Unit->SortSt->Prop}(h:Q () (setArr st (mirror (arrOf st) i j ((j - i)/2)))):wpS M A E s (reverseSlice' i j) Q st:=by rw [reverseSlice'_eq];exact wpS_modify h
noncomputable def Up (r:Keyed->Keyed->Bool)(a:Array Keyed)(lo n:Nat):Prop:=∀i,lo+1<=i->i<lo+n->r (at' a i) (at' a (i - 1))=false
theorem uP {f:Nat->Option (Option Nat)×Nat->StateT SortSt Sem (ForInStep (Option (Option Nat)×Nat))}{Q:Option (Option Nat)×Nat->SortSt->Prop}(h1:1<=n)(hn:n<=nrem)(U:Up r a lo n)
  (hf:∀x m (R:ForInStep (Option (Option Nat)×Nat)->SortSt->Prop),1<=m->m<nrem->(r (at' a (lo+m)) (at' a (lo+m - 1))=true->R (.done (none,m)) st)->(r (at' a (lo+m)) (at' a (lo+m - 1))=false->R (.yield (none,m+1)) st)->wpS M A E s (f x (none,m)) R st)
  (h:∀m,n<=m->m<=nrem->Up r a lo m->(m=nrem\/r (at' a (lo+m)) (at' a (lo+m - 1))=true)->Q (none,m) st):wpS M A E s (forIn [n:nrem] (none,n) f) Q st:=by
 refine wpS_mono (wpS_forRange (I:=fun x c st'=>st'=st/\c=(none,x)/\x<=nrem/\n<=x/\Up r a lo x) (Q:=fun c st'=>st'=st/\∃m,c=(none,m)/\n<=m/\m<=nrem/\Up r a lo m/\(m=nrem\/r (at' a (lo+m)) (at' a (lo+m - 1))=true)) ?_ ?_ ⟨rfl,rfl,hn,zjQ _,U⟩) ?_
 ·rintro x c _ h2 h3 ⟨rfl,rfl,h4,h5,U'⟩;refine hf x x _ (by omega) h3 (fun q=> ⟨rfl,x,rfl,h5,h4,U',.inr q⟩) fun q=> ⟨rfl,rfl,by omega,by omega,fun i h6 h7=> ?_⟩;rcases lt_or_ge i (lo+x)with h8|h8
  ·exact U' i h6 h8
  ·obtain rfl:i=lo+x:=by omega
   exact q
 ·rintro c _ ⟨rfl,rfl,h4,h5,U'⟩;exact⟨rfl,_,rfl,h5,h4,U',.inl (by omega)⟩
 ·rintro c _ ⟨rfl,m,rfl,h4,h5,U',h6⟩;exact h m h4 h5 U' h6
theorem Up.le (tr:∀x y z,Le r x y->Le r y z->Le r x z)(U:Up r a lo n):∀d i,lo<=i->i+d+1<lo+n->Le r (at' a i) (at' a (i+d+1))
 |0,i,h1,h2=>U (i+1) (by omega) (by omega)
 |d+1,i,h1,h2=>tr _ _ _ (Up.le tr U d i h1 (by omega)) (U (i+d+2) (by omega) (by omega))
noncomputable def Di (r:Keyed->Keyed->Bool)(a:Array Keyed):Prop:=∀i j,i<j->j<a.size->r (at' a i) (at' a j)=true\/r (at' a j) (at' a i)=true
theorem A3u {Q:Option Nat->SortSt->Prop}(O:Oc M A E s κ S r)(hk:kindOf st=κ)(ha:arrOf st=a)(hS:∀x∈a.toList,S x)(D:Di r a)(tr:∀x y z,Le r x y->Le r y z->Le r x z)(as:∀x y,r x y=true->Le r x y)(h1:1<=nrem)(hz:lo+nrem<=a.size)
  (h:∀m a',1<=m->m<=nrem->a'.Perm a->(∀i,i<lo->a'[i]?=a[i]?)->Up r a' lo m->Q (some m) (setArr st a')):wpS M A E s (countRun' lo nrem) Q st:=by
 have step:∀{st:SortSt}{a:Array Keyed}(m:Nat){R:Option Bool->SortSt->Prop},kindOf st=κ->arrOf st=a->(∀x∈a.toList,S x)->lo+nrem<=a.size->1<=m->m<nrem->R (some (r (at' a (lo+m)) (at' a (lo+m - 1)))) st->wpS M A E s (ltAt' (lo+m) (lo+m - 1)) R st:=by
  intro st a m R hk ha hS hz h1 h2 hR;subst ha;exact nQ O hk hS (by omega) (by omega) hR
 have same:setArr st a=st:=by subst ha;rfl
 refine wpS_bind (uP (a:=a) (lo:=lo) (r:=r) (zjQ 1) h1 (fun i h2 h3=>by omega) (fun x m R m1 m2 r1 r2=> ?_) fun m m1 m2 U mx=> ?_)
 ·refine wpS_bind (step m hk ha hS hz m1 m2 ?_);cases hr:r (at' a (lo+m)) (at' a (lo+m - 1))with
  |true=>exact wpS_pure (r1 hr)
  |false=>exact wpS_pure (r2 hr)
 dsimp only
 by_cases f1:(m==nrem)=true
 ·rw [if_pos f1];have q:=h m a m1 m2 (Array.Perm.refl _) (fun _ _=>rfl) U;rw [same]at q;exact wpS_pure q
 rw [if_neg f1];have f1':¬m=nrem:=fun q=>f1 (by rw [q];exact beq_self_eq_true _);by_cases f2:m>1
 ·rw [if_pos f2];refine wpS_bind (nQ O hk (by rw [ha];exact hS) (by rw [ha];omega) (by rw [ha];omega) ?_);rw [ha];have q1:Le r (at' a lo) (at' a (lo+m - 1)):=by
   have:=Up.le tr U (m - 2) lo (zjQ _) (by omega);rw [show lo+(m - 2)+1=lo+m - 1 by omega]at this;exact this
  have q2:r (at' a lo) (at' a (lo+m - 1))=true:=(D lo (lo+m - 1) (by omega) (by omega)).elim id fun q=>by unfold Le at q1;rw [q1]at q;exact nomatch q
  rw [q2];have q:=h m a m1 m2 (Array.Perm.refl _) (fun _ _=>rfl) U;rw [same]at q;exact wpS_pure q
 rw [if_neg f2];obtain rfl:m=1:=by omega
 have d1:r (at' a (lo+1)) (at' a lo)=true:=mx.elim (fun q=>absurd q f1') fun q=>by rw [show lo+1 - 1=lo by omega]at q;exact q
 refine wpS_bind (wpS_lift (wpAny_rule ⟨rfl,?_⟩));refine wpS_bind (wpS_mono (wpS_forRange (I:=fun x c st'=>st'=st/\c=(none,x,0)/\x<=nrem/\2<=x/\∀i,lo+1<=i->i<lo+x->r (at' a i) (at' a (i - 1))=true)
  (Q:=fun c st'=>st'=st/\∃x,c=(none,x,0)/\x<=nrem/\2<=x/\∀i,lo+1<=i->i<lo+x->r (at' a i) (at' a (i - 1))=true) ?_ ?_ ⟨rfl,rfl,by omega,zjQ _,fun i h3 h4=> ?_⟩) ?_)
 ·rintro x c _ h3 h4 ⟨rfl,rfl,h5,h6,V⟩;dsimp only
  refine wpS_bind (step x hk ha hS hz (by omega) h4 ?_);cases hr:r (at' a (lo+x)) (at' a (lo+x - 1))with
  |true=>
   refine wpS_pure ⟨rfl,rfl,by omega,by omega,fun i h7 h8=> ?_⟩;rcases lt_or_ge i (lo+x)with h9|h9
   ·exact V i h7 h9
   ·obtain rfl:i=lo+x:=by omega
    exact hr
  |false=>
   refine wpS_bind (nQ O hk (by rw [ha];exact hS) (by rw [ha];omega) (by rw [ha];omega) ?_);rw [ha];have q2:r (at' a (lo+x - 1)) (at' a (lo+x))=true:=(D (lo+x - 1) (lo+x) (by omega) (by omega)).elim id fun q=>by rw [hr]at q;exact nomatch q
   rw [q2];exact wpS_pure ⟨rfl,x,rfl,h5,h6,V⟩
 ·rintro c _ ⟨rfl,rfl,h5,h6,V⟩;exact⟨rfl,_,rfl,h5,h6,V⟩
 ·obtain rfl:i=lo+1:=by omega
  rw [show lo+1 - 1=lo by omega];exact d1
 rintro c st ⟨rfl,x,rfl,h5,h6,V⟩;dsimp only
 rw [if_neg (by omega)];refine wpS_bind (A76 ?_);have eM:∀k,(mirror (arrOf st) lo (lo+x) ((lo+x - lo)/2))[k]?=if lo<=k/\k<lo+x then a[lo+(lo+x) - 1 - k]? else a[k]?:=fun k=>by
  rw [ha];exact getElem?_mirror_all (by omega) k
 have pM:(mirror (arrOf st) lo (lo+x) ((lo+x - lo)/2)).Perm a:=by rw [ha];exact mirror_perm _ _ _ _
 generalize mirror (arrOf st) lo (lo+x) ((lo+x - lo)/2)=a' at eM pM⊢;have zM:a'.size=a.size:=pM.size_eq;have U':Up r a' lo x:=fun i h7 h8=>by
  have e1:at' a' i=at' a (lo+(lo+x) - 1 - i):=by unfold at';rw [eM i,if_pos ⟨by omega,by omega⟩]
  have e2:at' a' (i - 1)=at' a (lo+(lo+x) - 1 -(i - 1)):=by unfold at';rw [eM (i - 1),if_pos ⟨by omega,by omega⟩]
  have q:=V (lo+(lo+x) - 1 -(i - 1)) (by omega) (by omega);rw [show lo+(lo+x) - 1 -(i - 1) - 1=lo+(lo+x) - 1 - i by omega]at q;rw [e1,e2];exact as _ _ q
 have hS':∀y∈a'.toList,S y:=fun y hy=>hS y (pM.toList.mem_iff.mp hy);refine wpS_bind (uP (st:=setArr st a') (a:=a') (lo:=lo) (r:=r) (by omega) h5 U' (fun z m R m1 m2 r1 r2=> ?_) fun m m1 m2 U2 _=> ?_)
 ·refine wpS_bind (step (st:=setArr st a') (a:=a') m hk rfl hS' (by rw [zM];exact hz) m1 m2 ?_);cases hr:r (at' a' (lo+m)) (at' a' (lo+m - 1))with
  |true=>exact wpS_pure (r1 hr)
  |false=>exact wpS_pure (r2 hr)
 ·exact wpS_pure (h m a' (by omega) m2 pM (fun i hi=>by rw [eM i,if_neg (by omega)]) U2)
end
section
variable {M:Model}{A:Around}{E:Value->Shared->Prop}{s:Shared}{S:Keyed->Prop}{r:Keyed->Keyed->Bool}{κ:SortKind}{st:SortSt}{a:Array Keyed}{lo n ok:Nat}
theorem A1i {i j:Nat}{Q:Unit->SortSt->Prop}(h:Q () (setArr st (bubble (arrOf st) i (i - j)))):wpS M A E s (moveDown' i j) Q st:=by rw [moveDown'_eq];exact wpS_modify h
theorem A9w {i j:Nat}{Q:Option Bool->SortSt->Prop}(ha:arrOf st=a)(O:Oc M A E s κ S r)(hk:kindOf st=κ)(hS:∀x∈a.toList,S x)(hi:i<a.size)(hj:j<a.size)(h:Q (some (r (at' a i) (at' a j))) st):wpS M A E s (ltAt' i j) Q st:=by subst ha;exact nQ O hk hS hi hj h
theorem Up.le' (tr:∀x y z,Le r x y->Le r y z->Le r x z)(U:Up r a lo n){i j:Nat}(h1:lo<=i)(h2:i<j)(h3:j<lo+n):Le r (at' a i) (at' a j):=by have:=Up.le tr U (j - i - 1) i h1 (by omega);rw [show i+(j - i - 1)+1=j by omega]at this;exact this
theorem B1t {Q:Bool->SortSt->Prop}(O:Oc M A E s κ S r)(hk:kindOf st=κ)(ha:arrOf st=a)(hS:∀x∈a.toList,S x)(tr:∀x y z,Le r x y->Le r y z->Le r x z)(as:∀x y,r x y=true->Le r x y)(hn:1<=n)(hok:ok<=n)(hz:lo+n<=a.size)(U:Up r a lo ok)
  (h:∀a',a'.Perm a->(∀i,i<lo->a'[i]?=a[i]?)->Up r a' lo n->Q true (setArr st a')):wpS M A E s (binarySort' lo n ok) Q st:=by
 have same:setArr st a=st:=by subst ha;rfl
 refine wpS_bind (wpS_mono (wpS_forRange (I:=fun x c st'=> ∃a',st'=setArr st a'/\c=(none,())/\a'.Perm a/\(∀i,i<lo->a'[i]?=a[i]?)/\Up r a' lo x)
  (Q:=fun c st'=> ∃a',st'=setArr st a'/\c=(none,())/\a'.Perm a/\(∀i,i<lo->a'[i]?=a[i]?)/\Up r a' lo n) ?_ ?_ ⟨a,same.symm,rfl,Array.Perm.refl _,fun _ _=>rfl,fun i h1 h2=> ?_⟩) ?_)
 ·rintro k c _ h1 h2 ⟨b,rfl,rfl,pb,fb,V⟩;have zb:b.size=a.size:=pb.size_eq;have Sb:∀y∈b.toList,S y:=fun y hy=>hS y (pb.toList.mem_iff.mp hy);dsimp only
  refine wpS_bind (wpS_mono (wpS_forRange (I:=fun x c st'=>st'=setArr st b/\∃l e,c=(none,l,e)/\l<=e/\e<=k/\(∀i,i<l->r (at' b (lo+k)) (at' b (lo+i))=false)/\(∀i,e<=i->i<k->r (at' b (lo+k)) (at' b (lo+i))=true)/\e - l+x<=k)
   (Q:=fun c st'=>st'=setArr st b/\∃l e,c=(none,l,e)/\l<=k/\(∀i,i<l->r (at' b (lo+k)) (at' b (lo+i))=false)/\(∀i,l<=i->i<k->r (at' b (lo+k)) (at' b (lo+i))=true)) ?_ ?_ ⟨rfl,0,k,rfl,zero_le _,zjQ _,fun i hi=>absurd hi (Nat.not_lt_zero _),fun i h3 h4=>by omega,by omega⟩) ?_)
  ·rintro x c _ _ hx ⟨rfl,l,e,rfl,g1,g2,g3,g4,g5⟩;dsimp only
   by_cases f1:l≥e
   ·rw [if_pos f1];exact wpS_pure ⟨rfl,l,e,rfl,by omega,g3,fun i h3 h4=>g4 i (by omega) h4⟩
   rw [if_neg f1];refine wpS_bind (A9w (st:=setArr st b) (a:=b) (i:=lo+k) (j:=lo+(l+e)/2) rfl O hk Sb (by omega) (by omega) ?_);cases hr:r (at' b (lo+k)) (at' b (lo+(l+e)/2))with
   |true=>
    refine wpS_pure ⟨rfl,l,_,rfl,by omega,by omega,g3,fun i h3 h4=> ?_,by omega⟩;rcases eq_or_lt_of_le h3 with rfl|h5
    ·exact hr
    ·have q:=Up.le' tr V (i:=lo+(l+e)/2) (j:=lo+i) (by omega) (by omega) (by omega);cases hc:r (at' b (lo+k)) (at' b (lo+i))with
     |true=>rfl
     |false=>have q2:=tr _ _ _ q hc;unfold Le at q2;rw [q2]at hr;exact nomatch hr
   |false=>
    refine wpS_pure ⟨rfl,_,e,rfl,by omega,g2,fun i h3=> ?_,g4,by omega⟩;rcases lt_or_ge i ((l+e)/2)with h5|h5
    ·exact tr _ _ _ (Up.le' tr V (i:=lo+i) (j:=lo+(l+e)/2) (by omega) (by omega) (by omega)) hr
    ·obtain rfl:i=(l+e)/2:=by omega
     exact hr
  ·rintro c _ ⟨rfl,l,e,rfl,g1,g2,g3,g4,g5⟩;exact⟨rfl,l,e,rfl,by omega,g3,fun i h3 h4=>g4 i (by omega) h4⟩
  ·rintro c _ ⟨rfl,l,e,rfl,g1,g3,g4⟩;dsimp only
   refine wpS_bind (A1i (wpS_pure ?_));have eB:∀j,(bubble b (lo+k) (k - l))[j]?=if j=lo+l then b[lo+k]? else if lo+l<j/\j<=lo+k then b[j - 1]? else b[j]?:=fun j=>by
    have:=getElem?_bubble (xs:=b) (src:=lo+k) (by omega) (k - l) (by omega) j;rw [show lo+k -(k - l)=lo+l by omega]at this;exact this
   refine⟨bubble b (lo+k) (k - l),?_,rfl,(bubble_perm _ _ _).trans pb,fun i hi=> ?_,fun i h3 h4=> ?_⟩
   ·show setArr st (bubble b (lo+k) (lo+k -(lo+l)))=_;rw [show lo+k -(lo+l)=k - l by omega]
   ·rw [eB i,if_neg (by omega),if_neg (by omega)];exact fb i hi
   ·have ev:∀j,at' (bubble b (lo+k) (k - l)) j=if j=lo+l then at' b (lo+k)else if lo+l<j/\j<=lo+k then at' b (j - 1)else at' b j:=fun j=>by
     unfold at';rw [eB j];split;rfl;split;rfl;rfl
    rw [ev i,ev (i - 1)];by_cases c1:i=lo+l
    ·rw [if_pos c1,if_neg (by omega),if_neg (by omega),show i - 1=lo+(l - 1) by omega];exact g3 (l - 1) (by omega)
    rw [if_neg c1];by_cases c2:i<lo+l
    ·rw [if_neg (by omega),if_neg (by omega),if_neg (by omega)];exact V i h3 (by omega)
    rw [if_pos ⟨by omega,by omega⟩];by_cases c3:i - 1=lo+l
    ·rw [if_pos c3,c3];exact as _ _ (g4 l (zjQ _) (by omega))
    ·rw [if_neg c3,if_pos ⟨by omega,by omega⟩];exact V (i - 1) (by omega) (by omega)
 ·rintro c _ ⟨b,rfl,rfl,pb,fb,V⟩;exact⟨b,rfl,rfl,pb,fb,fun i h1 h2=>V i h1 (by omega)⟩
 ·rcases lt_or_ge ok 1 with h3|h3
  ·omega
  ·exact U i h1 (by omega)
 ·rintro c _ ⟨b,rfl,rfl,pb,fb,V⟩;exact wpS_pure (h b pb fb V)
end
section
variable {M:Model}{A:Around}{E:Value->Shared->Prop}{s:Shared}{S:Keyed->Prop}{r:Keyed->Keyed->Bool}{κ:SortKind}
theorem A5x {st:SortSt}{Q:Bool->SortSt->Prop}{i sa n1 n2 p q:Nat}{pre la lb post:List Keyed}(O:Oc M A E s κ S r)(hk:kindOf st=κ)(hp1:(pendingOf st)[i]?=some (sa,n1,p))(hp2:(pendingOf st)[i+1]?=some (sa+n1,n2,q))(hf:failedOf st=none)(ea:(arrOf st).toList=pre++(la++(lb++post)))(h0:pre.length=sa)(h1:la.length=n1)(h2:lb.length=n2)(n1p:1<=n1)(n2p:1<=n2)
  (tr:∀x y z,Le r x y->Le r y z->Le r x z)(as:∀x y,r x y=true->Le r x y)(sl:la.Pairwise (Le r))(sb:lb.Pairwise (Le r))(hS:∀x∈(arrOf st).toList,S x)
  (h:∀st' m,(arrOf st').toList=pre++(m++post)->m.Perm (la++lb)->m.Pairwise (Le r)->kindOf st'=κ->pendingOf st'=((pendingOf st).setIfInBounds i (sa,n1+n2,p)).eraseIdxIfInBounds (i+1)->failedOf st'=none->Q true st'):wpS M A E s (mga i) Q st:=by
 obtain⟨kd,ar,pd,gp,fl⟩:=st;have hp1:pd[i]?=some (sa,n1,p):=hp1;have hp2:pd[i+1]?=some (sa+n1,n2,q):=hp2;have hf:fl=none:=hf;have hk:kd=κ:=hk;have ea:ar.toList=pre++(la++(lb++post)):=ea;have sE:∀x∈ar.toList,S x:=hS;subst hf hk;have hz:ar.size=sa+n1+n2+post.length:=by rw [←Array.length_toList,ea,length_append,length_append,length_append,h0,h1,h2];omega
 have hSa:∀x∈la,S x:=fun x hx=>sE x (by rw [ea];exact mem_append_right _ (mem_append_left _ hx));have hSb:∀x∈lb,S x:=fun x hx=>sE x (by rw [ea];exact mem_append_right _ (mem_append_right _ (mem_append_left _ hx)));refine wpS_bind (wpS_get ?_);dsimp only
 rw [hp1,hp2];dsimp only
 refine wpS_bind (B1c ?_);obtain⟨b0,eb,eb',mb⟩:=cZ (a:=ar) (i:=sa+n1) (by omega);refine wpS_bind (cW eb ?_);have ga:∀i,i<n1->ar[sa+i]?=la[i]?:=fun i hi=>by
  rw [←Array.getElem?_toList,ea,getElem?_append_right (by omega),getElem?_append_left (by omega)];congr 1;omega
 have gb:∀i,i<n2->ar[sa+n1+i]?=lb[i]?:=fun i hi=>by
  rw [←Array.getElem?_toList,ea,getElem?_append_right (by omega),getElem?_append_right (by omega),getElem?_append_left (by omega)];congr 1;omega
 have eb0:lb[0]?=some b0:=by rw [←gb 0 (by omega)];exact eb
 have done:(∀x∈la,Le r x b0)->Q true (SortSt.mk' kd ar ((pd.setIfInBounds i (sa,n1+n2,p)).eraseIdxIfInBounds (i+1)) gp none):=fun hx=>by
  refine h _ (la++lb) (by show ar.toList=_;rw [ea,append_assoc]) (List.Perm.refl _) ?_ rfl rfl rfl;exact pairwise_append.mpr ⟨sl,sb,fun x hx' y hy=>iT tr sb eb0 (hx x hx') y (by rw [drop_zero];exact hy)⟩
 refine wpS_bind (jM O hk.symm (tU tr sl ga h1 (sE b0 mb) hSa) n1p fun k k1 k2 k3=> ?_);dsimp only
 have lowk:∀x∈la.take k,Le r x b0:=fun x hx=>by
  obtain⟨i,hi,e⟩:=mem_iff_getElem.mp hx;have hi':i<k:=by rw [length_take]at hi;omega
  have:=k2 i hi';have e':la[i]?=some x:=by rw [getElem_take]at e;rw [←e];exact getElem?_eq_getElem _
  unfold bf at this;rw [e']at this;unfold Le;simpa using this
 have upk:∀x∈la.drop k,Le r b0 x:=fun x hx=>by
  obtain⟨i,hi,e⟩:=mem_iff_getElem.mp hx;have hi':k+i<n1:=by rw [length_drop]at hi;omega
  have:=k3 (k+i) (by omega) hi';have e':la[k+i]?=some x:=by rw [getElem_drop]at e;rw [←e];exact getElem?_eq_getElem _
  unfold bf at this;rw [e']at this;exact as _ _ (by simpa using this)
 by_cases f1:(n1 - k==0)=true
 ·rw [if_pos f1];have f1':n1 - k=0:=by simpa using f1
  exact wpS_pure (done fun x hx=>lowk x (by rw [take_of_length_le (by omega)];exact hx))
 rw [if_neg f1];have f1':¬n1 - k=0:=fun q=>f1 (by rw [q];rfl);obtain⟨ky,ek,ek',mk⟩:=cZ (a:=ar) (i:=sa+k+(n1 - k) - 1) (by omega);have eka:la[n1 - 1]?=some ky:=by rw [←ga (n1 - 1) (by omega),show sa+(n1 - 1)=sa+k+(n1 - k) - 1 by omega];exact ek
 have allk:∀x∈la,Le r x ky\/x=ky:=fun x hx=>by
  have st:=sl;have e0:la=la.take (n1 - 1)++[ky]:=by rw [←iM eka,show n1 - 1+1=n1 by omega,take_of_length_le (by omega)]
  rw [e0]at st hx;rcases mem_append.mp hx with hx|hx
  ·exact .inl ((pairwise_append.mp st).2.2 x hx ky zjR)
  ·exact .inr (by simpa using hx)
 refine wpS_bind (cW ek (wpS_bind (jM O hk.symm (tU tr sb gb h2 (sE ky mk) hSb) (by omega) fun nb b1 b2 b3=> ?_)));dsimp only
 have lowb:∀y∈lb.take nb,Le r y ky:=fun y hy=>by
  obtain⟨i,hi,e⟩:=mem_iff_getElem.mp hy;have hi':i<nb:=by rw [length_take]at hi;omega
  have:=b2 i hi';have e':lb[i]?=some y:=by rw [getElem_take]at e;rw [←e];exact getElem?_eq_getElem _
  unfold bf at this;rw [e']at this;exact as _ _ (by simpa using this)
 have upb:∀y∈lb.drop nb,Le r ky y:=fun y hy=>by
  obtain⟨i,hi,e⟩:=mem_iff_getElem.mp hy;have hi':nb+i<n2:=by rw [length_drop]at hi;omega
  have:=b3 (nb+i) (by omega) hi';have e':lb[nb+i]?=some y:=by rw [getElem_drop]at e;rw [←e];exact getElem?_eq_getElem _
  unfold bf at this;rw [e']at this;simpa [Le]using this
 by_cases f2:(nb==0)=true
 ·rw [if_pos f2];have f2':nb=0:=by simpa using f2
  have q0:Le r ky b0:=upb b0 (by rw [f2',drop_zero];exact mem_of_getElem? eb0);exact wpS_pure (done fun x hx=>(allk x hx).elim (fun q=>tr _ _ _ q q0) fun q=>by rw [q];exact q0)
 rw [if_neg f2];have f2':¬nb=0:=fun q=>f2 (by rw [q];rfl);have xa:(ar.extract (sa+k) (sa+n1)).toList=la.drop k:=by
  rw [gY,ea,←h0,List.drop_append,drop_of_length_le (by omega),nil_append,show pre.length+k - pre.length=k by omega,List.drop_append_of_le_length (by omega),List.take_append_of_le_length (by rw [length_drop];omega),take_of_length_le (by rw [length_drop];omega)]
 have xb:(ar.extract (sa+n1) (sa+n1+nb)).toList=lb.take nb:=by
  rw [gY,ea,←append_assoc,show sa+n1=(pre++la).length by rw [length_append,h0,h1],List.drop_left,List.take_append_of_le_length (by omega)];congr 1;omega
 have mi:Mi S r (ar.extract (sa+k) (sa+n1)) (ar.extract (sa+n1) (sa+n1+nb)):=by
  refine⟨tr,as,?_,?_,?_,?_,?_,?_,?_,?_⟩
  ·rw [xa];exact sl.sublist (drop_sublist _ _)
  ·rw [xb];exact sb.sublist (take_sublist _ _)
  ·rw [xa];exact fun x hx=>hSa x (mem_of_mem_drop hx)
  ·rw [xb];exact fun x hx=>hSb x (mem_of_mem_take hx)
  ·rw [←len,xa,length_drop];omega
  ·rw [←len,xb,length_take];omega
  ·rw [xa,xb];intro x hx y hy;have:y=b0:=by rw [List.getElem?_take_of_lt (by omega),eb0]at hy;exact(Option.some.inj hy).symm
   rw [this];exact upk x hx
  ·rw [←len,xa,xb];intro y hy x hx;have:x=ky:=by
    rw [getElem?_drop,length_drop,show k+(la.length - k - 1)=n1 - 1 by omega,eka]at hx;exact(Option.some.inj hx).symm
   rw [this];exact lowb y hy
 have fin:∀(l:Array Keyed)(g:Nat),Md (Le r) (ar.extract (sa+k) (sa+n1)).toList (ar.extract (sa+n1) (sa+n1+nb)).toList l.toList->
   Q true (SortSt.mk' kd (l.toList.zipIdx.foldl (fun a x=>a.setIfInBounds (sa+k+x.snd) x.fst) ar) ((pd.setIfInBounds i (sa,n1+n2,p)).eraseIdxIfInBounds (i+1)) g none):=by
  intro l g hl;rw [xa,xb]at hl;have ll:l.toList.length=n1 - k+nb:=by rw [hl.1.length_eq,length_append,length_drop,length_take];omega
  have e:=yG (sa+k) l.toList 0 ar (by rw [ll];omega);have e1:(l.toList.zipIdx.foldl (fun a (x:Keyed×Nat)=>a.setIfInBounds (sa+k+x.snd) x.fst) ar).toList=pre++((la.take k++l.toList++lb.drop nb)++post):=by
   refine e.trans ?_;have d1:ar.toList.take (sa+k+0)=pre++la.take k:=by
    rw [ea,List.take_append,take_of_length_le (by omega),show sa+k+0 - pre.length=k by omega,List.take_append_of_le_length (by omega)]
   have d2:ar.toList.drop (sa+k+0+l.toList.length)=lb.drop nb++post:=by
    rw [ea,←append_assoc,show sa+k+0+l.toList.length=(pre++la).length+nb by rw [length_append];omega,List.drop_append,drop_of_length_le (by omega),nil_append,show(pre++la).length+nb -(pre++la).length=nb by omega,List.drop_append_of_le_length (by omega)]
   rw [d1,d2];simp only [append_assoc]
  refine h _ _ e1 ?_ ?_ rfl rfl rfl
  ·refine((List.Perm.append_left _ hl.1).append_right _).trans (List.Perm.of_eq ?_);rw [←append_assoc,take_append_drop,append_assoc,take_append_drop]
  ·skip
   have s1:(la.take k++la.drop k).Pairwise (Le r):=by rw [take_append_drop];exact sl
   have s2:(lb.take nb++lb.drop nb).Pairwise (Le r):=by rw [take_append_drop];exact sb
   have hlm:∀z∈l.toList,z∈la.drop k\/z∈lb.take nb:=fun z hz=>mem_append.mp (hl.1.mem_iff.mp hz);have allb:∀x,Le r x b0->∀y∈lb,Le r x y:=fun x hx y hy=>iT tr sb eb0 hx y (by rw [drop_zero];exact hy);refine pairwise_append.mpr ⟨pairwise_append.mpr ⟨(pairwise_append.mp s1).1,hl.2,fun x hx z hz=> ?_⟩,(pairwise_append.mp s2).2.1,fun x hx z hz=> ?_⟩
   ·rcases hlm z hz with hz|hz
    ·exact(pairwise_append.mp s1).2.2 x hx z hz
    ·exact allb x (lowk x hx) z (mem_of_mem_take hz)
   ·rcases mem_append.mp hx with hx|hx
    ·exact allb x (lowk x hx) z (mem_of_mem_drop hz)
    ·rcases hlm x hx with hx|hx
     ·exact(allk x (mem_of_mem_drop hx)).elim (fun q=>tr _ _ _ q (upb z hz)) fun q=>by rw [q];exact upb z hz
     ·exact(pairwise_append.mp s2).2.2 x hx z hz
 by_cases f3:n1 - k<=nb
 ·rw [if_pos f3];exact wpS_bind (A6f O hk.symm mi fun l g hl=>wpS_bind (wpS_modify (wpS_bind (wpS_get (wpS_pure (fin l g hl))))))
 ·rw [if_neg f3];exact wpS_bind (A7m O hk.symm mi fun l g hl=>wpS_bind (wpS_modify (wpS_bind (wpS_get (wpS_pure (fin l g hl))))))
end
section
variable {M:Model}{A:Around}{E:Value->Shared->Prop}{s:Shared}{S:Keyed->Prop}{r:Keyed->Keyed->Bool}{κ:SortKind}{st:SortSt}{a:Array Keyed}{lo n:Nat}
noncomputable def Ne (r:Keyed->Keyed->Bool)(x y:Keyed):Prop:=r x y=true\/r y x=true
theorem kC {a:Array Keyed}{i:Nat}(h:i<a.toList.length):a.toList[i]=at' a i:=by
 have h':i<a.size:=by rw [←Array.length_toList];exact h
 unfold at';simp [h']
theorem A9k (h:a.toList.Pairwise (Ne r)):Di r a:=fun i j hij hj=>by
 have hl:a.toList.length=a.size:=Array.length_toList;have q:=pairwise_iff_getElem.mp h i j (by omega) (by omega) hij;rw [kC,kC]at q;exact q
theorem A7p {a':Array Keyed}(h:a.toList.Pairwise (Ne r))(p:a'.Perm a):a'.toList.Pairwise (Ne r):=
 (List.Perm.pairwise_iff (fun{x y} (q:Ne r x y)=>q.symm) p.toList).mpr h
theorem Up.pw (tr:∀x y z,Le r x y->Le r y z->Le r x z)(U:Up r a lo n)(hz:lo+n<=a.size):((a.toList.drop lo).take n).Pairwise (Le r):=by refine pairwise_iff_getElem.mpr fun i j hi hj hij=> ?_;rw [length_take]at hi hj;rw [getElem_take,getElem_take,getElem_drop,getElem_drop,kC,kC];exact Up.le' tr U (by omega) (by omega) (by omega)
theorem Up.of {a':Array Keyed}(U:Up r a lo n)(h:∀i,lo<=i->i<lo+n->a'[i]?=a[i]?):Up r a' lo n:=fun i h1 h2=>by
 have e:∀i,lo<=i->i<lo+n->at' a' i=at' a i:=fun i h1 hi=>by unfold at';rw [h i h1 hi]
 rw [e i (by omega) (by omega),e (i - 1) (by omega) (by omega)];exact U i h1 h2
theorem Up.to {a':Array Keyed}{pre m post:List Keyed}(e:a'.toList=pre++(m++post))(sm:m.Pairwise (Le r)):Up r a' pre.length m.length:=fun i h1 h2=>by
 have g:∀k,pre.length<=k->k<pre.length+m.length->some (at' a' k)=m[k - pre.length]?:=fun k h1 h2=>by
  have hl:k<a'.toList.length:=by rw [e,length_append,length_append];omega
  rw [←kC hl,←getElem?_eq_getElem hl,e,getElem?_append_right h1,getElem?_append_left (by omega)]
 have g1:=g i (by omega) (by omega);have g2:=g (i - 1) (by omega) (by omega);rw [getElem?_eq_getElem (by omega)]at g1 g2;rw [Option.some.inj g1,Option.some.inj g2];exact pairwise_iff_getElem.mp sm (i - 1 - pre.length) (i - pre.length) (by omega) (by omega) (by omega)
noncomputable def Runs (r:Keyed->Keyed->Bool)(a:Array Keyed):Nat->List (Nat×Nat×Nat)->Nat->Prop
 |lo,[],hi=>lo=hi
 |lo,z::t,hi=>z.1=lo/\1<=z.2.1/\Up r a lo z.2.1/\Runs r a (lo+z.2.1) t hi
theorem Runs.len:∀{l:List (Nat×Nat×Nat)}{lo hi:Nat},Runs r a lo l hi->lo+l.length<=hi
 | [],lo,hi,h=>by have h:lo=hi:=h;rw [length_nil];omega
 |z::t,lo,hi,h=>by
  have:=Runs.len h.2.2.2;have:=h.2.1;rw [length_cons];omega
theorem Runs.of {a':Array Keyed}:∀{l:List (Nat×Nat×Nat)}{lo hi:Nat},Runs r a lo l hi->(∀i,lo<=i->i<hi->a'[i]?=a[i]?)->Runs r a' lo l hi
 | [],lo,hi,h,_=>h
 |z::t,lo,hi,h,g=>by
  have:=Runs.len h.2.2.2;exact⟨h.1,h.2.1,h.2.2.1.of fun i h1 h2=>g i h1 (by omega),Runs.of h.2.2.2 fun i h1 h2=>g i (by omega) h2⟩
theorem Runs.split:∀{l:List (Nat×Nat×Nat)}{t:List (Nat×Nat×Nat)}{lo hi:Nat},Runs r a lo (l++t) hi->∃mid,Runs r a lo l mid/\Runs r a mid t hi
 | [],t,lo,hi,h=> ⟨lo,rfl,h⟩
 |z::l,t,lo,hi,h=>by
  obtain⟨mid,h1,h2⟩:=Runs.split (l:=l) h.2.2.2;exact⟨mid,⟨h.1,h.2.1,h.2.2.1,h1⟩,h2⟩
theorem Runs.join:∀{l:List (Nat×Nat×Nat)}{t:List (Nat×Nat×Nat)}{lo mid hi:Nat},Runs r a lo l mid->Runs r a mid t hi->Runs r a lo (l++t) hi
 | [],t,lo,mid,hi,h,h2=>by have h:lo=mid:=h;subst h;exact h2
 |z::l,t,lo,mid,hi,h,h2=> ⟨h.1,h.2.1,h.2.2.1,Runs.join h.2.2.2 h2⟩
theorem Runs.cg:∀{l t:List (Nat×Nat×Nat)}{lo hi:Nat},l.map (fun z=>(z.1,z.2.1))=t.map (fun z=>(z.1,z.2.1))->Runs r a lo l hi->Runs r a lo t hi
 | [],[],_,_,_,h=>h
 | [],_::_,_,_,e,_=>by cases e
 |_::_,[],_,_,e,_=>by cases e
 |z::l,y::t,lo,hi,e,h=>by
  rw [map_cons,map_cons]at e;injection e with e1 e2
  injection e1 with e3 e4;refine⟨by rw [←e3];exact h.1,by rw [←e4];exact h.2.1,by rw [←e4];exact h.2.2.1,?_⟩;rw [←e4];exact Runs.cg e2 h.2.2.2
theorem A2q {α:Type}{pd:Array α}{i:Nat}(h:i+1<pd.size):∃x y l1 l2,pd.toList=l1++x::y::l2/\l1.length=i/\pd[i]?=some x/\pd[i+1]?=some y/\∀z,((pd.setIfInBounds i z).eraseIdxIfInBounds (i+1)).toList=l1++z::l2:=by
 have hl:i+1<pd.toList.length:=by rw [Array.length_toList];exact h
 have e:pd.toList=pd.toList.take i++pd.toList[i]::pd.toList[i+1]::pd.toList.drop (i+2):=by
  rw [←List.drop_eq_getElem_cons hl,←List.drop_eq_getElem_cons (by omega),take_append_drop]
 refine⟨pd.toList[i],pd.toList[i+1],pd.toList.take i,pd.toList.drop (i+2),e,by rw [length_take];omega,?_,?_,fun z=> ?_⟩
 ·rw [←Array.getElem?_toList,getElem?_eq_getElem]
 ·rw [←Array.getElem?_toList,getElem?_eq_getElem]
 ·have e2:((pd.setIfInBounds i z).eraseIdxIfInBounds (i+1)).toList=(pd.toList.set i z).eraseIdx (i+1):=by
   unfold Array.eraseIdxIfInBounds;rw [dif_pos (by rw [Array.size_setIfInBounds];exact h),Array.toList_eraseIdx];simp
  rw [e2];generalize pd.toList[i]=x at e;generalize pd.toList[i+1]=y at e;have hi:(pd.toList.take i).length=i:=by rw [length_take];omega
  generalize pd.toList.take i=l1 at e hi⊢;generalize pd.toList.drop (i+2)=l2 at e⊢;rw [e];rw [List.set_append_right _ _ (by omega),hi,Nat.sub_self,List.set_cons_zero,List.eraseIdx_append_of_length_le (by omega),hi,show i+1 - i=1 by omega];rfl
theorem uC {Q:Bool->SortSt->Prop}{pd:Array (Nat×Nat×Nat)}{g i hi:Nat}(O:Oc M A E s κ S r)(tr:∀x y z,Le r x y->Le r y z->Le r x z)(as:∀x y,r x y=true->Le r x y)(hS:∀x∈a.toList,S x)(hz:hi<=a.size)(R:Runs r a 0 pd.toList hi)(hi':i+1<pd.size)
  (h:∀a' pd' g',a'.Perm a->(∀k,hi<=k->a'[k]?=a[k]?)->Runs r a' 0 pd'.toList hi->pd'.size+1=pd.size->Q true (SortSt.mk' κ a' pd' g' none)):wpS M A E s (mga i) Q (SortSt.mk' κ a pd g none):=by
 obtain⟨⟨sa,n1,p⟩,⟨sb,n2,q⟩,l1,l2,e,hl,e1,e2,e3⟩:=A2q hi';rw [e]at R;obtain⟨mid,R1,R2⟩:=R.split;have R2:sa=mid/\1<=n1/\Up r a mid n1/\sb=mid+n1/\1<=n2/\Up r a (mid+n1) n2/\Runs r a (mid+n1+n2) l2 hi:=R2;obtain⟨rfl,x2,x3,rfl,y2,y3,R3⟩:=R2;have R3l:=R3.len;have al:a.toList.length=a.size:=Array.length_toList;have ea:a.toList=a.toList.take sa++((a.toList.drop sa).take n1++((a.toList.drop (sa+n1)).take n2++a.toList.drop (sa+n1+n2))):=by
  have d1:(a.toList.drop (sa+n1)).take n2++a.toList.drop (sa+n1+n2)=a.toList.drop (sa+n1):=by rw [←List.drop_drop (i:=n2),take_append_drop]
  have d2:(a.toList.drop sa).take n1++a.toList.drop (sa+n1)=a.toList.drop sa:=by rw [←List.drop_drop (i:=n1),take_append_drop]
  rw [d1,d2,take_append_drop]
 have hl0:(a.toList.take sa).length=sa:=by rw [length_take];omega
 refine A5x (i:=i) O rfl e1 e2 rfl ea hl0 (by rw [length_take,length_drop];omega) (by rw [length_take,length_drop];omega) x2 y2 tr as (x3.pw tr (by omega)) (y3.pw tr (by omega)) hS fun st' m a1 a2 a3 a4 a5 a6=> ?_;obtain⟨kd,ar',pd',g',fl⟩:=st';replace a1:ar'.toList=a.toList.take sa++(m++a.toList.drop (sa+n1+n2)):=a1;replace a4:kd=κ:=a4;replace a5:pd'=(pd.setIfInBounds i (sa,n1+n2,p)).eraseIdxIfInBounds (i+1):=a5;replace a6:fl=none:=a6;subst a4 a6;have ml:m.length=n1+n2:=by rw [a2.length_eq,length_append,length_take,length_take,length_drop,length_drop];omega
 have hpd:pd'.toList=l1++(sa,n1+n2,p)::l2:=by rw [a5];exact e3 _
 have low:∀k,k<sa->ar'[k]?=a[k]?:=fun k hk=>by
  rw [←Array.getElem?_toList,←Array.getElem?_toList,a1,getElem?_append_left (by omega),List.getElem?_take_of_lt hk]
 have up:∀k,sa+n1+n2<=k->ar'[k]?=a[k]?:=fun k hk=>by
  rw [←Array.getElem?_toList,←Array.getElem?_toList,a1,getElem?_append_right (by omega),getElem?_append_right (by omega),getElem?_drop];congr 1;omega
 refine h ar' pd' g' ?_ (fun k hk=>up k (by omega)) ?_ ?_
 ·rw [Array.perm_iff_toList_perm,a1];have pm:a.toList.Perm (a.toList.take sa++(((a.toList.drop sa).take n1++(a.toList.drop (sa+n1)).take n2)++a.toList.drop (sa+n1+n2))):=by
   rw [append_assoc,←ea]
  exact(List.Perm.append_left _ (a2.append_right _)).trans pm.symm
 ·rw [hpd];refine Runs.join (mid:=sa) (R1.of fun k _ hk=>low k hk) ⟨rfl,by show 1<=n1+n2;omega,?_,?_⟩
  ·have:=Up.to (r:=r) a1 a3;rw [hl0,ml]at this;exact this
  ·show Runs r ar' (sa+(n1+n2)) l2 hi;rw [←Nat.add_assoc];exact R3.of fun k hk _=>up k hk
 ·have z1:=congrArg List.length hpd;have z2:=congrArg List.length e;simp only [length_append,length_cons,Array.length_toList]at z1 z2;omega
theorem wp_runs {Q:Unit->SortSt->Prop}(O:Oc M A E s κ S r)(hk:kindOf st=κ)(ha:arrOf st=a)(hp:pendingOf st= #[])(hf:failedOf st=none)(hS:∀x∈a.toList,S x)(D:a.toList.Pairwise (Ne r))(tr:∀x y z,Le r x y->Le r y z->Le r x z)(as:∀x y,r x y=true->Le r x y)(hn:a.size=n)
  (h:∀st',(arrOf st').toList.Perm a.toList->failedOf st'=none->(arrOf st').toList.Pairwise (Le r)->Q () st'):wpS M A E s sortRuns' Q st:=by
 obtain⟨kd,ar,pd,gp,fl⟩:=st;have hp:pd= #[]:=hp;have hf:fl=none:=hf;have hk:kd=κ:=hk;have ha:ar=a:=ha;subst hp hf hk ha;rw [sortRuns'_eq];refine wpS_bind (wpS_get ?_);dsimp only
 simp only [hn];generalize minRun' n n 0=mr;refine wpS_bind (wpS_mono (wpS_forRange
  (I:=fun x c st'=> ∃(lo:Nat)(a':Array Keyed)(pd:Array (Nat×Nat×Nat))(g:Nat),c=(none,lo)/\lo<=n/\(x<=lo\/lo=n)/\a'.Perm ar/\Runs r a' 0 pd.toList lo/\st'=SortSt.mk' kd a' pd g none)
  (Q:=fun c st'=> ∃(a':Array Keyed)(pd:Array (Nat×Nat×Nat))(g:Nat),c=(none,n)/\a'.Perm ar/\Runs r a' 0 pd.toList n/\st'=SortSt.mk' kd a' pd g none) ?_ ?_ ⟨0,ar,#[],gp,rfl,zero_le _,.inl (zjQ _),Array.Perm.refl _,rfl,rfl⟩) ?_)
 ·rintro x c st' _ hx ⟨lo,a',pd,g,rfl,lo1,lo2,pa,R,rfl⟩;dsimp only
  by_cases f1:lo≥n
  ·rw [if_pos f1];obtain rfl:lo=n:=by omega
   exact wpS_pure ⟨a',pd,g,rfl,pa,R,rfl⟩
  rw [if_neg f1];have hS':∀x∈a'.toList,S x:=fun x hx=>hS x (pa.toList.mem_iff.mp hx);refine wpS_bind (A3u (st:=SortSt.mk' kd a' pd g none) (a:=a') O hk rfl hS' (A9k (A7p D pa)) tr as (by omega) (by rw [pa.size_eq,hn];omega) fun k a1 k1 k2 p1 q1 U1=> ?_);dsimp only
  by_cases f2:k<mr
  case' pos=>
   rw [if_pos f2];generalize hq:min (n - lo) mr=q;refine wpS_bind (wpS_lift (wpAny_rule ⟨rfl,?_⟩));refine wpS_bind (B1t (st:=setArr (SortSt.mk' kd a' pd g none) a1) (a:=a1) O hk rfl (fun x hx=>hS' x (p1.toList.mem_iff.mp hx)) tr as (by omega) (by omega) (by rw [p1.size_eq,pa.size_eq,hn];omega) U1 fun a2 p2 q2 U2=> ?_);have pz:a2.Perm ar:=(p2.trans p1).trans pa;have V:Runs r a2 0 pd.toList lo:=R.of fun i _ hi=>(q2 i hi).trans (q1 i hi);have kq:1<=q/\q<=n - lo:=by omega
   simp only [Bool.not_true,Bool.false_eq_true,if_false]
  case' neg=>
   rw [if_neg f2];obtain⟨q,rfl⟩:∃q,q=k:=⟨_,rfl⟩;have pz:a1.Perm ar:=p1.trans pa;have V:Runs r a1 0 pd.toList lo:=R.of fun i _ hi=>q1 i hi;have U2:=U1;have kq:1<=q/\q<=n - lo:=⟨k1,k2⟩;obtain⟨a2,rfl⟩:∃a2,a2=a1:=⟨_,rfl⟩
  all_goals
   refine wpS_bind (wpS_get ?_);have fin:∀(a3:Array Keyed)(pd3:Array (Nat×Nat×Nat))(g3:Nat),a3.Perm ar->Runs r a3 0 pd3.toList lo->Up r a3 lo q->∃(lo':Nat)(a':Array Keyed)(pd:Array (Nat×Nat×Nat))(g:Nat),((none,lo+q):Option Unit×Nat)=(none,lo')/\lo'<=n/\(x+1<=lo'\/lo'=n)/\a'.Perm ar/\Runs r a' 0 pd.toList lo'/\SortSt.mk' kd a3 (pd3.push (lo,q,0)) g3 none=SortSt.mk' kd a' pd g none:=fun a3 pd3 g3 pz R U=>
    ⟨lo+q,a3,pd3.push (lo,q,0),g3,rfl,by omega,.inl (by omega),pz,by rw [Array.toList_push];exact R.join ⟨rfl,kq.1,U,rfl⟩,rfl⟩
   cases hb:(pendingOf (setArr (SortSt.mk' kd a' pd g none) a2)).back? with
   |none=>exact wpS_bind (wpS_modify (wpS_pure (fin a2 pd g pz V U2)))
   |some z=>
    obtain⟨s1,n1,pp⟩:=z;dsimp only
    generalize power' n (2*s1+n1) (2*s1+n1+n1+q) n=pw;refine wpS_bind (wpS_mono (wpS_forRange (I:=fun _ c st'=>c=(none,())/\∃(a3:Array Keyed)(pd3:Array (Nat×Nat×Nat))(g3:Nat),st'=SortSt.mk' kd a3 pd3 g3 none/\a3.Perm ar/\Runs r a3 0 pd3.toList lo/\Up r a3 lo q)
     (Q:=fun c st'=>c=(none,())/\∃(a3:Array Keyed)(pd3:Array (Nat×Nat×Nat))(g3:Nat),st'=SortSt.mk' kd a3 pd3 g3 none/\a3.Perm ar/\Runs r a3 0 pd3.toList lo/\Up r a3 lo q) ?_ (fun _ _ hh=>hh) ⟨rfl,a2,pd,g,rfl,pz,V,U2⟩) ?_)
    ·rintro x c _ _ _ ⟨rfl,a3,pd3,g3,rfl,p3,R3,U3⟩;refine wpS_bind (wpS_get ?_);have ep:pendingOf (SortSt.mk' kd a3 pd3 g3 none)=pd3:=rfl;rw [ep];by_cases f3:pd3.size>1
     ·rw [if_pos f3,Array.getElem?_eq_getElem (by omega)];generalize pd3[pd3.size - 2]=zz;obtain⟨w1,w2,ol⟩:=zz;dsimp only
      by_cases f4:ol<=pw
      ·rw [if_pos f4];exact wpS_pure ⟨rfl,a3,pd3,g3,rfl,p3,R3,U3⟩
      ·rw [if_neg f4];refine wpS_bind (uC O tr as (fun x hx=>hS x (p3.toList.mem_iff.mp hx)) (by rw [p3.size_eq,show ar.size=n from hn];omega) R3 (i:=pd3.size - 2) (by omega) fun a4 pd4 g4 p4 k4 R4 _=> ?_);simp only [Bool.not_true,Bool.false_eq_true,if_false];exact wpS_pure ⟨rfl,a4,pd4,g4,rfl,p4.trans p3,R4,U3.of fun i h1 _=>k4 i h1⟩
     ·rw [if_neg f3];exact wpS_pure ⟨rfl,a3,pd3,g3,rfl,p3,R3,U3⟩
    ·rintro c _ ⟨rfl,a3,pd3,g3,rfl,p3,R3,U3⟩;refine wpS_bind (wpS_modify (wpS_bind (wpS_modify (wpS_pure (fin a3 _ g3 p3 (R3.cg ?_) U3)))));refine List.ext_getElem? fun i=> ?_;rw [getElem?_map,getElem?_map,Array.getElem?_toList,Array.getElem?_toList];show _=Option.map _ (Array.modify pd3 (pd3.size - 1) _)[i]?;rw [Array.getElem?_modify]
     split
     ·cases pd3[i]?<;>rfl
     ·rfl
 ·rintro c st' ⟨lo,a',pd,g,rfl,lo1,lo2,pa,R,rfl⟩;obtain rfl:lo=n:=by omega
  exact⟨a',pd,g,rfl,pa,R,rfl⟩
 ·rintro c _ ⟨a',pd,g,rfl,pa,R,rfl⟩;dsimp only
  have fin:∀(a3:Array Keyed)(pd3:Array (Nat×Nat×Nat))(g3:Nat),a3.Perm ar->Runs r a3 0 pd3.toList n->pd3.size<=1->Q () (SortSt.mk' kd a3 pd3 g3 none):=fun a3 pd3 g3 p3 R3 hz=>by
   refine h _ p3.toList rfl ?_;have za:a3.size=n:=by rw [p3.size_eq];exact hn
   show a3.toList.Pairwise _;have hl:pd3.toList.length<=1:=by rw [Array.length_toList];exact hz
   generalize pd3.toList=l at R3 hl
   match l,hl,R3 with
   | [],_,R3=>
    have R3:0=n:=R3;rw [eq_nil_of_length_eq_zero (l:=a3.toList) (by rw [Array.length_toList];omega)];exact .nil
   | [z],_,R3=>
    have R4:0+z.2.1=n:=R3.2.2.2;have q:=Up.pw tr R3.2.2.1 (by omega);rw [drop_zero,take_of_length_le (by rw [Array.length_toList];omega)]at q;exact q
  refine wpS_bind (wpS_mono (wpS_forRange (I:=fun x c st'=>c=(none,())/\∃(a3:Array Keyed)(pd3:Array (Nat×Nat×Nat))(g3:Nat),st'=SortSt.mk' kd a3 pd3 g3 none/\a3.Perm ar/\Runs r a3 0 pd3.toList n/\(pd3.size<=1\/pd3.size+x<=n))
   (Q:=fun c st'=>c=(none,())/\∃(a3:Array Keyed)(pd3:Array (Nat×Nat×Nat))(g3:Nat),st'=SortSt.mk' kd a3 pd3 g3 none/\a3.Perm ar/\Runs r a3 0 pd3.toList n/\pd3.size<=1) ?_ ?_ ⟨rfl,a',pd,g,rfl,pa,R,.inr (by have:=R.len;rw [Array.length_toList]at this;omega)⟩) ?_)
  ·rintro x c _ _ hx ⟨rfl,a3,pd3,g3,rfl,p3,R3,hz⟩;refine wpS_bind (wpS_get ?_);have ep:pendingOf (SortSt.mk' kd a3 pd3 g3 none)=pd3:=rfl;rw [ep];by_cases f3:pd3.size<=1
   ·rw [if_pos f3];exact wpS_pure ⟨rfl,a3,pd3,g3,rfl,p3,R3,f3⟩
   ·rw [if_neg f3];have hi:∀c:Prop,[Decidable c]->(if c then pd3.size - 2 - 1 else pd3.size - 2)+1<pd3.size:=fun c _=>by split<;>omega
    refine wpS_bind (uC O tr as (fun x hx=>hS x (p3.toList.mem_iff.mp hx)) (by rw [p3.size_eq];exact le_of_eq hn.symm) R3 (hi _) fun a4 pd4 g4 p4 k4 R4 z4=> ?_);simp only [Bool.not_true,Bool.false_eq_true,if_false];exact wpS_pure ⟨rfl,a4,pd4,g4,rfl,p4.trans p3,R4,by omega⟩
  ·rintro c _ ⟨rfl,a3,pd3,g3,rfl,p3,R3,hz⟩;exact⟨rfl,a3,pd3,g3,rfl,p3,R3,by omega⟩
  ·rintro c _ ⟨rfl,a3,pd3,g3,rfl,p3,R3,hz⟩;exact wpS_pure (fin a3 pd3 g3 p3 R3 hz)
end
end Tms
namespace Srt
open PySem PySem.W PyProof.Rows
section
variable {prog:Program}{w:World}{A:Around}{E:Value->Shared->Prop}{s:Shared}{κ:SortKind}{r:Nat->Int}
theorem A7r {vs:List Value}{Q:SortSt->Shared->Prop}(hd:∀i j,i<j->j<vs.length->r i≠r j/\vs.getD i Value.none≠vs.getD j Value.none)(ask:fW (kas_ask prog w A κ vs) vs.length r s)
  (h:∀st' p,Pm vs.length p->Up r p vs.length->arrOf st'=p.map (kas_item (vs.toArray.zip vs.toArray))->failedOf st'=none->Q st' s):
  wpAny (model prog w) A ((sortRuns').run (SortSt.mk' κ (vs.toArray.zip vs.toArray) #[] 7 none)) (fun r s'=>Q r.2 s') E s:=by
 have it:∀i,i<vs.length->kas_item (vs.toArray.zip vs.toArray) i=(vs.getD i Value.none,vs.getD i Value.none):=fun i hi=>by
  unfold kas_item;simp [Array.getD,hi]
 generalize hg:vs.toArray.zip vs.toArray=a at h it⊢;have az:a.size=vs.length:=by rw [←hg];simp
 have al:a.toList=(List.range vs.length).map (kas_item a):=by
  refine ext_getElem (by simp [az]) fun i u v=> ?_;have:i<a.size:=by simpa using u
  simp [kas_item,Array.getD,this]
 let ix:Keyed->Nat:=fun x=>Classical.epsilon fun i=>i<vs.length/\kas_item a i=x;have sp:∀i,i<vs.length->ix (kas_item a i)<vs.length/\kas_item a (ix (kas_item a i))=kas_item a i:=fun i hi=>Classical.epsilon_spec (p:=fun j=>j<vs.length/\kas_item a j=kas_item a i) ⟨i,hi,rfl⟩;have ixe:∀i,i<vs.length->ix (kas_item a i)=i:=fun i hi=>by
  obtain⟨u,v⟩:=sp i hi;generalize ix (kas_item a i)=j at u v;rw [it i hi,it j u,Prod.mk.injEq]at v;rcases Nat.lt_trichotomy i j with e|e|e
  ·exact((hd i j e u).2 v.1.symm).elim
  ·exact e.symm
  ·exact((hd j i e hi).2 v.1).elim
 have O:Tms.Oc (model prog w) A E s κ (fun x=> ∃i,i<vs.length/\x=kas_item a i) fun x y=>decide (r (ix x)<r (ix y)):=by
  rintro x y st R ⟨i,hi,rfl⟩ ⟨j,hj,rfl⟩ hk hR;rw [lt'_eq];refine wpS_bind (wpS_get ?_);have q:=ask i j (fun b s'=>s'=s/\b=decide (r i<r j)) hi hj ⟨rfl,rfl⟩;unfold kas_ask at q;rw [hk,it i hi,it j hj];refine wpS_bind (wpS_lift (wpAny_attempt (wpAny_mono q ?_ fun _ _ hF=>hF.elim)));rintro b s' ⟨rfl,rfl⟩;refine⟨rfl,wpS_pure ?_⟩;have hR:R (some (decide (r (ix (kas_item a i))<r (ix (kas_item a j))))) st:=hR;rw [ixe i hi,ixe j hj]at hR;exact hR
 refine wpAny_mono (Tms.wp_runs (n:=vs.length) (a:=a) (Q:=fun _ st'=>Q st' s) O rfl rfl rfl rfl (fun x hx=> ?_) ?_ (fun x y z h1 h2=> ?_) (fun x y h=> ?_) az fun st' p1 p2 p3=> ?_) (fun x s' q=>by obtain⟨rfl,q⟩:=q;exact q) fun _ _ e=>e
 ·rw [al]at hx;obtain⟨i,hi,rfl⟩:=mem_map.mp hx;exact⟨i,mem_range.mp hi,rfl⟩
 ·rw [al,pairwise_map,pairwise_iff_getElem];intro i j hi hj hij;rw [length_range]at hi hj;simp only [List.getElem_range];have:=(hd i j hij hj).1;show decide (r (ix (kas_item a i))<r (ix (kas_item a j)))=true\/decide (r (ix (kas_item a j))<r (ix (kas_item a i)))=true;rw [ixe i hi,ixe j hj];simp only [decide_eq_true_eq];omega
 ·have h1:=of_decide_eq_false h1;have h2:=of_decide_eq_false h2;exact zjU (by omega)
 ·have h:=of_decide_eq_true h;exact zjU (by omega)
 ·have me:∀x∈(arrOf st').toList,kas_item a (ix x)=x:=fun x hx=>by
   have:=p1.mem_iff.mp hx;rw [al]at this;obtain⟨i,hi,rfl⟩:=mem_map.mp this;rw [ixe i (mem_range.mp hi)]
  refine h st' ((arrOf st').map ix) (Array.perm_iff_toList_perm.mpr ?_) (fun i j hij hj=> ?_) ?_ p2
  ·rw [Array.toList_map];refine(p1.map ix).trans ?_;rw [al,map_map];show List.Perm _ (List.range vs.length);rw [map_congr_left (f:=ix∘kas_item a) (g:=id) fun i hi=>ixe i (mem_range.mp hi),map_id]
  ·have zz:(arrOf st').toList.length=vs.length:=by rw [p1.length_eq,Array.length_toList,az]
   have zs:(arrOf st').size=vs.length:=by simpa using zz
   by_cases e:i=j
   ·subst e;exact Int.le_refl _
   ·have:=of_decide_eq_false (pairwise_iff_getElem.mp p3 i j (by omega) (by omega) (by omega));unfold R at';have gi:∀k (hk:k<vs.length),((arrOf st').map ix).getD k 0=ix ((arrOf st').toList[k]'(by omega)):=fun k hk=>by
     simp [Array.getD,zs,hk]
    rw [gi i (by omega),gi j hj];omega
  ·rw [Array.map_map];apply Array.toList_inj.mp;rw [Array.toList_map]
   conv=>lhs;rw [←map_id (arrOf st').toList]
   exact map_congr_left fun x hx=>(me x hx).symm
end
section
noncomputable def But (a:Addr)(h h':Heap):Prop:=∀b o,b≠a->h.get? b=some o->h'.get? b=some o
theorem A4z (n:Nat):Pm n (toArray (List.range n)):=Array.Perm.refl _
theorem A4p (h:n<2):Up r p n:=fun i j hij hj=>by
 have:i=j:=by omega
 subst this;exact Int.le_refl _
theorem wB (vs:List Value):(toArray (List.range vs.length)).toList.map (fun i=>vs.getD i Value.none)=vs:=by refine ext_getElem (by simp) fun i h1 h2=> ?_;simp [h2]
theorem A9s (ho:s.heap.get? a=some (seqObj "list" vs.toArray n))(h64:vs.length<=1000000)(hd:64<=vs.length->∀i j,i<j->j<vs.length->r i≠r j/\vs.getD i Value.none≠vs.getD j Value.none)
  (hk:2<=vs.length->∀h',But a s.heap h'->(∀Q:SortKind->Shared->Prop,Q κ {s with heap:=h'}->wpAny (model prog w) A (keyKind' vs.toArray) Q E {s with heap:=h'})/\fW (kas_ask prog w A κ vs) vs.length r {s with heap:=h'})
  (h:∀h' c p,Pm vs.length p->Up r p vs.length->h'.get? a=some (seqObj "list" (p.toList.map fun i=>vs.getD i Value.none).toArray c)->But a s.heap h'->P (.done (.ret .none)) {s with heap:=h'}):
  wpAny (model prog w) A (Builtin.«list.sort» ⟨[.ref a],[]⟩) P E s:=by
 have la:=zjT ho;obtain⟨c1,o1⟩:∃c1,(s.heap.update a (Obj.mapSeq fun _=>(#[]:Array Value))).get? a=some (seqObj "list" #[] c1):=⟨_,get?_update_seq ho fun _=> #[]⟩;have b1:But a s.heap (s.heap.update a (Obj.mapSeq fun _=>(#[]:Array Value))):=fun b o hb e=>by rw [Heap.get?_update_ne _ _ _ _ hb];exact e
 generalize hg1:s.heap.update a (Obj.mapSeq fun _=>(#[]:Array Value))=g1 at o1 b1;have o3:((g1.push (seqObj "tuple" vs.toArray 0)).push (seqObj "list" #[] 0)).get? a=some (seqObj "list" #[] c1):=zjX _ (zjX _ o1);have b3:But a s.heap ((g1.push (seqObj "tuple" vs.toArray 0)).push (seqObj "list" #[] 0)):=fun b o hb e=>zjX _ (zjX _ (b1 b o hb e));rw [list_sort_plain];refine zjZ (listItems_at ho rfl ?_);refine zjZ (listUpdate_at ho rfl ?_ (by rw [size_toArray,sizeLine_eq];omega) (zero_le _));rw [hg1];refine zjZ (seqEpoch_at o1 rfl ?_);refine zjZ (wpAny_newTuple ?_ (by show vs.length<=_;rw [sizeLine_eq];omega));refine zjZ (wpAny_newList ?_ (zero_le _));refine wpAny_holding ?_;show wpAny (model prog w) A _ P E {s with heap:=(g1.push (seqObj "tuple" vs.toArray 0)).push (seqObj "list" #[] 0)};generalize (g1.push (seqObj "tuple" vs.toArray 0)).push (seqObj "list" #[] 0)=g3 at o3 b3;dsimp only
 have fin:∀(st:SortSt)(p:Array Nat),Pm vs.length p->Up r p vs.length->(arrOf st).map (·.2)=(p.toList.map fun i=>vs.getD i Value.none).toArray->failedOf st=none->
   wpAny (model prog w) A (do
    let touched:=(←seqEpoch a) !=c1
    Builtin.List.listUpdate (.ref a) fun _=>(arrOf st).map (·.2)
    if let some e:=failedOf st then rule "list.sort.comparison-raised";throw e
    if touched then rule "list.sort.modified";raiseError "ValueError" "list modified during sort"
    ret .none) P E {s with heap:=g3}:=fun st p hp hu hout hf=>by
  rw [hout,hf];have hz:(p.toList.map fun i=>vs.getD i Value.none).toArray.size=vs.length:=by rw [size_toArray,length_map,Array.length_toList,hp.size]
  obtain⟨c4,o4⟩:∃c4,(g3.update a (Obj.mapSeq fun _=>(p.toList.map fun i=>vs.getD i Value.none).toArray)).get? a=some (seqObj "list" (p.toList.map fun i=>vs.getD i Value.none).toArray c4):=⟨_,get?_update_seq o3 fun _=>(p.toList.map fun i=>vs.getD i Value.none).toArray⟩;refine zjZ (seqEpoch_at o3 rfl ?_);refine zjZ (listUpdate_at o3 rfl ?_ (zero_le _) (le_trans (le_of_eq hz) (by rw [sizeLine_eq];omega)));simp only [bne_self_eq_false,Bool.false_eq_true,if_false];exact zjY (h _ c4 p hp hu o4 fun b o hb e=>by rw [Heap.get?_update_ne _ _ _ _ hb];exact b3 b o hb e)
 by_cases h2:vs.toArray.size<2
 ·rw [if_pos h2,if_pos h2];refine zjZ (zjY ?_);rw [StateT.run_pure];refine zjZ (zjY ?_);refine fin _ _ (A4z _) (A4p (by rw [size_toArray]at h2;exact h2)) ?_ rfl;rw [wB];show(vs.toArray.zip vs.toArray).map (·.2)=_;apply Array.toList_inj.mp;simp [List.map_snd_zip]
 ·rw [if_neg h2,if_neg h2];rw [size_toArray]at h2;obtain⟨kk,ask⟩:=hk (by omega) g3 b3;refine zjZ (kk _ ?_);refine zjZ (wpAny_mono (Q:=fun r' s'=>s'={s with heap:=g3}/\∃p,Pm vs.length p/\Up r p vs.length/\arrOf r'.2=p.map (kas_item (vs.toArray.zip vs.toArray))/\failedOf r'.2=none) ?_ ?_ fun _ _ e=>e)
  ·by_cases c:vs.length<64
   ·exact kat_run (Q:=fun st' s'=>s'={s with heap:=g3}/\∃p,Pm vs.length p/\Up r p vs.length/\arrOf st'=p.map (kas_item (vs.toArray.zip vs.toArray))/\failedOf st'=none) (G:=fun p s'=>s'={s with heap:=g3}/\Pm vs.length p/\Up r p vs.length)
     rfl (by omega) c (fun p st' s' a1 a2 a3 a4=> ⟨a4.1,p,a4.2.1,a4.2.2,a2,a3⟩) (B0u ask (by omega) fun p hp hu=> ⟨rfl,hp,hu⟩)
   ·exact A7r (Q:=fun st' s'=>s'={s with heap:=g3}/\∃p,Pm vs.length p/\Up r p vs.length/\arrOf st'=p.map (kas_item (vs.toArray.zip vs.toArray))/\failedOf st'=none) (hd (by omega)) ask fun st' p a1 a2 a3 a4=> ⟨rfl,p,a1,a2,a3,a4⟩
  rintro⟨⟨⟩,st'⟩ s' ⟨rfl,p,hp,hu,har,hf⟩;exact fin st' p hp hu (kat_snds rfl har) hf
theorem A0x (h64:vs.length<=1000000)(hd:64<=vs.length->∀i j,i<j->j<vs.length->r i≠r j/\vs.getD i Value.none≠vs.getD j Value.none)
  (hc:∀Q':List Value->Shared->Prop,(∀h1 tk,(∀b o,s.heap.get? b=some o->h1.get? b=some o)->s.heap.objs.size<=h1.objs.size->Q' vs {s with heap:=h1,toks:=tk})->wpAny (model prog w) A.in1 (collect x) Q' E s)
  (hr:∀h1 tk,(∀b o,s.heap.get? b=some o->h1.get? b=some o)->2<=vs.length->(∀Q:SortKind->Shared->Prop,Q κ {s with heap:=h1,toks:=tk}->wpAny (model prog w) A.in1.in1 (keyKind' vs.toArray) Q E {s with heap:=h1,toks:=tk})/\fW (kas_ask prog w A.in1.in1 κ vs) vs.length r {s with heap:=h1,toks:=tk})
  (h:∀D h' tk c p,s.heap.objs.size<=D->Pm vs.length p->Up r p vs.length->h'.get? D=some (seqObj "list" (p.toList.map fun i=>vs.getD i Value.none).toArray c)->(∀b o,s.heap.get? b=some o->h'.get? b=some o)->Q (.ref D) {s with heap:=h',toks:=tk}):
  wpAny (model prog w) A (call (.builtin "sorted") [x]) Q E s:=by
 refine Calls.call_function_entry kind_sorted plain_sorted entry_sorted (args_sorted1 _) ?_;unfold Builtin.«sorted»;refine zjZ (m:=checkCount "sorted" 1 1 _) (zjY ?_);refine zjZ (hc _ fun h1 tk k1 z1=> ?_);refine zjZ (wpAny_newList ?_ (by rw [sizeLine_eq];omega));have oL:(h1.push (seqObj "list" vs.toArray 0)).get? h1.objs.size=some (seqObj "list" vs.toArray 0):=get?_push_size _ rfl;have kL:∀b o,s.heap.get? b=some o->(h1.push (seqObj "list" vs.toArray 0)).get? b=some o/\b≠h1.objs.size:=fun b o e=> ⟨zjX _ (k1 b o e),ne_of_lt (lt_of_lt_of_le (zjT e) z1)⟩;refine zjZ (wpAny_holding (wpAny_call_entry slot_list_sort ⟨_,oL,rfl⟩ entry_list_sort ?_ (args_list_sort _)));refine A9s (κ:=κ) (r:=r) oL h64 hd (fun h2 h' b'=>hr h' tk (fun b o e=>b' b o (kL b o e).2 (kL b o e).1) h2) fun h' c p hp hu o' b'=> ⟨_,rfl,?_⟩;exact zjY ⟨_,rfl,h h1.objs.size h' tk c p z1 hp hu o' fun b o e=>b' b o (kL b o e).2 (kL b o e).1⟩
end
end Srt
namespace Srt
theorem iH:∀xs:List Int,HT.lexLt xs xs=false
 | []=>rfl
 |x::xs=>by rw [HT.lexLt_cons,if_pos rfl];exact iH xs
theorem mJ:∀{xs ys zs:List Int},HT.lexLt xs ys=true->HT.lexLt ys zs=true->HT.lexLt xs zs=true
 | [],[],_,h,_=>by cases h
 | [],_::_,[],_,h=>by cases h
 | [],_::_,_::_,_,_=>rfl
 |_::_,[],_,h,_=>by cases h
 |_::_,_::_,[],_,h=>by cases h
 |x::xs,y::ys,z::zs,h1,h2=>by
  rw [HT.lexLt_cons]at h1 h2⊢;by_cases e1:x=y
  ·subst e1;rw [if_pos rfl]at h1;by_cases e2:x=z
   ·subst e2;rw [if_pos rfl]at h2⊢;exact mJ h1 h2
   ·rw [if_neg e2]at h2⊢;exact h2
  ·rw [if_neg e1,decide_eq_true_eq]at h1;by_cases e2:y=z
   ·subst e2;rw [if_neg e1,decide_eq_true_eq];exact h1
   ·rw [if_neg e2,decide_eq_true_eq]at h2;rw [if_neg (by omega),decide_eq_true_eq];omega
theorem mG:∀{xs ys:List Int},HT.lexLt xs ys=false->HT.lexLt ys xs=false->xs=ys
 | [],[],_,_=>rfl
 | [],_::_,h,_=>by cases h
 |_::_,[],_,h=>by cases h
 |x::xs,y::ys,h1,h2=>by
  rw [HT.lexLt_cons]at h1 h2;by_cases e:x=y
  ·subst e;rw [if_pos rfl]at h1 h2;rw [mG h1 h2]
  ·rw [if_neg e,decide_eq_false_iff_not]at h1;rw [if_neg (fun z=>e z.symm),decide_eq_false_iff_not]at h2;omega
noncomputable def rank (rows:List (List Int))(x:List Int):Int:=(rows.countP fun z=>HT.lexLt z x:Nat)
theorem tD:∀{l:List α},(∀a∈l,p a=true->q a=true)->l.countP p<=l.countP q
 | [],_=>by simp
 |a::l,h=>by
  have ih:=tD (p:=p) (q:=q) (l:=l) fun b hb=>h b (zjS _ hb);rw [countP_cons,countP_cons];have:=h a zjR;cases hp:p a<;>cases hq:q a<;>simp_all<;>omega
theorem wT:∀{l:List α},(∀a∈l,p a=true->q a=true)->x∈l->p x=false->q x=true->l.countP p<l.countP q
 | [],_,hx,_,_=>by cases hx
 |a::l,h,hx,hp,hq=>by
  have hl:∀b∈l,p b=true->q b=true:=fun b hb=>h b (zjS _ hb);rw [countP_cons,countP_cons];rcases mem_cons.mp hx with e|e
  ·subst e;have:=tD hl;rw [hp,hq];simp;omega
  ·have ih:=wT hl e hp hq;have:=h a zjR;cases hp':p a<;>cases hq':q a<;>simp_all<;>omega
theorem nG (hx:x∈rows)(hy:y∈rows):decide (rank rows x<rank rows y)=HT.lexLt x y:=by
 unfold rank;cases h:HT.lexLt x y with
 |true=>
  rw [decide_eq_true_eq];have:=wT (l:=rows) (p:=fun z=>HT.lexLt z x) (q:=fun z=>HT.lexLt z y) (fun a _ ha=>mJ ha h) hx (iH x) h;omega
 |false=>
  rw [decide_eq_false_iff_not];have:rows.countP (fun z=>HT.lexLt z y)<=rows.countP (fun z=>HT.lexLt z x):=by
   refine tD fun a _ ha=> ?_;cases h2:HT.lexLt y x with
   |true=>exact mJ ha h2
   |false=>rw [mG h h2];exact ha
  omega
end Srt
namespace L2
open PySem PySem.Spec PyProof.Rows Srt
section
variable {prog:Program}{w:World}{A:Around}
theorem A04 {C:Bool->Shared->Prop}{s:Shared}{b:Bool}:∀{xs ys:List Int}{us ws:List Value}(i:Nat),Vals (xs.map V.int) us->Vals (ys.map V.int) ws->C (HT.lexLt xs ys) s->
  W.KatLex prog w A b (decide (xs.length<ys.length)) C (us.zip ws) i s
 | [],[],_,_,i,.nil,.nil,h=>by
  show C (decide (0<0)) s;exact h
 | [],y::ys,_,_,i,.nil,.cons _ _,h=>by
  show C (decide (0<ys.length+1)) s;rw [zjV (by omega)];exact h
 |x::xs,[],_,_,i,.cons _ _,.nil,h=>by
  show C (decide (xs.length+1<0)) s;rw [zjU (by omega)];exact h
 |x::xs,y::ys,_,_,i,.cons r1 t1,.cons r2 t2,h=>by
  obtain⟨t,rfl⟩:=r1;obtain⟨u,rfl⟩:=r2;rw [HT.lexLt_cons]at h;refine W.kat_cons (wpAny_eqBool_int ?_);by_cases e:x=y
  ·subst e;rw [if_pos rfl]at h;rw [show(x==x)=true by simp];refine W.kat_yes ?_;have:=A04 (b:=b) (i+1) t1 t2 h;rw [show decide ((x::xs).length<(x::ys).length)=decide (xs.length<ys.length) by simp];exact this
  ·rw [if_neg e]at h;rw [show(x==y)=false by simpa using e];refine W.kat_no ?_;cases b&&i==0 with
   |true=>exact oneLt_int h
   |false=>exact W.kat_one _ _ (PyProof.Rows.lt_int (show W.BoolBack C (Value.bool (decide (x<y))) s from h))
end
theorem jU:∀{as:List Addr}{us:List Value},Vals (as.map V.ref) us->us=as.map Value.ref
 | [],_,.nil=>rfl
 |a::as,_,.cons r t=>by rw [jU t];cases (show _=Value.ref a from r);rfl
section
noncomputable def A5k {β:Type}(key:β->List Int)(zs zs':List (Addr×β)):Prop:=zs'.Perm zs/\zs'.Pairwise fun a b=>HT.lexLt (key b.2) (key a.2)=false
noncomputable def qQ (zs zs':List (Addr×List Int)):Prop:=zs'.Perm zs/\zs'.Pairwise fun a b=>HT.lexLt b.2 a.2=false
theorem A4n (z0:β)(key:β->List Int)(hp:Pm zs.length p)(hu:Up (fun i=>rank (zs.map key) (key (zs.getD i z0))) p zs.length):
  (p.toList.map fun i=>zs.getD i z0).Perm zs/\(p.toList.map fun i=>zs.getD i z0).Pairwise fun a b=>HT.lexLt (key b) (key a)=false:=by
 have hperm:=Array.perm_iff_toList_perm.mp hp;have inz:∀k (hk:k<p.toList.length),p.toList[k]<zs.length:=fun k hk=>by
  have:=hperm.mem_iff.mp (getElem_mem hk);simpa using this
 refine⟨(hperm.map fun i=>zs.getD i z0).trans (List.Perm.of_eq (ext_getElem (by simp) fun i a b=>by simp [b])),?_⟩;rw [pairwise_map,pairwise_iff_getElem];intro i j hi hj hij;have hsz:p.toList.length=zs.length:=by rw [Array.length_toList,hp.size]
 have h1:=hu i j (by omega) (by omega);have mem:∀k (hk:k<p.toList.length),key (zs.getD (p.toList[k]'hk) z0)∈zs.map key:=fun k hk=>by
  have e:zs.getD p.toList[k] z0=zs[p.toList[k]]'(inz k hk):=by rw [getD_eq_getElem?_getD,getElem?_eq_getElem (inz k hk)];rfl
  rw [e];exact List.mem_map_of_mem (getElem_mem _)
 have e:∀k (hk:k<p.toList.length),at' p k=p.toList[k]:=fun k hk=>by
  have:k<p.size:=by simpa using hk
  unfold at';simp [Array.getD,this]
 unfold R at h1;rw [e i hi,e j hj]at h1;rw [←nG (mem j hj) (mem i hi),decide_eq_false_iff_not];exact Int.not_lt.mpr h1
theorem A83 (b0:β)(key:β->List Int)(I:Inv X pins σ H s)(hq:SqL X.K H p (zs.map fun z=>V.ref z.1))(h64:zs.length<=1000000)(hd:64<=zs.length->zs.Pairwise fun z z'=>z.1≠z'.1/\key z.2≠key z'.2)
  (hr:∀h1 tk,(∀b o,s.heap.get? b=some o->h1.get? b=some o)->2<=zs.length->(∀Q2:SortKind->Shared->Prop,Q2 κ {s with heap:=h1,toks:=tk}->wpAny (model X.prog X.w) X.A.in1.in1 (keyKind' (zs.map fun z=>Value.ref z.1).toArray) Q2 X.xe {s with heap:=h1,toks:=tk})/\
   ∀z∈zs,∀z'∈zs,∀C:Bool->Shared->Prop,C (HT.lexLt (key z.2) (key z'.2)) {s with heap:=h1,toks:=tk}->wpAny (model X.prog X.w) X.A.in1.in1 (keyLt' κ (.ref z.1) (.ref z'.1)) C (fun _ _=>False) {s with heap:=h1,toks:=tk})
  (q:∀l zs',H l=none->A5k key zs zs'->Q (.ref l) (upd H l (.lst (zs'.map fun z=>V.ref z.1)))):wpAny (model X.prog X.w) X.A (call (.builtin "sorted") [.ref p]) (EP X pins σ Q) X.xe s:=by
 obtain⟨its,rv,pl,_⟩:=I.list hq;have hits:its=zs.map fun z=>Value.ref z.1:=by
  have:=jU (as:=zs.map (·.1)) (us:=its) (by rw [map_map];exact rv);rw [this,map_map];rfl
 subst hits;have gd:∀i,i<zs.length->(zs.map fun z=>Value.ref z.1).getD i Value.none= .ref (zs.getD i (0,b0)).1/\zs.getD i (0,b0)∈zs:=fun i hi=>by
  constructor
  ·simp [hi]
  ·rw [show zs.getD i (0,b0)=zs[i] by simp [hi]];exact getElem_mem _
 refine A0x (κ:=κ) (r:=fun i=>rank (zs.map fun z=>key z.2) (key (zs.getD i (0,b0)).2)) (vs:=zs.map fun z=>Value.ref z.1) (by rw [length_map];exact h64) (fun h6 i j hij hj=> ?_) (fun Q' k=> ?_) (fun h1 tk k1 h2=> ?_) fun D h' tk c pp hD hp hu o' k'=> ?_
 ·rw [length_map]at h6 hj;obtain⟨ei,mi⟩:=gd i (by omega);obtain⟨ej,mj⟩:=gd j hj;have:=pairwise_iff_getElem.mp (hd h6) i j (by omega) hj hij;have g:∀k (hk:k<zs.length),zs.getD k (0,b0)=zs[k]:=fun k hk=>by simp [hk]
  rw [←g i (by omega),←g j hj]at this;rw [ei,ej];refine⟨fun e=>this.2 (mG ?_ ?_),fun e=>this.1 (Value.ref.inj e)⟩
  ·rw [←nG (rows:=zs.map fun z=>key z.2) (mem_map.mpr ⟨_,mi,rfl⟩) (mem_map.mpr ⟨_,mj,rfl⟩),decide_eq_false_iff_not];omega
  ·rw [←nG (rows:=zs.map fun z=>key z.2) (mem_map.mpr ⟨_,mj,rfl⟩) (mem_map.mpr ⟨_,mi,rfl⟩),decide_eq_false_iff_not];omega
 ·refine collect_list pl.isList ?_ (by rw [length_map,sizeLine_eq];omega);refine k _ s.toks (fun b o e=> ?_) (by rw [size_update,size_push'];exact le_succ _);rw [Heap.get?_update_ne _ _ _ _ (ne_of_lt (zjT e))];exact zjX _ e
 ·rw [length_map]at h2;obtain⟨hk,hlt⟩:=hr h1 tk k1 h2;refine⟨hk,fun i j C hi hj hC=> ?_⟩;rw [length_map]at hi hj;obtain⟨ei,mi⟩:=gd i hi;obtain⟨ej,mj⟩:=gd j hj;show wpAny _ _ (keyLt' κ ((zs.map fun z=>Value.ref z.1).getD i Value.none) ((zs.map fun z=>Value.ref z.1).getD j Value.none)) C (fun _ _=>False) _;rw [ei,ej];rw [nG (mem_map.mpr ⟨_,mi,rfl⟩) (mem_map.mpr ⟨_,mj,rfl⟩)]at hC;exact hlt _ mi _ mj C hC
 ·rw [length_map]at hp hu;have so:=A4n (0,b0) (fun z:Addr×β=>key z.2) hp hu;have eo:(pp.toList.map fun i=>(zs.map fun z=>Value.ref z.1).getD i Value.none)=(pp.toList.map fun i=>zs.getD i (0,b0)).map fun z=>Value.ref z.1:=by
   rw [map_map];refine map_congr_left fun i hi=> ?_;have:i<zs.length:=by
    have:=(Array.perm_iff_toList_perm.mp hp).mem_iff.mp hi;simpa using this
   exact(gd i this).1
  rw [eo]at o';have hlen:=so.1.length_eq;have vf:∀zs:List (Addr×β),Vals (zs.map fun z=>V.ref z.1) (zs.map fun z=>Value.ref z.1):=fun zs=>by
   induction zs with
   |nil=>exact .nil
   |cons z zs ih=>exact .cons rfl ih
  exact⟨.ref D,_,I.laid (t':=tk) (o:=.lst ((pp.toList.map fun i=>zs.getD i (0,b0)).map fun z=>V.ref z.1)) k' hD ⟨by rw [length_map,hlen,sizeLine_eq];omega,_,c,vf _,o'⟩,rfl,q _ _ (I.hok.fresh hD) so⟩
theorem oZ {s:Shared}{pins:List (Addr×Obj)}{σ:St}{H:Hp}(I:Inv X pins σ H s){h':Heap}(k:∀b o,s.heap.get? b=some o->h'.get? b=some o){z:Addr}{ns:List Int}(hz:H z=some (.tup (ns.map V.int))):∃it:List Value,Vals (ns.map V.int) it/\∃o n,h'.get? z=some o/\o.cls= .type "tuple"/\o.data= .seq it.toArray n:=by obtain⟨_,it,rt,o,ho,hc,n,hd⟩:=(show ObjOk X.prog X.w H s.heap z (.tup _)from I.hok _ _ hz);exact⟨it,rt,o,n,k _ _ ho,hc,hd⟩
theorem wN:∀{a b:List Int},a.map V.int=b.map V.int->a=b
 | [],[],_=>rfl
 | [],_::_,h=>by cases h
 |_::_,[],h=>by cases h
 |x::a,y::b,h=>by
  injection h with h1 h2;injection h1 with h1;rw [h1,wN h2]
theorem zT:dZ X (.builtin "sorted") (fun xs H Q=> ∃(p:Addr)(zs:List (Addr×List Int)),xs=[.ref p]/\SqL X.K H p (zs.map fun z=>V.ref z.1)/\(∀z∈zs,H z.1=some (.tup (z.2.map V.int))/\z.2≠[])/\zs.length<=1000000/\(64<=zs.length->(zs.map (·.2)).Pairwise (· ≠ ·))/\
  ∀l zs',H l=none->qQ zs zs'->Q (.ref l) (upd H l (.lst (zs'.map fun z=>V.ref z.1)))):=by
 intro pins s σ H xs us Q I r h;obtain⟨p,zs,rfl,hq,hz,h64,h6,q⟩:=h;obtain⟨u,rfl,rx⟩:=eK r;cases rx;refine A83 [] id (κ:=tuples' true) I hq h64 (fun h=>(List.Pairwise.and_mem.mp (pairwise_map.mp (h6 h))).imp fun{x y} q=> ⟨fun e=>q.2.2 (wN (HO.tup.inj (Option.some.inj ((hz x q.1).1.symm.trans (e▸(hz y q.2.1).1))))),q.2.2⟩) (fun h1 tk k1 h2=> ⟨fun Q2 q2=> ?_,fun z hm z' hm' C hC=> ?_⟩) q
 ·have key:∀ys:List (Addr×List Int),(∀z∈ys,z∈zs)->∃fs:List Value,W.KatTups h1 (ys.map fun z=>Value.ref z.1) fs/\fs.length=ys.length/\∀v∈fs,∃n t,v= .int n t:=fun ys=>by
   induction ys with
   |nil=>intro _;exact⟨[],trivial,rfl,fun v hv=>by cases hv⟩
   |cons z ys ih=>
    intro hm;obtain⟨fs,g1,g2,g3⟩:=ih fun y hy=>hm y (zjS _ hy);obtain⟨it,rt,o,n,ho,hc,hd⟩:=oZ I k1 (hz z (hm z zjR)).1;obtain⟨x,xs',ex⟩:=exists_cons_of_ne_nil (hz z (hm z zjR)).2;rw [ex]at rt;cases rt with
    |cons r0 t0=>
     obtain⟨t,rfl⟩:=r0;exact⟨.int x t::fs,W.KatTups.cons ho hc hd (by simp) g1,by simp [g2],fun v hv=>by
      rcases mem_cons.mp hv with e|e
      ·exact⟨x,t,e⟩
      ·exact g3 v e⟩
  obtain⟨fs,g1,g2,g3⟩:=key zs fun z hz=>hz;refine W.kat_kind (T:=.type "int") (s:={s with heap:=h1,toks:=tk}) g1 (by omega) (fun v hv=> ?_) rfl q2;obtain⟨n,t,rfl⟩:=g3 v hv;exact W.Looks.of_pure rfl
 ·obtain⟨it,rt,o,n,ho,hc,hd⟩:=oZ I k1 (hz z hm).1;obtain⟨it2,rt2,o2,n2,ho2,hc2,hd2⟩:=oZ I k1 (hz z' hm').1;refine W.kat_lt (s:={s with heap:=h1,toks:=tk}) ho hd ho2 hd2 ?_;have l1:=rt.length;have l2:=rt2.length;rw [length_map]at l1 l2;rw [size_toArray,size_toArray,←l1,←l2];exact A04 0 rt rt2 hC
theorem zQ:dZ X (.builtin "sorted") (fun xs H Q=> ∃(p:Addr)(zs:List (Addr×List Int)),xs=[.ref p]/\SqL X.K H p (zs.map fun z=>V.ref z.1)/\(∀z∈zs,H z.1=some (.tup (z.2.map V.int))/\z.2≠[])/\zs.length<64/\
  ∀l zs',H l=none->qQ zs zs'->Q (.ref l) (upd H l (.lst (zs'.map fun z=>V.ref z.1)))):=fun _ _ _ _ _ _ _ I r h=>let ⟨p,zs,a,b,c,d,q⟩:=h;zT _ _ _ _ _ _ _ I r ⟨p,zs,a,b,c,by omega,fun h=>absurd d (by omega),q⟩
end
end L2
namespace Wlk
noncomputable abbrev Pl:=Int×Int
noncomputable abbrev rA:=Pl×Pl
noncomputable def cout (nw ne sw se:Bool):Fin 4->Bool
 |0=>se&& !ne
 |1=>sw&& !se
 |2=>nw&& !sw
 |3=>ne&& !nw
noncomputable def nx (nw ne sw se:Bool)(d:Fin 4):Fin 4:=if cout nw ne sw se (d+1)=true then d+1 else if cout nw ne sw se d=true then d else d+3
section
variable (land:List Pl)(b:Pl)
end
section
end
end Wlk
namespace Cyc
section
variable {α:Type} [DecidableEq α]
noncomputable def it (f:α->α):Nat->α->α
 |0,s=>s
 |n+1,s=>f (it f n s)
theorem jA:∀{xs ys:List α},xs.Nodup->(∀x∈xs,x∈ys)->xs.length<=ys.length
 | [],_,_,_=>zero_le _
 |x::xs,ys,hn,h=>by
  have hx:=h x zjR;have hn':=nodup_cons.mp hn;have ih:=jA (ys:=ys.erase x) hn'.2 fun y hy=>by
   refine(List.mem_erase_of_ne fun z=> ?_).mpr (h y (zjS _ hy));subst z;exact hn'.1 hy
  rw [List.length_erase_of_mem hx]at ih;have:=List.length_pos_of_mem hx;rw [length_cons];omega
variable {l:List α}{f:α->α}
end
end Cyc
namespace Srt
open PySem PySem.W PyProof.Rows L2
noncomputable def fl:List (Int×Int)->List Int
 | []=> []
 |c::cs=>c.1::c.2::fl cs
end Srt
namespace L2
open PySem PySem.Spec PyProof.Rows Srt
noncomputable def SqA (H:Hp)(a:Addr)(cs:List (Int×Int)):Prop:=∃ps:List Addr,H a=some (.tup (ps.map V.ref))/\PlAt H ps cs
theorem SqA.same (h:SqA H a cs)(s:Same H H'):SqA H' a cs:=let ⟨ps,h1,h2⟩:=h;⟨ps,s _ _ h1,h2.same s⟩
theorem A0a:∀{ps qs:List Addr},ps.map V.ref=qs.map V.ref->ps=qs
 | [],[],_=>rfl
 | [],_::_,h=>by cases h
 |_::_,[],h=>by cases h
 |p::ps,q::qs,h=>by
  injection h with h1 h2;injection h1 with h1;rw [h1,A0a h2]
theorem PlAt.val:∀{ps:List Addr}{cs ds:List (Int×Int)},PlAt H ps cs->PlAt H ps ds->cs=ds
 | [],[],[],.nil,.nil=>rfl
 |p::ps,(_,_)::cs,(_,_)::ds,.cons r1 t1,.cons r2 t2=>by
  have e:some (HO.tup _)=some (HO.tup _):=(show H p=_ from r1).symm.trans r2;cases e;rw [PlAt.val t1 t2]
theorem SqA.val (h:SqA H a cs)(h':SqA H a ds):cs=ds:=by
 obtain⟨ps,h1,h2⟩:=h;obtain⟨qs,h3,h4⟩:=h';have e:=h1.symm.trans h3;injection e with e
 injection e with e;rw [←A0a e]at h4;exact h2.val h4
section
end
end L2
namespace PySem
section
end
end PySem
namespace L2
open PySem PySem.Spec PyProof.Rows
section
end
end L2
namespace L2
open PySem PySem.W PySem.Calls PyProof.Rows Builtin Builtin.ObjectAttr Builtin.Getset_descriptor
section
variable {prog:Program}{w:World}{A:Around}{E:Value->Shared->Prop}{K:W.Frag}{x D:Addr}
end
end L2
namespace L2
open PySem PySem.Spec PyProof.Rows
theorem PI.or (h1:PI X tg iter w1)(h2:PI X tg iter w2):PI X tg iter (fun σ H R=>w1 σ H R\/w2 σ H R):=by
 intro pins s σ H R I h;rcases h with h|h
 ·exact h1 pins s σ H R I h
 ·exact h2 pins s σ H R I h
noncomputable abbrev C3:=Int×Int×Int
noncomputable def ClP (H:Hp)(bs:List Addr)(cl:List C3):Prop:=Paired (fun b (c:C3)=>H b=some (.tup [.int c.1,.int c.2.1,.int c.2.2])) bs cl
theorem ClP.ext (h:ClP H bs cl)(e:Ext H H'):ClP H' bs cl:=Paired.mapP h fun _ _ z=>e.tup _ _ z
theorem ClP.get:∀{bs:List Addr}{cl:List C3}{i:Nat}{b:Addr},ClP H bs cl->bs[i]?=some b->∃c,cl[i]?=some c/\H b=some (.tup [.int c.1,.int c.2.1,.int c.2.2])
 |_,_,0,_,.cons r _,h=>by cases h;exact⟨_,rfl,r⟩
 |_,_,i+1,_,.cons _ t,h=>ClP.get (i:=i) t (by simpa using h)
noncomputable def ClT (H:Hp)(a:Addr)(cl:List C3):Prop:=∃bs,H a=some (.tup (bs.map V.ref))/\ClP H bs cl
theorem ClT.ext (h:ClT H a cl)(e:Ext H H'):ClT H' a cl:=let ⟨bs,h1,h2⟩:=h;⟨bs,e.tup _ _ h1,h2.ext e⟩
structure fZ (cs:List Int):Prop where
 l1:1<=cs.length
 l6:cs.length<=6
 num:∀x∈cs,1<=x/\x<=100
noncomputable def lt2 (a b:Int×Int):Bool:=HT.lexLt [a.1,a.2] [b.1,b.2]
noncomputable def lP (c:C3):Int×Int:=(c.1,c.2.1)
structure fV (cl:List C3):Prop where
 l1:1<=cl.length
 l12:cl.length<=12
 num:∀c∈cl,(0<=c.1/\c.1<=3)/\(0<=c.2.1/\c.2.1<=5)/\1<=c.2.2/\c.2.2<=20
 up:(cl.map lP).Pairwise fun a b=>lt2 a b=true
noncomputable def iJ (cs:List Int)(cl:List C3):Prop:=∀c∈cl,c.2.1<cs.length
noncomputable def iC (H:Hp)(a:Addr)(cs:List Int):Prop:=H a=some (.tup (cs.map V.int))
noncomputable def Wk (J:It)(xs:List V)(S:Hp->Prop):Prop:=∀{g:TG}{tb:TS}{D:cY}{σ:St}{H:Hp}(Pv:Nat->St->Hp->Prop),Pv 0 σ H->(∀i σ H,i<=xs.length->Pv i σ H->S H)->
 (∀i x σ H,xs[i]?=some x->Pv i σ H->g x σ H fun σ2 H2=>tb {D with nx:=Pv (i+1),ct:=Pv (i+1),bk:=D.nx} σ2 H2)->(∀σ H,Pv xs.length σ H->D.nx σ H)->dI J g tb D σ H
theorem gH {K:W.Frag}{a:Addr}{xs:List V}:Wk (Itt K a) xs fun H=>SqT K H a xs:=fun Pv h0 hl hs hd=>gM Pv h0 hl hs hd
theorem lA {K:W.Frag}{a:Addr}{xs:List V}:Wk (Itl K a) xs fun H=>SqL K H a xs:=fun Pv h0 hl hs hd=>dQ Pv h0 hl hs hd
theorem jV {K:PySem.W.Frag}{J:It}{S:Hp->Prop}{l:Addr}{bs:List Addr}{cl:List C3}{te:TE}{H0:Hp}{rest:St}{Q:St->Hp->Prop}(W:Wk J (bs.map V.ref) S)(hS:∀H',Same H0 H'->S H')(hC:ClP H0 bs cl)(hl:H0 l=none)(hz:bs.length<=1000)(f:C3->V)
  (turn:∀c H' Q',c∈cl->Same H0 H'->(∀H2,Same H' H2->Q' (f c) H2)->te (some (.int c.1)::some (.int c.2.1)::some (.int c.2.2)::rest) H' Q')(hQ:∀σ H',Same H0 H'->H' l=some (.lst (cl.map f))->Q σ H'):
  dI J (iA K 3 (dU (cO 0) (dU (cO 1) (dU (cO 2) gT)))) (cL fX (dL l te)) (eC Q) (none::none::none::rest) (upd H0 l (.lst [])):=by
 have hlen:bs.length=cl.length:=Paired.length hC;refine W (fun i σ H'=>(∃x y z,σ=x::y::z::rest)/\Same H0 H'/\H' l=some (.lst ((cl.take i).map f))) ⟨⟨_,_,_,rfl⟩,aM hl,by rw [aG];rfl⟩ (fun i σ H' _ h=>hS _ h.2.1) ?_ ?_
 ·rintro i x σ H' hx ⟨⟨x0,y0,z0,rfl⟩,hs,hl'⟩;rw [getElem?_map]at hx;cases hb:bs[i]? with
  |none=>rw [hb]at hx;cases hx
  |some b=>
   rw [hb]at hx;cases hx;obtain⟨c,hc,he⟩:=hC.get hb;refine⟨b,_,rfl,SqT.of (hs _ _ he),rfl,_,_,rfl,_,_,rfl,_,_,rfl,rfl,?_⟩;refine hZ ?_;refine turn c H' _ (mem_of_getElem? hc) hs fun H2 h2=> ?_;refine⟨_,h2 _ _ hl',cA (by rw [length_map,length_take];omega),⟨_,_,_,rfl⟩,fun b u e=> ?_,?_⟩
   ·rw [aV (bG e hl)];exact h2 _ _ (hs _ _ e)
   ·rw [aG,take_succ,hc,map_append];rfl
 ·rintro σ H' ⟨_,hs,hl'⟩;rw [length_map,hlen,take_of_length_le (zjQ _)]at hl';exact hQ σ H' hs hl'
theorem A67 {K:PySem.W.Frag}{J:It}{S:Hp->Prop}{l:Addr}{bs:List Addr}{cl:List C3}{H0:Hp}{Q:St->Hp->Prop}(W:Wk J (bs.map V.ref) S)(hS:∀H',Same H0 H'->S H')(hC:ClP H0 bs cl)(hl:H0 l=none)(hz:bs.length<=1000)
  (hQ:∀σ H' ps,Same H0 H'->H' l=some (.lst (ps.map V.ref))->PlAt H' ps (cl.map lP)->Q σ H'):
  dI J (iA K 3 (dU (cO 0) (dU (cO 1) (dU (cO 2) gT)))) (cL fX (dL l (nS (dJ (dP 0) (dJ (dP 1) kS))))) (eC Q) [none,none,none] (upd H0 l (.lst [])):=by
 have hlen:bs.length=cl.length:=Paired.length hC;refine W (fun i σ H'=>σ.length=3/\Same H0 H'/\∃ps:List Addr,H' l=some (.lst (ps.map V.ref))/\PlAt H' ps ((cl.take i).map lP)) ⟨rfl,aM hl,[],by rw [aG];rfl,.nil⟩ (fun i σ H' _ h=>hS _ h.2.1) ?_ ?_
 ·rintro i x σ H' hx ⟨hσ,hs,ps,hl',hP⟩
  match σ,hσ with
  | [x0,y0,z0],_=>
  rw [getElem?_map]at hx;cases hb:bs[i]? with
  |none=>rw [hb]at hx;cases hx
  |some b=>
   rw [hb]at hx;cases hx;obtain⟨c,hc,he⟩:=hC.get hb;have hpl:ps.length<=i:=by have:=Paired.length hP;rw [length_map,length_take]at this;omega
   have hil:i<bs.length:=(zjW.mp hb).1;refine⟨b,_,rfl,SqT.of (hs _ _ he),rfl,_,_,rfl,_,_,rfl,_,_,rfl,rfl,?_⟩;refine hZ ?_;refine⟨_,rfl,_,rfl,by show 2<=sizeLine;decide,fun q hq=> ?_⟩;have s2:=aM (o:=.tup [.int c.1,.int c.2.1]) hq;have hlq:q≠l:=fun z=>by rw [z,hl']at hq;cases hq
   refine⟨_,s2 _ _ hl',cA (by rw [length_map];omega),rfl,fun b u e=> ?_,ps++[q],?_,?_⟩
   ·rw [aV (bG e hl)];exact s2 _ _ (hs _ _ e)
   ·rw [aG,map_append];rfl
   ·rw [take_succ,hc,map_append];refine PlAt.snoc (Paired.mapP hP fun p c' e=> ?_) (by rw [aV hlq,aG];rfl);have e':=s2 _ _ e;rw [aV (fun z=>by rw [z,s2 _ _ hl']at e';cases e')];exact e'
 ·rintro σ H' ⟨_,hs,ps,hl',hP⟩;rw [length_map,hlen,take_of_length_le (zjQ _)]at hP;exact hQ σ H' ps hs hl' hP
noncomputable def E3 (R:V->V->Bool->Prop):List V->List V->List Bool->Prop
 | [],[],[]=>True
 |x::xs,y::ys,k::ks=>R x y k/\E3 R xs ys ks
 |_,_,_=>False
noncomputable def EqF (a b:V)(k:Bool):Prop:=(∃i j,a= .int i/\b= .int j/\k=decide (i=j))\/ ∃x y,a= .str x/\b= .str y/\k=decide (x=y)
noncomputable def EqD (H:Hp):Nat->V->V->Bool->Prop
 |0,a,b,k=>EqF a b k
 |n+1,a,b,k=>EqF a b k\/ ∃p q xs ys ks,a= .ref p/\b= .ref q/\((H p=some (.tup xs)/\H q=some (.tup ys))\/(H p=some (.lst xs)/\H q=some (.lst ys)))/\E3 (EqD H n) xs ys ks/\k=ks.all id
theorem E3.len:∀{xs ys:List V}{ks:List Bool},E3 R xs ys ks->xs.length=ys.length/\xs.length=ks.length
 | [],[],[],_=> ⟨rfl,rfl⟩
 |x::xs,y::ys,k::ks,h=>by
  have:=E3.len h.2;simp only [length_cons];omega
 | [],[],_::_,h=>h.elim
 | [],_::_,_,h=>h.elim
 |_::_,[],_,h=>h.elim
 |_::_,_::_,[],h=>h.elim
theorem E3.get:∀{xs ys:List V}{ks:List Bool}{i:Nat}{x y:V},E3 R xs ys ks->xs[i]?=some x->ys[i]?=some y->∃k,ks[i]?=some k/\R x y k
 |x::xs,y::ys,k::ks,0,_,_,h,h1,h2=>by cases h1;cases h2;exact⟨k,rfl,h.1⟩
 |x::xs,y::ys,k::ks,i+1,_,_,h,h1,h2=>E3.get (i:=i) h.2 (by simpa using h1) (by simpa using h2)
 | [],_,_,_,_,_,_,h1,_=>by simp at h1
 |_::_,[],_,_,_,_,h,_,_=>h.elim
 |_::_,_::_,[],_,_,_,h,_,_=>h.elim
theorem EqF.refl_true (h:EqF a a k):k=true:=by
 rcases h with⟨i,j,h1,h2,h3⟩| ⟨x,y,h1,h2,h3⟩
 ·rw [h1]at h2;rw [h3,V.int.inj h2];simp
 ·rw [h1]at h2;rw [h3,V.str.inj h2];simp
theorem EqD.refl_true:∀{n:Nat}{a:V}{k:Bool},EqD H n a a k->k=true
 |0,a,k,h=>EqF.refl_true h
 |n+1,a,k,h=>by
  rcases h with h| ⟨p,q,xs,ys,ks,h1,h2,h3,h4,h5⟩
  ·exact EqF.refl_true h
  ·rw [h1]at h2;cases h2;have e:xs=ys:=by
    rcases h3 with⟨u,v⟩| ⟨u,v⟩
    ·rw [u]at v;cases v;rfl
    ·rw [u]at v;cases v;rfl
   subst e;rw [h5,all_eq_true];have go:∀{xs:List V}{ks:List Bool},E3 (EqD H n) xs xs ks->∀k∈ks,id k=true:=fun{xs ks}=>by
    induction xs generalizing ks with
    |nil=>intro h k hk;cases ks with|nil=>cases hk|cons _ _=>exact h.elim
    |cons x xs ih=>
     intro h k hk;cases ks with
     |nil=>cases hk
     |cons k0 ks=>
      rcases mem_cons.mp hk with z|z
      ·rw [z];exact EqD.refl_true h.1
      ·exact ih h.2 k z
   exact go h4
theorem EqD.int (n:Nat)(i j:Int):EqD H n (.int i) (.int j) (decide (i=j)):=by
 cases n with
 |zero=>exact .inl ⟨i,j,rfl,rfl,rfl⟩
 |succ n=>exact .inl (.inl ⟨i,j,rfl,rfl,rfl⟩)
section
theorem wP (ks:List Bool):(List.range ks.length).all (fun j=>ks.getD j true)=ks.all id:=by
 rw [Bool.eq_iff_iff,all_eq_true,all_eq_true];constructor
 ·intro h k hk;obtain⟨j,hj,e⟩:=getElem_of_mem hk;have:=h j (by simpa using hj);rw [show ks.getD j true=ks[j] by simp [hj],e]at this;exact this
 ·intro h j hj;have hj':j<ks.length:=by simpa using hj
  rw [show ks.getD j true=ks[j] by simp [hj']];exact h _ (getElem_mem _)
theorem nN (ih:∀{a b:V}{k:Bool}{u v:Value},EqD H n a b k->RelV a u->RelV b v->SeqAt.EqAt A s u v k)(h4:E3 (EqD H n) xs ys ks)(r1:Vals xs us)(r2:Vals ys ws):
  ∀j (h1:j<us.toArray.size)(h2:j<ws.toArray.size),SeqAt.EqAt A s us.toArray[j] ws.toArray[j] (ks.getD j true):=fun j h1 h2=>by
 have hl:=h4.len;have l1:=r1.length;have l2:=r2.length;rw [size_toArray]at h1 h2;have j1:j<xs.length:=by omega
 have j2:j<ys.length:=by omega
 obtain⟨u,hu,ru⟩:=r1.get (getElem?_eq_getElem j1);obtain⟨v,hv,rv⟩:=r2.get (getElem?_eq_getElem j2);obtain⟨k,hk,e⟩:=h4.get (getElem?_eq_getElem j1) (getElem?_eq_getElem j2);have eu:us.toArray[j]=u:=by
  have:=(zjW.mp hu).2;simpa using this
 have ev:ws.toArray[j]=v:=by
  have:=(zjW.mp hv).2;simpa using this
 rw [eu,ev,show ks.getD j true=k by rw [getD_eq_getElem?_getD,hk];rfl];exact ih e ru rv
theorem rZ (I:Inv X pins σ H s)(hu:A.units<cLine)(ih:∀{a b:V}{k:Bool}{u v:Value},EqD H n a b k->RelV a u->RelV b v->SeqAt.EqAt A.in1 s u v k)
  (h3:(H p=some (.tup xs)/\H q=some (.tup ys))\/(H p=some (.lst xs)/\H q=some (.lst ys)))(h4:E3 (EqD H n) xs ys ks):SeqAt.RcAt A s (.ref p) (.ref q) (ks.all id)/\SeqAt.RcNeAt A s (.ref p) (.ref q) (!ks.all id):=by
 have hl:=h4.len;rcases h3 with⟨hp,hq⟩| ⟨hp,hq⟩
 ·obtain⟨us,r1,p1,_⟩:=I.tuple (SqT.of hp);obtain⟨ws,r2,p2,_⟩:=I.tuple (SqT.of hq);have l1:=r1.length;have l2:=r2.length;have e:((List.range (min us.toArray.size ws.toArray.size)).all (fun j=>ks.getD j true)&&us.toArray.size==ws.toArray.size)=ks.all id:=by
   rw [size_toArray,size_toArray,show min us.length ws.length=ks.length by omega,wP,show us.length=ws.length by omega];simp
  have k1:=SeqAt.RcAt.tuples p1 p2 hu (nN ih h4 r1 r2);have k2:=SeqAt.RcNeAt.tuples p1 p2 hu (nN ih h4 r1 r2);rw [e]at k1 k2;exact⟨k1,k2⟩
 ·obtain⟨us,r1,p1,_⟩:=I.list (SqL.of hp);obtain⟨ws,r2,p2,_⟩:=I.list (SqL.of hq);have l1:=r1.length;have l2:=r2.length;have e:(List.range us.toArray.size).all (fun j=>ks.getD j true)=ks.all id:=by rw [size_toArray,show us.length=ks.length by omega,wP]
  have hz:us.toArray.size=ws.toArray.size:=by rw [size_toArray,size_toArray];omega
  have k1:=SeqAt.RcAt.lists p1.isList p2.isList hz hu (nN ih h4 r1 r2);have k2:=SeqAt.RcNeAt.lists p1.isList p2.isList hz hu (nN ih h4 r1 r2);rw [e]at k1 k2;exact⟨k1,k2⟩
theorem qP (I:Inv X pins σ H s):∀{n:Nat}{A:Around}{a b:V}{k:Bool}{u v:Value},A.units+n<cLine->EqD H n a b k->RelV a u->RelV b v->SeqAt.EqAt A s u v k:=by
 have flat:∀{A:Around}{a b:V}{k:Bool}{u v:Value},EqF a b k->RelV a u->RelV b v->SeqAt.EqAt A s u v k:=fun{A a b k u v} h ra rb=>by
  rcases h with⟨i,j,rfl,rfl,rfl⟩| ⟨x,y,rfl,rfl,rfl⟩
  ·obtain⟨t,rfl⟩:=ra;obtain⟨t',rfl⟩:=rb;have:=SeqAt.EqAt.int_int (A:=A) (s:=s) i t j t'
   rwa [show(i==j)=decide (i=j) by rw [Bool.eq_iff_iff];simp]at this
  ·obtain⟨t,rfl⟩:=ra;obtain⟨t',rfl⟩:=rb;have:=SeqAt.EqAt.str_str (A:=A) (s:=s) x t y t'
   rwa [show(x==y)=decide (x=y) by rw [Bool.eq_iff_iff];simp]at this
 intro n
 induction n with
 |zero=>intro A a b k u v _ h ra rb;exact flat h ra rb
 |succ n ih=>
  intro A a b k u v hu h ra rb;rcases h with h| ⟨p,q,xs,ys,ks,rfl,rfl,h3,h4,rfl⟩
  ·exact flat h ra rb
  ·cases ra;cases rb;by_cases hpq:p=q
   ·subst hpq;have:(ks.all id)=true:=EqD.refl_true (n:=n+1) (H:=H) (a:=.ref p) (.inr ⟨p,p,xs,ys,ks,rfl,rfl,h3,h4,rfl⟩);rw [this];exact SeqAt.EqAt.same _
   ·exact SeqAt.EqAt.of_refs hpq (rZ I (by omega) (fun e r1 r2=>ih (show A.in1.units+n<cLine by show A.units+1+n<cLine;omega) e r1 r2) h3 h4).1
end
section
noncomputable def zC (n:Nat)(g:Bool->Bool):R2:=fun x y H Q=> ∃p q xs ys ks,x= .ref p/\y= .ref q/\((H p=some (.tup xs)/\H q=some (.tup ys))\/(H p=some (.lst xs)/\H q=some (.lst ys)))/\E3 (EqD H n) xs ys ks/\Q (.bl (g (ks.all id))) H
theorem zX (n:Nat)(hu:X.A.units+n+1<cLine):OpR X (compareOp .Eq) (zC n id):=by intro pins s σ H x y v u Q I rx ry h;obtain⟨p,q,xs,ys,ks,rfl,rfl,h3,h4,hq⟩:=h;cases rx;cases ry;exact(rZ I (by omega) (fun e r1 r2=>qP I (show X.A.in1.units+n<cLine by show X.A.units+1+n<cLine;omega) e r1 r2) h3 h4).1 X.prog X.w X.xe _ ⟨.bl _,H,I,rfl,hq⟩
theorem yV (n:Nat)(hu:X.A.units+n+1<cLine):OpR X (compareOp .NotEq) (zC n not):=by intro pins s σ H x y v u Q I rx ry h;obtain⟨p,q,xs,ys,ks,rfl,rfl,h3,h4,hq⟩:=h;cases rx;cases ry;exact(rZ I (by omega) (fun e r1 r2=>qP I (show X.A.in1.units+n<cLine by show X.A.units+1+n<cLine;omega) e r1 r2) h3 h4).2 X.prog X.w X.xe _ ⟨.bl _,H,I,rfl,hq⟩
noncomputable def xK (n:Nat)(g:Bool->Bool):R2:=fun x y H Q=> ∃q xs ks,y= .ref q/\(H q=some (.tup xs)\/H q=some (.lst xs))/\E3 (EqD H n) xs (xs.map fun _=>x) ks/\Q (.bl (g (ks.any id))) H
theorem uW:∀{a b:V}{u:Value},RelV a u->RelV b u->a=b:=fun{a b u} ha hb=>by
 cases a<;>cases b<;>simp only [RelV]at ha hb<;>first
  |rfl
  | (subst ha;cases hb;rfl)
  | (subst ha;cases hb;done)
  | (obtain⟨t,rfl⟩:=ha;obtain⟨t',e⟩:=hb;cases e;rfl)
  | (obtain⟨t,rfl⟩:=ha;obtain⟨t',e⟩:=hb;cases e;done)
  | (obtain⟨t,rfl⟩:=ha;cases hb;done)
  | (obtain⟨t,rfl⟩:=hb;cases ha;done)
theorem EqF.func (h:EqF a b k)(h':EqF a b k'):k=k':=by
 rcases h with⟨i,j,rfl,rfl,rfl⟩| ⟨x,y,rfl,rfl,rfl⟩
 ·rcases h' with⟨i',j',h1,h2,rfl⟩| ⟨x,y,h1,h2,rfl⟩
  ·cases h1;cases h2;rfl
  ·cases h1
 ·rcases h' with⟨i',j',h1,h2,rfl⟩| ⟨x',y',h1,h2,rfl⟩
  ·cases h1
  ·cases h1;cases h2;rfl
theorem EqF.noref (h:EqF (.ref p) b k):False:=by rcases h with⟨i,j,h1,_⟩| ⟨x,y,h1,_⟩<;>cases h1
theorem EqD.func:∀{n:Nat}{a b:V}{k k':Bool},EqD H n a b k->EqD H n a b k'->k=k'
 |0,a,b,k,k',h,h'=>EqF.func h h'
 |n+1,a,b,k,k',h,h'=>by
  rcases h with h| ⟨p,q,xs,ys,ks,rfl,rfl,h3,h4,rfl⟩
  ·rcases h' with h'| ⟨p,q,xs,ys,ks,rfl,rfl,h3,h4,rfl⟩
   ·exact EqF.func h h'
   ·exact h.noref.elim
  ·rcases h' with h'| ⟨p',q',xs',ys',ks',e1,e2,h3',h4',rfl⟩
   ·exact h'.noref.elim
   ·cases e1;cases e2;have ex:xs=xs'/\ys=ys':=by
     rcases h3 with⟨u,v⟩| ⟨u,v⟩<;>rcases h3' with⟨u',v'⟩| ⟨u',v'⟩<;>rw [u]at u'<;>rw [v]at v'<;>cases u'<;>cases v'<;>exact⟨rfl,rfl⟩
    obtain⟨rfl,rfl⟩:=ex;have go:∀{xs ys:List V}{ks ks':List Bool},E3 (EqD H n) xs ys ks->E3 (EqD H n) xs ys ks'->ks=ks':=fun{xs}=>by
     induction xs with
     |nil=>
      intro ys ks ks' g g';cases ys with
      |nil=>
       cases ks with
       |nil=>cases ks' with|nil=>rfl|cons _ _=>exact g'.elim
       |cons _ _=>exact g.elim
      |cons _ _=>exact g.elim
     |cons x xs ih=>
      intro ys ks ks' g g';cases ys with
      |nil=>exact g.elim
      |cons y ys=>
       cases ks with
       |nil=>exact g.elim
       |cons k ks=>
        cases ks' with
        |nil=>exact g'.elim
        |cons k' ks'=>rw [EqD.func g.1 g'.1,ih g.2 g'.2]
    rw [go h4 h4']
open Classical in
theorem xC (he:∀a u k,RelV a u->EqD H n a x k->e u=k):∀{xs:List V}{us:List Value}{ks:List Bool},Vals xs us->E3 (EqD H n) xs (xs.map fun _=>x) ks->us.any e=ks.any id
 | [],_,[],.nil,_=>rfl
 | [],_,_::_,.nil,h=>h.elim
 |y::xs,_,k::ks,.cons r t,h=>by
  rw [any_cons,any_cons,he _ _ _ r h.1,xC he t h.2];rfl
 |_::_,_,[],.cons _ _,h=>h.elim
open Classical in
theorem nF (I:Inv X pins σ H s)(hu:A.units+n<cLine)(rx:RelV x v)(r:Vals xs us)(h:E3 (EqD H n) xs (xs.map fun _=>x) ks):
  ∃e:Value->Bool,(∀y∈us,SeqAt.EqAt A s y v (e y))/\us.any e=ks.any id:=by
 refine⟨fun y=>decide (∃a,RelV a y/\EqD H n a x true),fun y hy=> ?_,xC (fun a u k ra hk=> ?_) r h⟩
 ·obtain⟨j,hj,e⟩:=getElem_of_mem hy;have hl:=r.length;have hjx:j<xs.length:=by omega
  obtain⟨u,hu',ru⟩:=r.get (getElem?_eq_getElem hjx);have eu:u=y:=by
   rw [getElem?_eq_getElem hj,e]at hu';exact(Option.some.inj hu').symm
  subst eu;obtain⟨k,hk,ek⟩:=h.get (getElem?_eq_getElem hjx) (y:=x) (by rw [getElem?_map,getElem?_eq_getElem hjx];rfl);have:decide (∃a,RelV a u/\EqD H n a x true)=k:=by
   cases k with
   |true=>exact zjV ⟨_,ru,ek⟩
   |false=>
    refine zjU ?_;rintro⟨a,ra,ea⟩;have:=uW ra ru;subst this;cases EqD.func ek ea
  show SeqAt.EqAt A s u v (decide (∃a,RelV a u/\EqD H n a x true));rw [this];exact qP I hu ek ru rx
 ·cases k with
  |true=>exact zjV ⟨a,ra,hk⟩
  |false=>
   refine zjU ?_;rintro⟨b,rb,eb⟩;have:=uW rb ra;subst this;cases EqD.func hk eb
theorem sK (n:Nat)(hu:X.A.units+n+1<cLine):OpR X (compareOp .In) (xK n id):=by
 intro pins s σ H x y v u Q I rx ry h;obtain⟨q,xs,ks,rfl,hq,h4,hQ⟩:=h;cases ry;have hu':X.A.in1.units+n<cLine:=by show X.A.units+1+n<cLine;omega
 rcases hq with hq|hq
 ·obtain⟨us,r,p,_⟩:=I.tuple (SqT.of hq);obtain⟨e,e1,e2⟩:=nF I hu' rx r h4;refine SeqAt.in_tupleAt e p (fun y hy=>e1 y (by simpa using hy)) ⟨.bl _,H,I,rfl,?_⟩;rw [show us.toArray.any e=us.any e by simp,e2];exact hQ
 ·obtain⟨us,r,p,_⟩:=I.list (SqL.of hq);obtain⟨e,e1,e2⟩:=nF I hu' rx r h4;refine SeqAt.in_listAt e p.isList (fun y hy=>e1 y (by simpa using hy)) ⟨.bl _,H,I,rfl,?_⟩;rw [show us.toArray.any e=us.any e by simp,e2];exact hQ
theorem xM (n:Nat)(hu:X.A.units+n+1<cLine):OpR X (compareOp .NotIn) (xK n not):=by
 intro pins s σ H x y v u Q I rx ry h;obtain⟨q,xs,ks,rfl,hq,h4,hQ⟩:=h;cases ry;have hu':X.A.in1.units+n<cLine:=by show X.A.units+1+n<cLine;omega
 rcases hq with hq|hq
 ·obtain⟨us,r,p,_⟩:=I.tuple (SqT.of hq);obtain⟨e,e1,e2⟩:=nF I hu' rx r h4;refine SeqAt.notIn_tupleAt e p (fun y hy=>e1 y (by simpa using hy)) ⟨.bl _,H,I,rfl,?_⟩;rw [show us.toArray.any e=us.any e by simp,e2];exact hQ
 ·obtain⟨us,r,p,_⟩:=I.list (SqL.of hq);obtain⟨e,e1,e2⟩:=nF I hu' rx r h4;refine SeqAt.notIn_listAt e p.isList (fun y hy=>e1 y (by simpa using hy)) ⟨.bl _,H,I,rfl,?_⟩;rw [show us.toArray.any e=us.any e by simp,e2];exact hQ
end
end L2
namespace PySem.SeqAt
open AutoSeq1 (wpAny_loadPart')
open MeetsSeq MeetsSeq2 MeetsSeq3 SeqRoads2
end PySem.SeqAt
namespace L2
open PySem PySem.Spec PyProof.Rows
section
end
end L2
namespace Grd
open PySem PyProof.Rows
noncomputable def ltP (c d:Int×Int):Prop:=HT.lexLt [c.1,c.2] [d.1,d.2]=true
theorem A95 (h:j<k):ltP (r,j) (r,k):=by unfold ltP;rw [HT.lexLt_cons,if_pos rfl,HT.lexLt_cons,if_neg (by show¬j=k;omega)];exact zjV h
theorem B1x (h:r<s):ltP (r,j) (s,k):=by unfold ltP;rw [HT.lexLt_cons,if_neg (by show¬r=s;omega)];exact zjV h
theorem yT (xs:List α):xs.zipIdx.Pairwise fun a b=>a.2<b.2:=by rw [pairwise_iff_getElem];intro i j hi hj hij;simp only [List.getElem_zipIdx];omega
theorem A5v (f:Int->Bool)(r:Int)(xs:List Int):(eJ f r xs).Pairwise ltP:=by
 unfold eJ;rw [List.pairwise_filterMap];refine(yT xs).imp fun{a b} h c hc d hd=> ?_;cases ha:f a.1 with
 |false=>simp [ha]at hc
 |true=>
  cases hb:f b.1 with
  |false=>simp [hb]at hd
  |true=>
   simp only [ha,if_true,Option.some.injEq]at hc;simp only [hb,if_true,Option.some.injEq]at hd;subst hc hd;exact A95 (by omega)
theorem lF (f:Int->Bool)(g:bD):(aT f g).Pairwise ltP:=by
 unfold aT;rw [List.pairwise_flatten];refine⟨fun l hl=> ?_,?_⟩
 ·obtain⟨p,_,rfl⟩:=mem_map.mp hl;exact A5v _ _ _
 ·rw [pairwise_map];refine(yT g).imp fun{a b} h c hc d hd=> ?_;obtain⟨e1,_⟩:=mem_rowF.mp hc;obtain⟨e2,_⟩:=mem_rowF.mp hd;obtain⟨c1,c2⟩:=c;obtain⟨d1,d2⟩:=d;dsimp only at e1 e2;subst e1 e2;exact B1x (by omega)
noncomputable def LandOf (g:bD)(cs:List (Int×Int)):Prop:=cs.Sublist (aT pos g)
end Grd
namespace L2
open PySem Grd
theorem PlAt.at:∀{ps:List Addr}{cs:List (Int×Int)}{i:Nat}{p:Addr},PlAt H ps cs->ps[i]?=some p->∃c,cs[i]?=some c/\H p=some (.tup [.int c.1,.int c.2])
 |_,_,0,_,.cons r _,h=>by cases h;exact⟨_,rfl,r⟩
 |_,_,i+1,_,.cons _ t,h=>PlAt.at (i:=i) t (by simpa using h)
theorem dW {ps:List Addr}{i:Nat}{x:V}(h:(ps.map V.ref)[i]?=some x):∃p,ps[i]?=some p/\x= .ref p:=by
 rw [getElem?_map]at h;cases e:ps[i]? with
 |none=>rw [e]at h;cases h
 |some p=>rw [e]at h;exact⟨p,rfl,(Option.some.inj h).symm⟩
end L2
namespace L2
open PySem PySem.Spec PyProof.Rows Grd Wlk
section
theorem lH {x pos}(he:PE X (.Name x pos) te)(hr:PAq X es t):PAq X (.Name x pos::es) (dJ te t):=by unfold PAq at*;exact aB he hr
end
noncomputable abbrev PlA (H:Hp)(p:Addr)(c:Int×Int):Prop:=H p=some (.tup [.int c.1,.int c.2])
theorem PlA.put (hl:H l=some (.lst xs))(h:PlA H p c):PlA (upd H l (.lst ys)) p c:=by have h':H p=some (.tup [.int c.1,.int c.2]):=h;show upd H l (.lst ys) p=_;rw [aV (fun z=>by rw [z,hl]at h';cases h')];exact h
theorem A1r (h:t σ H fun xs H1=>xs.length<=sizeLine/\∀p,H1 p=none->D.rt (.ref p) (upd H1 p (.lst xs))):rF (pH t) D σ H:=h
theorem cX (hr:Room k A):A.units+1+1<cLine:=lt_of_le_of_lt (Nat.add_le_add_left (by decide:2<=64) _) hr.units
theorem A39 (h1:PlA H p c)(h2:PlA H q d)(n:Nat):EqD H (n+1) (.ref p) (.ref q) (decide (c=d)):=by refine .inr ⟨p,q,_,_,[decide (c.1=d.1),decide (c.2=d.2)],rfl,rfl,.inl ⟨h1,h2⟩,⟨EqD.int _ _ _,EqD.int _ _ _,trivial⟩,?_⟩;rw [Bool.eq_iff_iff];simp [Prod.ext_iff]
theorem iW (h:PlA H q d):∀{ps:List Addr}{cs:List (Int×Int)},PlAt H ps cs->E3 (EqD H 1) (ps.map V.ref) ((ps.map V.ref).map fun _=>V.ref q) (cs.map fun c=>decide (c=d))
 | [],[],.nil=>trivial
 |_::_,_::_,.cons r t=> ⟨A39 r h 0,iW h t⟩
theorem qZ [DecidableEq α](l:List α)(x:α):(l.map fun c=>decide (c=x)).any id=decide (x∈l):=by rw [Bool.eq_iff_iff,any_map];simp
end L2
namespace Wlk
open PySem PyProof.Rows Srt
noncomputable abbrev f2 (s:rA):List Int:=fl [s.1,s.2]
end Wlk
namespace Wlk
open PySem PyProof.Rows Srt Cyc Grd
noncomputable def rc (s:rA):Pl:=if s.2.2=s.1.2+1 then s.1 else if s.2.1=s.1.1+1 then(s.1.1,s.1.2 - 1)else if s.2.2=s.1.2 - 1 then(s.1.1 - 1,s.1.2 - 1)else(s.1.1 - 1,s.1.2)
section
end
section
end
noncomputable def eC (land:List Pl)(x y:Int)(c:Pl):Nat:=(if c.1=x/\c.2+1<=y/\(c.1,c.2+1)∉land then 1 else 0)+(if c.1=x/\c.2<=y/\(c.1,c.2 - 1)∉land then 1 else 0)
noncomputable def turn (s:rA):Int:=s.1.1*s.2.2 - s.2.1*s.1.2
noncomputable def beside (c:Pl):List Pl:=[(c.1 - 1,c.2),(c.1,c.2 - 1),(c.1,c.2+1),(c.1+1,c.2)]
theorem kP (h:d∈beside c):c∈beside d:=by
 obtain⟨a,b⟩:=c;unfold beside at h⊢;simp only [mem_cons,not_mem_nil,or_false]at h⊢;rcases h with rfl|rfl|rfl|rfl
 ·right;right;right;simp
 ·right;right;left;simp
 ·right;left;simp
 ·left;simp
noncomputable def iL (land P:List Pl):Prop:=∀x∈P,∀y∈beside x,y∈land->y∈P
structure nB (land:List Pl)(s:Pl)(P:List Pl):Prop where
 sub:∀x∈P,x∈land
 st:s∈P
 cl:iL land P
 min:∀C,iL land C->(∃x∈P,x∈C)->s∈C
 up:P.Pairwise ltP
noncomputable def nb (land R:List Pl)(x:Pl):List Pl:=(beside x).filter fun y=>decide (y∈land)&& !decide (y∈R)
structure Rch (land:List Pl)(s:Pl)(R:List Pl)(k:Nat):Prop where
 sub:∀x∈R,x∈land
 nd:R.Nodup
 st:s∈R
 done:∀i x,i<k->R[i]?=some x->∀y∈beside x,y∈land->y∈R
 min:∀C,iL land C->∀x∈R,x∈C->s∈C
 le:k<=R.length
theorem A18 (x:Pl):(beside x).Nodup:=by obtain⟨a,b⟩:=x;unfold beside;simp only [nodup_cons,mem_cons,not_mem_nil,or_false,Prod.mk.injEq,not_or,not_false_eq_true,nodup_nil,and_true];omega
theorem mem_nb {land R:List Pl}{x y:Pl}:y∈nb land R x↔y∈beside x/\y∈land/\y∉R:=by unfold nb;rw [mem_filter];simp
theorem Rch.start (h:s∈land):Rch land s [s] 0:=
 ⟨fun x hx=>by rw [mem_singleton.mp hx];exact h,by simp,zjR,fun i _ hi=>absurd hi (Nat.not_lt_zero i),fun C _ x hx hC=>by rw [mem_singleton.mp hx]at hC;exact hC,zero_le _⟩
theorem Rch.step {land R:List Pl}{s x:Pl}{k:Nat}(h:Rch land s R k)(hx:R[k]?=some x):Rch land s (R++nb land R x) (k+1):=by
 have hk:k<R.length:=(zjW.mp hx).1;refine⟨fun y hy=> ?_,?_,mem_append_left _ h.st,fun i y hi hy z hz hzl=> ?_,fun C hC y hy hyC=> ?_,by rw [length_append];omega⟩
 ·rcases mem_append.mp hy with e|e
  ·exact h.sub y e
  ·exact(mem_nb.mp e).2.1
 ·rw [nodup_append];refine⟨h.nd,(A18 x).sublist filter_sublist,fun a ha b hb e=> ?_⟩;subst e;exact(mem_nb.mp hb).2.2 ha
 ·rw [getElem?_append_left (by omega)]at hy;by_cases e:z∈R
  ·exact mem_append_left _ e
  ·rcases lt_or_ge i k with u|u
   ·exact absurd (h.done i y u hy z hz hzl) e
   ·have:i=k:=by omega
    rw [this,hx]at hy;cases hy;exact mem_append_right _ (mem_nb.mpr ⟨hz,hzl,e⟩)
 ·rcases mem_append.mp hy with e|e
  ·exact h.min C hC y e hyC
  ·have hxR:=mem_of_getElem? hx;exact h.min C hC x hxR (hC y hyC x (kP (mem_nb.mp e).1) (h.sub x hxR))
theorem Rch.len {land R:List Pl}{s:Pl}{k:Nat}(h:Rch land s R k):R.length<=land.length:=jA h.nd h.sub
theorem Rch.fin {land R P:List Pl}{s:Pl}{k:Nat}(h:Rch land s R k)(hk:R.length<=k)(hp:P.Perm R)(hs:P.Pairwise fun a b=>HT.lexLt [b.1,b.2] [a.1,a.2]=false):nB land s P:=by
 refine⟨fun x hx=>h.sub x (hp.mem_iff.mp hx),hp.mem_iff.mpr h.st,fun x hx y hy hl=> ?_,fun C hC ⟨x,hx,hxC⟩=>h.min C hC x (hp.mem_iff.mp hx) hxC,?_⟩
 ·obtain⟨i,hi,e⟩:=mem_iff_getElem.mp (hp.mem_iff.mp hx);exact hp.mem_iff.mpr (h.done i x (by omega) (zjW.mpr ⟨hi,e⟩) y hy hl)
 ·have hnd:P.Nodup:=hp.nodup_iff.mpr h.nd;refine(hs.and (nodup_iff_pairwise_ne.mp hnd)).imp fun{a b} z=> ?_;unfold ltP;cases e:HT.lexLt [a.1,a.2] [b.1,b.2]with
  |true=>rfl
  |false=>
   have:=mG e z.1;refine absurd ?_ z.2;obtain⟨a1,a2⟩:=a;obtain⟨b1,b2⟩:=b;simp only [List.cons.injEq,and_true]at this;rw [this.1,this.2]
end Wlk
namespace M52
open PySem L2 PyProof.Rows Grd Wlk Cyc Srt
noncomputable def pB:Sp:=fun vs H Q _=> ∃p c,vs=[.ref p]/\PlA H p c/\∀l qs H',H l=none->Same H H'->H' l=some (.lst ((qs:List Addr).map V.ref))->PlAt H' qs (beside c)->Q (.ref l) H'
section
variable {P:Program}{w:World}{K:W.Frag}{mg:Str->Option Value}{base:Heap}
noncomputable abbrev nBs:List Str:=["place","row","column"]
theorem A1x (F:D1 K mg "places_beside" xU ["place"]):A1 P w K mg base 1 "places_beside" pB:=by
 refine F.k nBs ?_;ac_nf
 ·obtain⟨p,c,rfl,hp,q⟩:=h;refine⟨_,A7y (dS (pv 0) (bN rfl (aX (nm1 1 nd) (aX (nm1 2 nd) bM))))<|
   A1l (lstq (mU (tupq (mT (bF fJ (pv 1) aK) (lH (pv 2) kY))) (mU (tupq (lH (pv 1) (mT (bF fJ (pv 2) aK) kY))) (mU (tupq (lH (pv 1) (mT (bF eO (pv 2) aK) kY))) (mU (tupq (mT (bF eO (pv 1) aK) (lH (pv 2) kY))) kY))))),?_⟩
  refine⟨_,rfl,p,_,rfl,SqT.of hp,rfl,_,_,rfl,_,_,rfl,rfl,?_⟩;dsimp only
  refine A1r ?_;refine⟨_,rfl,_,_,rfl,rfl,_,rfl,by show 2<=sizeLine;decide,fun p1 h1=> ?_⟩;have s1:=aM (o:=.tup [.int (c.1 - 1),.int c.2]) h1;refine⟨_,rfl,_,rfl,_,_,rfl,rfl,by show 2<=sizeLine;decide,fun p2 h2=> ?_⟩;have s2:=aM (o:=.tup [.int c.1,.int (c.2 - 1)]) h2;refine⟨_,rfl,_,rfl,_,_,rfl,rfl,by show 2<=sizeLine;decide,fun p3 h3=> ?_⟩;have s3:=aM (o:=.tup [.int c.1,.int (c.2+1)]) h3;refine⟨_,rfl,_,_,rfl,rfl,_,rfl,by show 2<=sizeLine;decide,fun p4 h4=> ?_⟩;have s4:=aM (o:=.tup [.int (c.1+1),.int c.2]) h4;refine⟨by show 4<=sizeLine;decide,fun l hl=> ?_⟩;have s5:=aM (o:=.lst [.ref p1,.ref p2,.ref p3,.ref p4]) hl;have s14:=((s1.trans s2).trans s3).trans s4;exact q l [p1,p2,p3,p4] _ (s14.free hl) (s14.trans s5) aG (.cons (s5 _ _ (s4 _ _ (s3 _ _ (s2 _ _ aG)))) (.cons (s5 _ _ (s4 _ _ (s3 _ _ aG))) (.cons (s5 _ _ (s4 _ _ aG)) (.cons (s5 _ _ aG) .nil))))
end
theorem yK (h:PlAt H ps cs)(h':PlAt H qs ds):PlAt H (ps++qs) (cs++ds):=by
 induction h with
 |nil=>exact h'
 |cons r t ih=>exact .cons r ih
theorem LandOf.len (G:cK g w)(h:LandOf g cs):cs.length<=10:=by have:=List.Sublist.length_le h;rw [eV]at this;have:=G.c10;omega
noncomputable def unP (l:List Int):Pl:=(l.getD 0 0,l.getD 1 0)
theorem A0p {X:Cx}{H:Hp}{l:Addr}{qs:List Addr}{R:List Pl}{Q:VK}(hl:H l=some (.lst (qs.map V.ref)))(hP:PlAt H qs R)(h40:R.length<=40)(q:∀l9 qs' R' H',H l9=none->Same H H'->H' l9=some (.lst ((qs':List Addr).map V.ref))->PlAt H' qs' R'->R'.Perm R->R'.Pairwise (fun a b=>HT.lexLt [b.1,b.2] [a.1,a.2]=false)->Q (.ref l9) H'):
  ∃(p:Addr)(zs:List (Addr×List Int)),[V.ref l]=[.ref p]/\SqL X.K H p (zs.map fun z=>V.ref z.1)/\(∀z∈zs,H z.1=some (.tup (z.2.map V.int))/\z.2≠[])/\zs.length<64/\∀l zs',H l=none->qQ zs zs'->Q (.ref l) (upd H l (.lst (zs'.map fun z=>V.ref z.1))):=by
 have hzz:∀{qs:List Addr}{R:List Pl},PlAt H qs R->∃zs:List (Addr×List Int),(zs.map fun z=>z.1)=qs/\(zs.map fun z=>z.2)=R.map (fun s=> [s.1,s.2])/\∀z∈zs,H z.1=some (.tup (z.2.map V.int))/\z.2≠[]:=fun{qs R} h=>by
  induction h with
  |nil=>exact⟨[],rfl,rfl,fun z hz=>by cases hz⟩
  |cons r t ih=>
   rename_i q s _ _;obtain⟨zs,i1,i2,i3⟩:=ih;refine⟨(q,[s.1,s.2])::zs,by rw [map_cons,i1],by rw [map_cons,i2];rfl,fun z hz=> ?_⟩;rcases mem_cons.mp hz with e|e
   ·rw [e];exact⟨r,by simp⟩
   ·exact i3 z e
 obtain⟨zs,i1,i2,i3⟩:=hzz hP;have un:∀z∈zs,∃s:Pl,z.2=[s.1,s.2]/\unP z.2=s:=fun z hz=>by
  have e2:z.2∈zs.map fun z=>z.2:=mem_map.mpr ⟨z,hz,rfl⟩;rw [i2]at e2;obtain⟨s,_,es⟩:=mem_map.mp e2;exact⟨s,es.symm,by rw [←es];rfl⟩
 have hzl:zs.length<=40:=by
  have h1:=congrArg List.length i2;rw [length_map,length_map]at h1;omega
 refine⟨l,zs,rfl,SqL.of (by rw [hl,←i1,map_map];rfl),i3,by omega,fun l9 zs' hl9 so=> ?_⟩;have s9:=aM (o:=.lst (zs'.map fun z=>V.ref z.1)) hl9;refine q l9 (zs'.map fun z=>z.1) (zs'.map fun z=>unP z.2) _ hl9 s9 (by rw [aG,map_map];rfl) ?_ ?_ ?_
 ·have key:∀ys:List (Addr×List Int),(∀z∈ys,z∈zs)->PlAt (upd H l9 (.lst (zs'.map fun z=>V.ref z.1))) (ys.map fun z=>z.1) (ys.map fun z=>unP z.2):=fun ys=>by
   induction ys with
   |nil=>intro _;exact .nil
   |cons z ys ih=>
    intro hm;refine .cons ?_ (ih fun y hy=>hm y (zjS _ hy));have hz:=hm z zjR;obtain⟨s,e1,e2⟩:=un z hz;show PlA _ z.1 (unP z.2);rw [e2];have:=(i3 z hz).1;rw [e1]at this;exact s9 _ _ this
  exact key zs' fun z hz=>so.1.mem_iff.mp hz
 ·have h1:=(so.1.map fun z=>z.2).map unP;rw [i2,map_map,map_map]at h1;refine h1.trans (List.Perm.of_eq ?_);have:(unP∘fun s:Pl=> [s.1,s.2])=id:=rfl;rw [this,map_id]
 ·rw [pairwise_map];refine so.2.imp_of_mem fun{a b} ha hb hab=> ?_;obtain⟨s,e1,e2⟩:=un a (so.1.mem_iff.mp ha);obtain⟨s',e1',e2'⟩:=un b (so.1.mem_iff.mp hb);rw [e1,e1']at hab;rw [e2,e2'];exact hab
noncomputable def xJ:Sp:=fun vs H Q _=> ∃t p cs c,vs=[.ref t,.ref p]/\SqA H t cs/\cs.length<=10/\PlA H p c/\c∈cs/\∀t' P H',Same H H'->SqA H' t' P->nB cs c P->Q (.ref t') H'
section
variable {P:Program}{w:World}{K:W.Frag}{mg:Str->Option Value}{base:Heap}
noncomputable abbrev nPr:List Str:=["land","start","reached","at","beside"]
theorem A3h:(["place","land","reached"]:List Str).Nodup:=by decide +kernel
theorem A9z (F:D1 K mg "piece_round" nC ["land","start"])(T:Txt mg)(T2:dX mg)(a1:A1 P w K mg base 1 "places_beside" pB):A1 P w K mg base 2 "piece_round" xJ:=by
  refine F.k nPr ?_;ac_nf
  · obtain⟨t,pa,cs,c,rfl,hT,h10,hp,hc,q⟩:=h
    refine⟨_,aN (bT (i:=2) nd rfl (Or.inr rfl) (cN (aB (pv 1) aA)))<|
      aN (bT (i:=3) nd rfl (Or.inl rfl) aK)<|
      aN (kF PassesOwn.never (bX jG (pv 3) (bH fE rfl T.len PySem.boot_len (aB (pv 2) aA)) (nomark _))
        (aN (bT (i:=4) nd rfl (Or.inl rfl) (a1.c hr (eF (bI dM (pv 2) (pv 3) (fun _ _=>rfl)) aA)))<|
         aN (cF (iK PySem.F.plainAttrs_list PySem.F.slot_list_extend PySem.F.type_list_extend pP (pv 2) (cP (bJ (bC nC).names nPr ["place"] [("land",0),("reached",2)] rfl (cU (pv 4)) rfl rfl rfl (by decide +kernel)
            (fun Z=>nm1 0 A3h) (fun Z=>dY (PW.pt (pA (bX (sK 1 (cX hr)) (pv 0) (pv 1) rfl) (rH (bX (xM 1 (cX hr)) (pv 0) (pv 2) rfl))))) (fun Z=>pv 0)) aA)))<|
         aQ (A66 (i:=3) nd rfl (Or.inl rfl) aK A85)))<|
      aQ (bA (fG gF rfl T.tuple boot_tuple (cI (bH zQ rfl T2.sorted boot_sorted (aB (pv 2) aA)) aA))),?_⟩
    obtain⟨ts,ht,hP⟩:=hT;refine⟨_,rfl,by show 1<=sizeLine;decide,fun lr hlr=> ?_⟩;have s0:=aM (o:=.lst [.ref pa]) hlr;refine⟨fun m σ H'=> ∃k o qs R,m+k=10/\σ=[some (.ref t),some (.ref pa),some (.ref lr),some (.int (k:Nat)),o]/\Same H H'/\H' lr=some (.lst ((qs:List Addr).map V.ref))/\PlAt H' qs R/\Rch cs c R k,
      ⟨10,0,_,[pa],[c],rfl,rfl,s0,aG,.cons (s0 _ _ hp) .nil,Rch.start hc⟩,?_⟩
    rintro m σ H' ⟨k,o,qs,R,hm,rfl,hs,hlr',hR,rc⟩;have hqR:qs.length=R.length:=Paired.length hR;have hRl:=rc.len;refine⟨_,rfl,_,rfl,lr,_,rfl,.inl (SqL.of hlr'),_,_,rfl,rfl,_,rfl,dR (fun z=> ?_) fun z=> ?_⟩
    · rw [length_map,hqR]at z
      have hk:k<R.length:=by omega
      have hkq:k<qs.length:=by omega
      have hqk:qs[k]?=some (qs[k]):=getElem?_eq_getElem hkq;obtain⟨x,hx,he⟩:=hR.at hqk;refine⟨fun σ' H2=> ∃o qs',σ'=[some (.ref t),some (.ref pa),some (.ref lr),some (.int ((k+1:Nat):Int)),o]/\Same H H2/\H2 lr=some (.lst ((qs':List Addr).map V.ref))/\PlAt H2 qs' (R++nb cs R x),
        fun σ' H2 ⟨o,qs',h1,h2,h3,h4⟩=> ⟨m - 1,by omega,k+1,o,qs',_,by omega,h1,h2,h3,h4,rc.step hx⟩,?_⟩
      refine⟨_,rfl,_,rfl,lr,_,_,_,rfl,rfl,SqL.of hlr',bR (v:=V.ref qs[k]) (by rw [getElem?_map,hqk];rfl),?_⟩;refine⟨qs[k],x,rfl,he,fun lb bs H2 hlb s2 hlb2 hB=> ?_⟩;have hR2:=hR.same s2;have hlr2:=s2 _ _ hlr';have hP2:=(hP.same hs).same s2;have ht2:=s2 _ _ (hs _ _ ht);have hb4:bs.length=4:=Paired.length hB;refine⟨_,rfl,.inl ⟨rfl,_,SqL.of hlr2⟩,?_⟩;refine⟨_,rfl,lb,rfl,⟨_,SqL.of hlb2⟩,fun Z ln hln=> ?_⟩;refine dQ (K:=K) (a:=lb) (xs:=bs.map V.ref) (fun j σ H3=>(∃o,σ=[o,some (.ref t),some (.ref lr)])/\Same H2 H3/\∃ns,H3 ln=some (.lst ((ns:List Addr).map V.ref))/\PlAt H3 ns (((beside x).take j).filter fun y=>decide (y∈cs)&& !decide (y∈R)))
        ⟨⟨_,rfl⟩,aM hln,[],by rw [aG];rfl,.nil⟩ (fun j σ H3 _ h=>SqL.of (h.2.1 _ _ hlb2)) ?_ ?_
      · rintro j y σ H3 hy ⟨⟨o',rfl⟩,hs3,ns,hn,hN⟩
        obtain⟨b,hbj,rfl⟩:=dW hy;obtain⟨d,hd,hbd⟩:=hB.at hbj;have hj:j<4:=(zjW.mp hd).1;have hbd3:=hs3 _ _ hbd;have hnl:ns.length<=4:=by
          have h1:ns.length=_:=Paired.length hN;have h2:=length_filter_le (fun y=>decide (y∈cs)&& !decide (y∈R)) ((beside x).take j);rw [length_take]at h2;omega
        have et:((beside x).take (j+1)).filter (fun y=>decide (y∈cs)&& !decide (y∈R))=((beside x).take j).filter (fun y=>decide (y∈cs)&& !decide (y∈R))++(if (decide (d∈cs)&& !decide (d∈R))=true then [d]else []):=by
          rw [take_succ,hd,filter_append]
          congr 1
          cases e:(decide (d∈cs)&& !decide (d∈R))
          · simp [e]
          · simp [e]
        rw [et];show cL _ _ _ [some (.ref b),some (.ref t),some (.ref lr)] H3;refine⟨_,rfl,_,rfl,t,_,_,rfl,.inl (hs3 _ _ ht2),iW hbd3 (hP2.same hs3),_,rfl,?_⟩;rw [qZ];refine dC (fun z1'=> ?_) fun z1'=> ?_
        · have z1:d∈cs:=by simpa using z1'
          refine⟨_,rfl,_,rfl,lr,_,_,rfl,.inr (hs3 _ _ hlr2),iW hbd3 (hR2.same hs3),_,rfl,?_⟩;rw [qZ];refine dC (fun z2'=> ?_) fun z2'=> ?_
          · have z2:d∉R:=by simpa using z2'
            rw [if_pos (by rw [zjV z1,zjU z2];rfl)];refine⟨_,rfl,_,hn,cA (by rw [length_map];omega),⟨_,rfl⟩,fun b' u e'=> ?_,ns++[b],?_,?_⟩
            · rw [aV (bG e' hln)];exact hs3 _ _ e'
            · rw [aG,map_append];rfl
            · exact PlAt.snoc (Paired.mapP hN fun _ _ z=>PlA.put hn z) (PlA.put hn hbd3)
          · have z2:d∈R:=by simpa using z2'
            rw [if_neg (by rw [zjV z2];simp),append_nil];exact⟨⟨_,rfl⟩,hs3,ns,hn,hN⟩
        · have z1:d∉cs:=by simpa using z1'
          rw [if_neg (by rw [zjU z1];simp),append_nil];exact⟨⟨_,rfl⟩,hs3,ns,hn,hN⟩
      · rintro σ H3 ⟨⟨o',rfl⟩,hs3,ns,hn,hN⟩
        rw [length_map,hb4]at hN;have hN':PlAt H3 ns (nb cs R x):=hN;have hnl:ns.length<=4:=by
          have h1:ns.length=(nb cs R x).length:=Paired.length hN';have h2:(nb cs R x).length<=(beside x).length:=length_filter_le _ _;have h3:(beside x).length=4:=rfl;omega
        have hlr3:=hs3 _ _ hlr2;refine⟨lr,ln,_,_,rfl,rfl,hlr3,hn,by rw [length_map,length_map,sizeLine_eq];omega,?_⟩;refine⟨_,rfl,_,_,rfl,rfl,⟨_,qs++ns,rfl,fun b' u e'=> ?_,by rw [aG,map_append],?_⟩⟩
        · rw [aV (bG e' hlr)];exact hs3 _ _ (s2 _ _ (hs _ _ e'))
        · exact yK (Paired.mapP (hR2.same hs3) fun _ _ z=>PlA.put hlr3 z) (Paired.mapP hN' fun _ _ z=>PlA.put hlr3 z)
    · rw [length_map,hqR]at z
      refine⟨_,rfl,?_⟩;refine A0p (X:=(fH CX0 P w K mg base nPr (Str.ofString "piece_round") (bC nC) f cdv A outer s H E).nox) (Q:=fun v H1=> ∃p ys,[v]=[V.ref p]/\((SqL K H1 p ys/\∀l,H1 l=none->Q (.ref l) (upd H1 l (.tup ys)))\/(SqT K H1 p ys/\Q (.ref p) H1))) hlr' hR (by omega) fun l9 qs' R' H9 h9 s9 hl9 hR9 pm up=> ?_;refine⟨l9,_,rfl,.inl ⟨SqL.of hl9,fun t' ht'=> ?_⟩⟩;have s10:=aM (o:=.tup (qs'.map V.ref)) ht';exact q t' R' _ ((hs.trans s9).trans s10) ⟨qs',aG,hR9.same s10⟩ (rc.fin (by omega) pm up)
end
end M52
namespace M52
open PySem L2 PyProof.Rows Grd Wlk Srt
section
variable {P:Program}{w:World}{K:W.Frag}{mg:Str->Option Value}{base:Heap}
theorem A1b:(["one","other"]:List Str).Nodup:=by decide +kernel
end
end M52
namespace Wlk
open PySem PyProof.Rows Srt Cyc Grd L2
theorem pJ (a:Pl):¬ltP a a:=fun z=>by unfold ltP at z;rw [iH]at z;cases z
theorem A14 (h1:ltP a b)(h2:ltP b c):ltP a c:=mJ h1 h2
theorem A56 {ks rs:List Pl}(hk:ks.Pairwise ltP)(hr:rs.Pairwise ltP)(hm:∀k,k∈ks↔k∈rs):ks=rs:=by
 induction ks generalizing rs with
 |nil=>
  cases rs with
  |nil=>rfl
  |cons r rs=>exact absurd ((hm r).mpr zjR) (by simp)
 |cons k ks ih=>
  cases rs with
  |nil=>exact absurd ((hm k).mp zjR) (by simp)
  |cons r rs=>
   rw [pairwise_cons]at hk hr;have e:k=r:=by
    rcases mem_cons.mp ((hm k).mp zjR)with e|h1
    ·exact e
    ·rcases mem_cons.mp ((hm r).mpr zjR)with e|h2
     ·exact e.symm
     ·exact absurd (A14 (hr.1 k h1) (hk.1 r h2)) (pJ r)
   subst e;rw [ih hk.2 hr.2 fun x=> ?_];have nk:∀x,x∈ks->x≠k:=fun x hx z=>by subst z;exact pJ x (hk.1 x hx)
   have nr:∀x,x∈rs->x≠k:=fun x hx z=>by subst z;exact pJ x (hr.1 x hx)
   constructor
   ·intro hx;rcases mem_cons.mp ((hm x).mp (zjS _ hx))with z|z
    ·exact absurd z (nk x hx)
    ·exact z
   ·intro hx;rcases mem_cons.mp ((hm x).mpr (zjS _ hx))with z|z
    ·exact absurd z (nr x hx)
    ·exact z
noncomputable def xV (cs:List Pl)(b:Bool):Prop:=(cs=[]/\b=false)\/ ∃c0 tl P0,cs=c0::tl/\nB cs c0 P0/\b=decide (P0=cs)
noncomputable def fB (a b:Pl):Bool:=decide ((Int.natAbs (a.1 - b.1):Int)+Int.natAbs (a.2 - b.2)=1)
theorem next_iff:fB a b=true↔a∈beside b:=by obtain⟨a1,a2⟩:=a;obtain⟨b1,b2⟩:=b;unfold fB beside;simp only [decide_eq_true_eq,mem_cons,not_mem_nil,or_false,Prod.mk.injEq];omega
noncomputable def nb2 (land R:List Pl)(x:Pl):List Pl:=land.filter fun y=> !decide (y∈R)&&fB y x
theorem A9g {land R:List Pl}{x y:Pl}:y∈nb2 land R x↔y∈beside x/\y∈land/\y∉R:=by
 unfold nb2;rw [mem_filter,Bool.and_eq_true,next_iff];simp;constructor
 ·rintro⟨a,b,c⟩;exact⟨c,a,b⟩
 ·rintro⟨a,b,c⟩;exact⟨b,c,a⟩
end Wlk
namespace L2
open PySem PySem.Spec PyProof.Rows
noncomputable def zH (n:Nat)(g:Bool->Bool):R2:=fun x y H Q=> ∃p q xs ys,x= .ref p/\y= .ref q/\H p=some (.lst xs)/\H q=some (.lst ys)/\((xs.length≠ys.length/\Q (.bl (g false)) H)\/ ∃ks,E3 (EqD H n) xs ys ks/\Q (.bl (g (ks.all id))) H)
section
theorem pC (n:Nat)(hu:X.A.units+n+1<cLine):OpR X (compareOp .Eq) (zH n id):=by
 intro pins s σ H x y v u Q I rx ry h;obtain⟨p,q,xs,ys,rfl,rfl,h1,h2,h4⟩:=h;rcases h4 with⟨hne,hq⟩| ⟨ks,h4,hq⟩
 ·cases rx;cases ry
  ·obtain⟨us,r1,p1,_⟩:=I.list (SqL.of (K:=X.K) h1);obtain⟨ws,r2,p2,_⟩:=I.list (SqL.of (K:=X.K) h2);have l1:=r1.length;have l2:=r2.length;exact SeqAt.RcAt.lists_lengths (A:=X.A) (s:=s) p1.isList p2.isList (by simp;omega) (by omega) X.prog X.w X.xe _ ⟨.bl _,H,I,rfl,hq⟩
 ·exact zX n hu pins s σ H _ _ v u Q I rx ry ⟨p,q,xs,ys,ks,rfl,rfl,.inr ⟨h1,h2⟩,h4,hq⟩
theorem sO (n:Nat)(hu:X.A.units+n+1<cLine):OpR X (compareOp .NotEq) (zH n not):=by
 intro pins s σ H x y v u Q I rx ry h;obtain⟨p,q,xs,ys,rfl,rfl,h1,h2,h4⟩:=h;rcases h4 with⟨hne,hq⟩| ⟨ks,h4,hq⟩
 ·cases rx;cases ry
  ·obtain⟨us,r1,p1,_⟩:=I.list (SqL.of (K:=X.K) h1);obtain⟨ws,r2,p2,_⟩:=I.list (SqL.of (K:=X.K) h2);have l1:=r1.length;have l2:=r2.length;exact SeqAt.RcNeAt.lists_lengths (A:=X.A) (s:=s) p1.isList p2.isList (by simp;omega) (by omega) X.prog X.w X.xe _ ⟨.bl _,H,I,rfl,hq⟩
 ·exact yV n hu pins s σ H _ _ v u Q I rx ry ⟨p,q,xs,ys,ks,rfl,rfl,.inr ⟨h1,h2⟩,h4,hq⟩
end
end L2
namespace L2
open PySem PySem.Spec PyProof.Rows Srt
theorem tE [DecidableEq α](d:α)(cs ds:List α):((List.range (min cs.length ds.length)).all (fun j=>decide (cs.getD j d=ds.getD j d))&&cs.length==ds.length)=decide (cs=ds):=by
 rw [Bool.eq_iff_iff,Bool.and_eq_true,all_eq_true,decide_eq_true_eq,beq_iff_eq];constructor
 ·rintro⟨h1,h2⟩;refine ext_getElem h2 fun j a b=> ?_;have:=of_decide_eq_true (h1 j (mem_range.mpr (by omega)));simpa [a,b]using this
 ·rintro rfl;exact⟨fun j _=>zjV rfl,rfl⟩
theorem fS:∀{l:List α}{m:List β}{i:Nat}{a:α},Paired F l m->l[i]?=some a->∃b,m[i]?=some b/\F a b
 |_,_,0,_,.cons r _,h=>by cases h;exact⟨_,rfl,r⟩
 |_,_,i+1,_,.cons _ t,h=>fS (i:=i) t (by simpa using h)
section
theorem A0l (I:Inv X pins σ H s)(hu:A.units+2<cLine)(hp:SqA H p cs)(hq:SqA H q ds):SeqAt.RcAt A s (.ref p) (.ref q) (decide (cs=ds)):=by
 obtain⟨ps,h1,hP⟩:=hp;obtain⟨qs,h2,hQ⟩:=hq;obtain⟨us,r1,p1,_⟩:=I.tuple (SqT.of (K:=X.K) h1);obtain⟨ws,r2,p2,_⟩:=I.tuple (SqT.of (K:=X.K) h2);have e1:=jU r1;have e2:=jU r2;subst e1 e2;have l1:ps.length=cs.length:=Paired.length hP;have l2:qs.length=ds.length:=Paired.length hQ;have k:=SeqAt.RcAt.tuples (A:=A) (s:=s) (e:=fun j=>decide (cs.getD j (0,0)=ds.getD j (0,0))) p1 p2 (by omega) (fun j g1 g2=>by
  rw [size_toArray,length_map]at g1 g2;obtain⟨c,hc,he⟩:=hP.at (getElem?_eq_getElem g1);obtain⟨d,hd,he2⟩:=hQ.at (getElem?_eq_getElem g2);have ec:cs.getD j (0,0)=c:=by rw [getD_eq_getElem?_getD,hc];rfl
  have ed:ds.getD j (0,0)=d:=by rw [getD_eq_getElem?_getD,hd];rfl
  rw [ec,ed];have a1:(ps.map Value.ref).toArray[j]'(by rw [size_toArray,length_map];exact g1)=Value.ref ps[j]:=by simp
  have a2:(qs.map Value.ref).toArray[j]'(by rw [size_toArray,length_map];exact g2)=Value.ref qs[j]:=by simp
  rw [a1,a2];exact A8b I (show A.units+1<cLine by omega) he he2)
 have e:((List.range (min (ps.map Value.ref).toArray.size (qs.map Value.ref).toArray.size)).all (fun j=>decide (cs.getD j (0,0)=ds.getD j (0,0)))&&(ps.map Value.ref).toArray.size==(qs.map Value.ref).toArray.size)=decide (cs=ds):=by
  rw [size_toArray,size_toArray,length_map,length_map,l1,l2];exact tE (0,0) cs ds
 rw [e]at k;exact k
theorem B1w (I:Inv X pins σ H s)(hu:A.units+2<cLine)(hp:SqA H p cs)(hq:SqA H q ds):SeqAt.EqAt A s (.ref p) (.ref q) (decide (cs=ds)):=by
 by_cases e:p=q
 ·subst e;rw [zjV (hp.val hq)];exact SeqAt.EqAt.same _
 ·exact SeqAt.EqAt.of_refs e (A0l I hu hp hq)
theorem pV (hu:X.A.units+2<cLine):OpR X (compareOp .Eq) (fun x y H Q=> ∃p q cs ds,x= .ref p/\y= .ref q/\SqA H p cs/\SqA H q ds/\Q (.bl (decide (cs=ds))) H):=by intro pins s σ H x y v u Q I rx ry h;obtain⟨p,q,cs,ds,rfl,rfl,h1,h2,hq⟩:=h;cases rx;cases ry;exact A0l I hu h1 h2 X.prog X.w X.xe _ ⟨.bl _,H,I,rfl,hq⟩
theorem A9n (hu:X.A.units+3<cLine):OpR X (compareOp .Eq) (fun x y H Q=> ∃p q ps qs Ls Ms,x= .ref p/\y= .ref q/\H p=some (.lst ((ps:List Addr).map V.ref))/\H q=some (.lst ((qs:List Addr).map V.ref))/\Paired (SqA H) ps Ls/\Paired (SqA H) qs Ms/\Q (.bl (decide (Ls=Ms))) H):=by
 intro pins s σ H x y v u Q I rx ry h;obtain⟨p,q,ps,qs,Ls,Ms,rfl,rfl,h1,h2,hP,hQ,hq⟩:=h;cases rx;cases ry;obtain⟨us,r1,p1,_⟩:=I.list (SqL.of (K:=X.K) h1);obtain⟨ws,r2,p2,_⟩:=I.list (SqL.of (K:=X.K) h2);have e1:=jU r1;have e2:=jU r2;subst e1 e2;have l1:ps.length=Ls.length:=Paired.length hP;have l2:qs.length=Ms.length:=Paired.length hQ;by_cases el:Ls.length=Ms.length
 ·have k:=SeqAt.RcAt.lists (A:=X.A) (s:=s) (e:=fun j=>decide (Ls.getD j []=Ms.getD j [])) p1.isList p2.isList (by simp [l1,l2,el]) (by omega) (fun j g1 g2=>by
   rw [size_toArray,length_map]at g1 g2;obtain⟨c,hc,he⟩:=fS hP (getElem?_eq_getElem g1);obtain⟨d,hd,he2⟩:=fS hQ (getElem?_eq_getElem g2);have ec:Ls.getD j []=c:=by rw [getD_eq_getElem?_getD,hc];rfl
   have ed:Ms.getD j []=d:=by rw [getD_eq_getElem?_getD,hd];rfl
   rw [ec,ed];have a1:(ps.map Value.ref).toArray[j]'(by rw [size_toArray,length_map];exact g1)=Value.ref ps[j]:=by simp
   have a2:(qs.map Value.ref).toArray[j]'(by rw [size_toArray,length_map];exact g2)=Value.ref qs[j]:=by simp
   rw [a1,a2];exact B1w I (show X.A.units+1+2<cLine by omega) he he2)
  have e:=tE [] Ls Ms;rw [el,Nat.min_self,beq_self_eq_true,Bool.and_true]at e;rw [show(ps.map Value.ref).toArray.size=Ms.length by simp [l1,el],e]at k;exact k X.prog X.w X.xe _ ⟨.bl _,H,I,rfl,hq⟩
 ·rw [zjU (fun z=>el (congrArg List.length z))]at hq;exact SeqAt.RcAt.lists_lengths p1.isList p2.isList (by simp [l1,l2,el]) (by omega) X.prog X.w X.xe _ ⟨.bl _,H,I,rfl,hq⟩
theorem A5e (hu:X.A.units+1<cLine):OpR X (compareOp .NotEq) (fun x y H Q=> ∃p q xs,x= .ref p/\y= .ref q/\H p=some (.tup xs)/\H q=some (.tup [])/\Q (.bl (!xs.isEmpty)) H):=by
 intro pins s σ H x y v u Q I rx ry h;obtain⟨p,q,xs,rfl,rfl,h1,h2,hq⟩:=h;cases rx;cases ry;obtain⟨us,r1,p1,_⟩:=I.tuple (SqT.of (K:=X.K) h1);obtain⟨ws,r2,p2,_⟩:=I.tuple (SqT.of (K:=X.K) h2);have e2:ws=[]:=by cases r2;rfl
 subst e2;have l1:=r1.length;have k:=SeqAt.RcNeAt.tuples (A:=X.A) (s:=s) (e:=fun _=>true) p1 p2 (by omega) (fun j _ h2=>absurd h2 (by simp));have e:(!((List.range (min us.toArray.size ([]:List Value).toArray.size)).all (fun _=>true)&&us.toArray.size==([]:List Value).toArray.size))= !xs.isEmpty:=by
  cases xs with
  |nil=>cases us with|nil=>rfl|cons _ _=>simp at l1
  |cons _ _=>cases us with|nil=>simp at l1|cons _ _=>simp
 rw [e]at k;exact k X.prog X.w X.xe _ ⟨.bl _,H,I,rfl,hq⟩
end
end L2
namespace M52
open PySem L2 PyProof.Rows Grd Wlk Cyc Srt
theorem rP:bootBuiltins "any" =some (.builtin "any"):=by decide +kernel
theorem yP (l:List (Int×Int))(x:Int×Int):(l.map fun c=>decide (c=x)).any id=decide (x∈l):=by rw [Bool.eq_iff_iff,any_map];simp
noncomputable def yL:Sp:=fun vs H Q _=> ∃t cs,vs=[.ref t]/\SqA H t cs/\cs.length<=10/\∀b H',Same H H'->xV cs b->Q (.bl b) H'
section
variable {P:Program}{w:World}{K:W.Frag}{mg:Str->Option Value}{base:Heap}
theorem B0x (F:D1 K mg "is_one_piece" yB ["land"])(a1:A1 P w K mg base 2 "piece_round" xJ):A1 P w K mg base 3 "is_one_piece" yL:=by
 refine F.k ["land"] ?_;ac_nf
 ·obtain⟨t,cs,rfl,hT,h10,q⟩:=h;obtain⟨ps,ht,hP⟩:=id hT;have hlen:ps.length=cs.length:=Paired.length hP;refine⟨_,aQ (bA (fQ (eL (A5e (lt_of_succ_lt (cX hr))) (pv 0) (dN aA) (nomark _)) (fP (eL (pV (cX hr)) (a1.c hr (aB (pv 0) (eF (bI cB (pv 0) aK (fun _ _=>rfl)) aA))) (pv 0) (nomark _))))),?_⟩;refine⟨_,rfl,by show 0<=sizeLine;decide,fun z hz=> ?_⟩;have s1:=aM (o:=.tup []) hz;refine⟨t,z,_,rfl,rfl,s1 _ _ ht,aG,_,rfl,?_⟩;cases hc:cs with
  |nil=>
   have e:ps=[]:=eq_nil_of_length_eq_zero (by rw [hlen,hc];rfl);subst e;exact q false _ s1 (.inl ⟨hc,rfl⟩)
  |cons c0 tl=>
   rw [hc]at hP;cases hP with
   |cons r0 t0=>
    rename_i p0 ps0;refine fR ?_;refine⟨_,rfl,_,rfl,t,_,0,.ref p0,rfl,rfl,SqT.of (s1 _ _ ht),bR (j:=0) rfl,?_⟩;refine⟨t,p0,cs,c0,rfl,hT.same s1,h10,s1 _ _ r0,by rw [hc];exact zjR,fun t' P0 H2 s2 hP0 p0=> ?_⟩;refine⟨_,rfl,t',t,P0,cs,rfl,rfl,hP0,hT.same (s1.trans s2),?_⟩;exact q _ H2 (s1.trans s2) (.inr ⟨c0,tl,P0,hc,p0,rfl⟩)
end
noncomputable def eX (g:bD)(cs:List Pl):Int:=(cs.map (atG g)).sum
noncomputable def fI (g:bD)(c:Pl):Bool:=(beside c).any fun d=>decide (d∈aT road g)
noncomputable def wJ:Sp:=fun vs H Q _=> ∃a g w,vs=[.ref a]/\GridAt H a g/\cK g w/\∀H' l ps,H l=none->Same H H'->H' l=some (.lst ((ps:List Addr).map V.ref))->PlAt H' ps ((aT pos g).filter (fI g))->Q (.ref l) H'
noncomputable def xZ:Sp:=fun vs H Q _=> ∃t l cs ps ds,vs=[.ref t,.ref l]/\SqA H t cs/\cs.length<=1000/\H l=some (.lst ((ps:List Addr).map V.ref))/\PlAt H ps ds/\∀H',Same H H'->Q (.bl (cs.any fun c=>decide (c∈ds))) H'
noncomputable def A0z:Sp:=fun vs H Q _=> ∃a t g w cs,vs=[.ref a,.ref t]/\GridAt H a g/\cK g w/\SqA H t cs/\LandOf g cs/\∀H',Same H H'->Q (.int (eX g cs)) H'
section
variable {P:Program}{w:World}{K:W.Frag}{mg:Str->Option Value}{base:Heap}
theorem A11:(["cell","cells"]:List Str).Nodup:=by decide +kernel
theorem A68 (F:D1 K mg "has_some_of" pS ["land","cells"])(T2:dX mg):A1 P w K mg base 1 "has_some_of" xZ:=by
 refine F.k ["land","cells"] ?_;ac_nf
 ·obtain⟨t,lc,cs,qs,ds,rfl,⟨ps,ht,hP⟩,hz,hlc,hD,q⟩:=h;have hlen:ps.length=cs.length:=Paired.length hP;refine⟨_,aQ (bA (bH (rG rfl) rfl T2.any rP (cP (bJ (bC pS).names ["land","cells"] ["cell"] [("cells",1)] rfl (cQ (pv 0)) rfl rfl rfl (by decide +kernel)
   (fun Z=>nm1 0 A11) (fun Z=>bZ) (fun Z=>eL (sK 1 (cX hr)) (pv 0) (pv 1) rfl)) aA))),?_⟩
  refine⟨_,rfl,t,rfl,⟨_,SqT.of ht⟩,fun Z l hl=> ?_⟩;refine gM (K:=K) (a:=t) (xs:=ps.map V.ref) (fun i σ H'=>(∃o,σ=[o,some (.ref lc)])/\Same H H'/\H' l=some (.lst ((cs.take i).map fun c=>V.bl (decide (c∈ds))))) ⟨⟨_,rfl⟩,aM hl,by rw [aG];rfl⟩ (fun i σ H' _ h=>SqT.of (h.2.1 _ _ ht)) ?_ ?_
  ·rintro i x σ H' hx ⟨⟨o,rfl⟩,hs,hl'⟩;obtain⟨p,hp,rfl⟩:=dW hx;obtain⟨c,hc,he⟩:=hP.at hp;have hi:i<cs.length:=(zjW.mp hc).1;show cL _ _ _ [some (.ref p),some (.ref lc)] H';refine⟨_,rfl,_,rfl,lc,_,_,rfl,.inr (hs _ _ hlc),iW (hs _ _ he) (hD.same hs),?_⟩;rw [yP];refine⟨_,hl',cA (by rw [length_map,length_take];omega),⟨_,rfl⟩,fun b' u e'=> ?_,?_⟩
   ·rw [aV (bG e' hl)];exact hs _ _ e'
   ·rw [aG,take_succ,hc,map_append];rfl
  ·rintro σ H' ⟨_,hs,hl'⟩;rw [length_map,hlen,take_of_length_le (zjQ _)]at hl';refine⟨l,cs.map fun c=>decide (c∈ds),rfl,SqL.of (by rw [hl',map_map];rfl),?_⟩;have e:(cs.map fun c=>decide (c∈ds)).any id=cs.any fun c=>decide (c∈ds):=by rw [any_map];rfl
   rw [e];exact q H' hs
theorem A8o:(["cell","roads"]:List Str).Nodup:=by decide +kernel
theorem A6t:(["place","roads"]:List Str).Nodup:=by decide +kernel
theorem A19 (F:D1 K mg "cells_at_road" pT ["mead"])(T2:dX mg)(a1:A1 P w K mg base 6 "roads_of" (eP road))(a2:A1 P w K mg base 6 "cells_of" (eP pos))(a3:A1 P w K mg base 1 "places_beside" pB):A1 P w K mg base 7 "cells_at_road" wJ:=by
 refine F.k ["mead","roads"] ?_;ac_nf
 ·obtain⟨a,g,w',rfl,hA,G,q⟩:=h;refine⟨_,aN (bT (i:=1) nd rfl (Or.inr rfl) (a1.c hr (aB (pv 0) aA)))<|
   aQ (bA (bJ (bC pT).names ["mead","roads"] ["cell"] [("roads",1)] rfl (cU (a2.c hr (aB (pv 0) aA))) rfl rfl rfl (by decide +kernel)
    (fun Z=>nm1 0 A8o) (fun Z=>dY (bQ (bH (rG rfl) rfl T2.any rP (cP (bJ [(".0",.local),("cell",.local),("any",.globalImplicit),("places_beside",.globalImplicit),("roads",.cell)] ["cell","roads"] ["place"] [("roads",1)] rfl (cU (a3.c hr (aB (pv 0) aA))) rfl rfl rfl (by decide +kernel)
      (fun Z=>nm1 0 A6t) (fun Z=>bZ) (fun Z=>eL (sK 1 (cX hr)) (pv 0) (pv 1) rfl)) aA)))) (fun Z=>pv 0))),?_⟩
  refine⟨_,rfl,a,g,w',rfl,hA,G,fun H1 lr rs hlr s1 hlr' hR=> ?_⟩;refine⟨_,rfl,a,g,w',rfl,hA.same s1,G,fun H2 lc cs hlc s2 hlc' hC=> ?_⟩;refine⟨lc,rfl,⟨_,SqL.of hlc'⟩,fun Z l hl=> ?_⟩;have hcl:cs.length=(aT pos g).length:=Paired.length hC;have h10:(aT pos g).length<=10:=by rw [eV];exact G.c10
  have hlr2:=s2 _ _ hlr';have hR2:=hR.same s2;refine dQ (K:=K) (a:=lc) (xs:=cs.map V.ref) (fun i σ H'=>(∃o,σ=[o,some (.ref lr)])/\Same H2 H'/\∃ns,H' l=some (.lst ((ns:List Addr).map V.ref))/\PlAt H' ns (((aT pos g).take i).filter (fI g))) ⟨⟨_,rfl⟩,aM hl,[],by rw [aG];rfl,.nil⟩ (fun i σ H' _ h=>SqL.of (h.2.1 _ _ hlc')) ?_ ?_
  ·rintro i x σ H' hx ⟨⟨o,rfl⟩,hs,ns,hn,hN⟩;obtain⟨p,hp,rfl⟩:=dW hx;obtain⟨c,hc,he⟩:=hC.at hp;have hi:i<(aT pos g).length:=(zjW.mp hc).1;have hnl:ns.length<=10:=by
    have h1:ns.length=_:=Paired.length hN;have h2:=length_filter_le (fI g) ((aT pos g).take i);rw [length_take]at h2;omega
   have et:((aT pos g).take (i+1)).filter (fI g)=((aT pos g).take i).filter (fI g)++(if fI g c=true then [c]else []):=by
    rw [take_succ,hc,filter_append]
    congr 1
    cases e:fI g c
    ·simp [e]
    ·simp [e]
   rw [et];show cL _ _ _ [some (.ref p),some (.ref lr)] H';refine⟨_,rfl,p,c,rfl,hs _ _ he,fun lb bs H3 hlb s3 hlb3 hB=> ?_⟩;have hb4:bs.length=(beside c).length:=Paired.length hB;refine⟨lb,rfl,⟨_,SqL.of hlb3⟩,fun Z l2 hl2=> ?_⟩;refine dQ (K:=K) (a:=lb) (xs:=bs.map V.ref) (fun j σ H4=>(∃o,σ=[o,some (.ref lr)])/\Same H3 H4/\H4 l2=some (.lst (((beside c).take j).map fun d=>V.bl (decide (d∈aT road g))))) ⟨⟨_,rfl⟩,aM hl2,by rw [aG];rfl⟩ (fun j σ H4 _ h=>SqL.of (h.2.1 _ _ hlb3)) ?_ ?_
   ·rintro j y σ H4 hy ⟨⟨o',rfl⟩,hs4,hl24⟩;obtain⟨b,hbj,rfl⟩:=dW hy;obtain⟨d,hd,hbd⟩:=hB.at hbj;have hj:j<4:=(zjW.mp hd).1;show cL _ _ _ [some (.ref b),some (.ref lr)] H4;refine⟨_,rfl,_,rfl,lr,_,_,rfl,.inr (hs4 _ _ (s3 _ _ (hs _ _ hlr2))),iW (hs4 _ _ hbd) (((hR2.same hs).same s3).same hs4),?_⟩;rw [yP];refine⟨_,hl24,cA (by rw [length_map,length_take];omega),⟨_,rfl⟩,fun b' u e'=> ?_,?_⟩
    ·rw [aV (bG e' hl2)];exact hs4 _ _ e'
    ·rw [aG,take_succ,hd,map_append];rfl
   ·rintro σ H4 ⟨_,hs4,hl24⟩;rw [length_map,hb4,take_of_length_le (zjQ _)]at hl24;refine⟨l2,(beside c).map fun d=>decide (d∈aT road g),rfl,SqL.of (by rw [hl24,map_map];rfl),_,rfl,?_⟩;have e:((beside c).map fun d=>decide (d∈aT road g)).any id=fI g c:=by unfold fI;rw [any_map];rfl
    rw [e];have s34:=s3.trans hs4;refine dC (fun z=> ?_) fun z=> ?_
    ·rw [if_pos z];have hn4:=s34 _ _ hn;refine⟨_,rfl,_,hn4,cA (by rw [length_map];omega),⟨_,rfl⟩,fun b' u e'=> ?_,ns++[p],?_,?_⟩
     ·rw [aV (bG e' hl)];exact s34 _ _ (hs _ _ e')
     ·rw [aG,map_append];rfl
     ·exact PlAt.snoc (Paired.mapP (hN.same s34) fun _ _ z=>PlA.put hn4 z) (PlA.put hn4 (s34 _ _ (hs _ _ he)))
    ·rw [if_neg (by rw [z];decide),append_nil];exact⟨⟨_,rfl⟩,hs.trans s34,ns,s34 _ _ hn,hN.same s34⟩
  ·rintro σ H' ⟨_,hs,ns,hn,hN⟩;rw [length_map,hcl,take_of_length_le (zjQ _)]at hN;exact q H' l ns (s1.free (s2.free hl)) ((s1.trans s2).trans hs) hn hN
theorem B1l {K:W.Frag}{a t l:Addr}{g:bD}{w':Nat}{cs:List Pl}{ps:List Addr}{H:Hp}{Q:VK}(hA:GridAt H a g)(G:cK g w')(ht:H t=some (.tup (ps.map V.ref)))(hP:PlAt H ps cs)(hL:LandOf g cs)(hl:H l=none)(q:∀H',Same H H'->Q (.int (eX g cs)) H'):
  dI (Itt K t) (iA K 2 (dU (cO 0) (dU (cO 1) gT))) (cL fX (dL l (tOp (iI K) (tOp (iI K) (dP 2) (dP 0)) (dP 1)))) (eC fun _ H'=> ∃(p:Addr)(ns:List Int),[V.ref l]=[.ref p]/\SqL K H' p (ns.map V.int)/\ns.length<=1000/\(∀n∈ns,-1000<=n/\n<=1000)/\Q (.int ns.sum) H') [none,none,some (.ref a)] (upd H l (.lst [])):=by
 have hpl:ps.length=cs.length:=Paired.length hP;have h10:=LandOf.len G hL;refine gM (K:=K) (a:=t) (xs:=ps.map V.ref) (fun i σ H'=>(∃o1 o2,σ=[o1,o2,some (.ref a)])/\Same H H'/\H' l=some (.lst (((cs.take i).map (atG g)).map V.int))) ⟨⟨_,_,rfl⟩,aM hl,by rw [aG];rfl⟩ (fun i σ H' _ h=>SqT.of (h.2.1 _ _ ht)) ?_ ?_
 ·rintro i x σ H' hi ⟨⟨o1,o2,rfl⟩,hs,hl'⟩;obtain⟨p,hpi,rfl⟩:=dW hi;obtain⟨cc,hci,hpc⟩:=hP.at hpi;have hil:i<cs.length:=(zjW.mp hci).1;obtain⟨i',j',xs,n,rfl,hg,hx,hf⟩:=mem_gridF.mp (hL.subset (mem_of_getElem? hci));obtain⟨bs,b,h1,h2,h3,h4⟩:=(hA.same hs).ix hg hx;refine⟨p,_,rfl,SqT.of (hs _ _ hpc),rfl,_,_,rfl,_,_,rfl,rfl,?_⟩;refine hZ ?_;refine⟨_,rfl,_,rfl,a,_,_,_,rfl,rfl,SqT.of h1,h2,_,rfl,b,_,_,_,rfl,rfl,SqT.of h3,h4,?_⟩;refine⟨_,hl',cA (by rw [length_map,length_map,length_take];omega),⟨_,_,rfl⟩,fun b' u e'=> ?_,?_⟩
  ·rw [aV (bG e' hl)];exact hs _ _ e'
  ·rw [aG,take_succ,hci,map_append,map_append];show some (HO.lst (_++[V.int n]))=some (HO.lst (_++[V.int (atG g ((i':Int),(j':Int)))]));rw [iQ hg hx]
 ·rintro σ H' ⟨_,hs,hl'⟩;rw [length_map,hpl,take_of_length_le (zjQ _)]at hl';refine⟨l,_,rfl,SqL.of hl',by rw [length_map];omega,fun n hn=> ?_,q H' hs⟩;obtain⟨c,hc,rfl⟩:=mem_map.mp hn;obtain⟨i',j',xs,n,rfl,hg,hx,hf⟩:=mem_gridF.mp (hL.subset hc);rw [iQ hg hx];have:=G.num xs (mem_of_getElem? hg) n (mem_of_getElem? hx);omega
theorem A48 (F:D1 K mg "worth_together" jW ["mead","places"])(T2:dX mg):A1 P w K mg base 1 "worth_together" A0z:=by
 refine F.k ["mead","places"] ?_;ac_nf
 ·obtain⟨a,t,g,w',cs,rfl,hA,G,⟨ps,ht,hP⟩,hL,q⟩:=h;refine⟨_,aQ (bA (bH (lB rfl) rfl T2.sum boot_sum (cP (bJ (bC jW).names ["mead","places"] ["row","column"] [("mead",0)] rfl (cQ (pv 1)) rfl rfl rfl (by decide +kernel)
    (fun Z=>bN rfl (aX (nm1 0 mW) (aX (nm1 1 mW) bM))) (fun Z=>bZ) (fun Z=>bI cB (bI cB (pv 2) (pv 0) (fun _ _=>rfl)) (pv 1) (fun _ _=>rfl))) aA))),?_⟩
  refine⟨_,rfl,t,rfl,⟨_,SqT.of ht⟩,fun Z l hl=> ?_⟩;exact B1l hA G ht hP hL hl q
end
end M52
namespace Set4
open PySem PyProof.Rows
noncomputable def L (b0 b1 b2 b3:Bool):List Nat:=(cond b0 [0] [])++((cond b1 [1] [])++((cond b2 [2] [])++(cond b3 [3] [])))
noncomputable def aU (S:Nat->Bool):List Nat:=L (S 0) (S 1) (S 2) (S 3)
noncomputable def ents (l:List Nat)(f:Nat->Value):Array (Int×Value):=(l.map fun k:Nat=>((k:Int),f k)).toArray
noncomputable def tab (l:List Nat)(led:Bool):SetTable:={mask:=7,place:=l.toArray,dummies:=#[],finger:=0,led:=led,moves:=0,plain:=true}
noncomputable def plus (S:Nat->Bool)(k:Nat):Nat->Bool:=fun j=>S j||decide (j=k)
noncomputable def fK (f:Nat->Value)(k:Nat)(x:Value):Nat->Value:=fun j=>if j=k then x else f j
theorem A5m (b1 b2 b3 led:Bool)(f:Nat->Value)(x:Value):layNew (tab (L false b1 b2 b3) led) (ents (L false b1 b2 b3) f) ((0:Nat):Int) x=(ents (L true b1 b2 b3) (fK f 0 x),tab (L true b1 b2 b3) led,false,false):=by cases b1<;>cases b2<;>cases b3<;>kernel_rfl
theorem A9r (b0 b2 b3 led:Bool)(f:Nat->Value)(x:Value):layNew (tab (L b0 false b2 b3) led) (ents (L b0 false b2 b3) f) ((1:Nat):Int) x=(ents (L b0 true b2 b3) (fK f 1 x),tab (L b0 true b2 b3) led,false,false):=by cases b0<;>cases b2<;>cases b3<;>kernel_rfl
theorem A3o (b0 b1 b3 led:Bool)(f:Nat->Value)(x:Value):layNew (tab (L b0 b1 false b3) led) (ents (L b0 b1 false b3) f) ((2:Nat):Int) x=(ents (L b0 b1 true b3) (fK f 2 x),tab (L b0 b1 true b3) led,false,false):=by cases b0<;>cases b1<;>cases b3<;>kernel_rfl
theorem A13 (b0 b1 b2 led:Bool)(f:Nat->Value)(x:Value):layNew (tab (L b0 b1 b2 false) led) (ents (L b0 b1 b2 false) f) ((3:Nat):Int) x=(ents (L b0 b1 b2 true) (fK f 3 x),tab (L b0 b1 b2 true) led,false,false):=by cases b0<;>cases b1<;>cases b2<;>kernel_rfl
theorem A4o (S:Nat->Bool)(led:Bool)(f:Nat->Value)(x:Value)(k:Nat)(hk:k<4)(hs:S k=false):layNew (tab (aU S) led) (ents (aU S) f) (k:Int) x=(ents (aU (plus S k)) (fK f k x),tab (aU (plus S k)) led,false,false):=by
 unfold aU plus
 match k,hk with
 |0,_=>rw [hs];simpa using A5m (S 1) (S 2) (S 3) led f x
 |1,_=>rw [hs];simpa using A9r (S 0) (S 2) (S 3) led f x
 |2,_=>rw [hs];simpa using A3o (S 0) (S 1) (S 3) led f x
 |3,_=>rw [hs];simpa using A13 (S 0) (S 1) (S 2) led f x
theorem kG (b0 b1 b2 b3:Bool):(L b0 b1 b2 b3).length<=4:=by cases b0<;>cases b1<;>cases b2<;>cases b3<;>decide
theorem iU (l:List Nat)(f:Nat->Value):(ents l f).size=l.length:=by simp [ents]
theorem kN (S:Nat->Bool)(led:Bool)(f:Nat->Value):(tab (aU S) led).fits (ents (aU S) f).size=true:=by rw [iU];unfold aU;cases S 0<;>cases S 1<;>cases S 2<;>cases S 3<;>kernel_rfl
theorem A94 (S:Nat->Bool)(led:Bool):(tab (aU S) led).tooFull=false:=by unfold aU;cases S 0<;>cases S 1<;>cases S 2<;>cases S 3<;>kernel_rfl
theorem mP:k∈cond b [i] []↔b=true/\k=i:=by cases b<;>simp
theorem mem_mem4:k∈aU S↔k<4/\S k=true:=by
 unfold aU L;rw [mem_append,mem_append,mem_append,mP,mP,mP,mP];constructor
 ·rintro(⟨h,rfl⟩| ⟨h,rfl⟩| ⟨h,rfl⟩| ⟨h,rfl⟩)<;>exact⟨by decide,h⟩
 ·rintro⟨hk,hs⟩
  match k,hk with
  |0,_=>exact .inl ⟨hs,rfl⟩
  |1,_=>exact .inr (.inl ⟨hs,rfl⟩)
  |2,_=>exact .inr (.inr (.inl ⟨hs,rfl⟩))
  |3,_=>exact .inr (.inr (.inr ⟨hs,rfl⟩))
noncomputable def dF (S:Nat->Bool)(f:Nat->Value)(led:Bool)(ep:Nat):Obj:={cls:=.type "set",dict:=none,data:=.set (ents (aU S) f) ep (tab (aU S) led)}
noncomputable def IsS4 (h:Heap)(a:Addr)(S:Nat->Bool)(led:Bool):Prop:=∃f ep,(∀k,k<4->S k=true->∃t,f k=Value.int k t)/\h.get? a=some (dF S f led ep)
theorem yC (k:Nat)(hk:k<4):hashInt (k:Int)=(k:Int):=by
 match k,hk with
 |0,_=>rfl
 |1,_=>rfl
 |2,_=>rfl
 |3,_=>rfl
section
theorem A25 {S:Nat->Bool}{f:Nat->Value}(hf:∀k,k<4->S k=true->∃t,f k=Value.int k t):ElemsOf (intKind prog w) (ents (aU S) f).toList:=by
 intro e he;have he':e∈(aU S).map fun k:Nat=>((k:Int),f k):=by simpa [ents]using he
 obtain⟨k,hk,rfl⟩:=mem_map.mp he';obtain⟨h1,h2⟩:=mem_mem4.mp hk;obtain⟨t,ht⟩:=hf k h1 h2;refine⟨⟨(k:Int),?_,?_⟩,?_⟩
 ·show(intKind prog w).is (k:Int) (f k)=true;rw [ht];exact intKind_is _ _ _ _
 ·exact(yC k h1).symm
 ·show(f k).scannable=true;rw [ht];rfl
theorem A7x (hS:IsS4 s.heap a S led)(hk:k<4)(h:∀b h',Heap.SameBut a s.heap h'->IsS4 h' a (plus S k) led->Q b {s with heap:=h'}):
  wpAny (model prog w) A (setAddHashed a (.int (k:Int) t) (hashInt (k:Int))) Q E s:=by
 obtain⟨f,ep,hf,ho⟩:=hS;have hel:ElemsOf (intKind prog w) (ents (aU S) f).toList:=A25 hf;have hfit:=kN S led f;have hz:(ents (aU S) f).size<scanBound:=by
  rw [iU];have:=kG (S 0) (S 1) (S 2) (S 3);show(L (S 0) (S 1) (S 2) (S 3)).length<4096;omega
 have hd:(dF S f led ep).data= .set (ents (aU S) f) ep (tab (aU S) led):=rfl;have hkey:(intKind prog w).is (k:Int) (Value.int (k:Int) t)=true:=intKind_is _ _ _ _;unfold setAddHashed setAddHashedIn;refine wpAny_holding (zjZ (wpAny_setState_of ho hd hfit ?_));dsimp only
 rw [byScan_of (knd:=intKind prog w) rfl hz hel];simp only [↓reduceIte];unfold setAddByScan;refine zjZ (zjZ (wpAny_rule (zjZ (wpAny_setScan_of (knd:=intKind prog w) hkey ho hd hfit hel ?_))));cases hSk:S k with
 |true=>
  have:∃j,findIdx? (fun e=>(intKind prog w).is (k:Int) e.2) (ents (aU S) f).toList=some j:=by
   cases hr:findIdx? (fun e=>(intKind prog w).is (k:Int) e.2) (ents (aU S) f).toList with
   |some j=>exact⟨j,rfl⟩
   |none=>
    obtain⟨t',ht'⟩:=hf k hk hSk;have hm:((k:Int),f k)∈(ents (aU S) f).toList:=by
     have:((k:Int),f k)∈(aU S).map fun k:Nat=>((k:Int),f k):=mem_map.mpr ⟨k,mem_mem4.mpr ⟨hk,hSk⟩,rfl⟩;simpa [ents]using this
    have:=List.findIdx?_eq_none_iff.mp hr _ hm;rw [show(intKind prog w).is (k:Int) ((k:Int),f k).2=true by show(intKind prog w).is (k:Int) (f k)=true;rw [ht'];exact intKind_is _ _ _ _]at this;cases this
  obtain⟨j,hj⟩:=this;rw [hj];dsimp only
  refine zjY (zjY ?_);have eS:plus S k=S:=funext fun i=>by
   unfold plus;by_cases e:i=k
   ·subst e;simp [hSk]
   ·simp [e]
  exact h _ s.heap (Heap.SameBut.refl a s.heap) (by rw [eS];exact⟨f,ep,hf,ho⟩)
 |false=>
  have hr:findIdx? (fun e=>(intKind prog w).is (k:Int) e.2) (ents (aU S) f).toList=none:=by
   rw [List.findIdx?_eq_none_iff];intro e he;have he':e∈(aU S).map fun k:Nat=>((k:Int),f k):=by simpa [ents]using he
   obtain⟨i,hi,rfl⟩:=mem_map.mp he';obtain⟨h1,h2⟩:=mem_mem4.mp hi;obtain⟨t',ht'⟩:=hf i h1 h2;cases z:(intKind prog w).is (k:Int) (((i:Int),f i).2)with
   |false=>rfl
   |true=>
    have z':(intKind prog w).is (k:Int) (Value.int (i:Int) t')=true:=by rw [←ht'];exact z
    have:=(intKind prog w).inj _ _ _ z' (intKind_is _ _ _ _);have e:k=i:=by omega
    subst e;rw [hSk]at h2;cases h2
  rw [hr];dsimp only
  rw [yC k hk,A4o S led f _ k hk hSk];dsimp only
  refine zjZ (zjY ?_);have hS2:∀ep',∀h',h'.get? a=some (dF (plus S k) (fK f k (.int (k:Int) t)) led ep')->IsS4 h' a (plus S k) led:=fun ep' h' g=> ⟨_,ep',fun i hi hp=>by
   unfold fK;by_cases e:i=k
   ·rw [if_pos e,e];exact⟨t,rfl⟩
   ·rw [if_neg e];unfold plus at hp;exact hf i hi (by simpa [e]using hp),g⟩
  rw [show(tab (aU (plus S k)) led).plain=true from rfl];simp only [↓reduceIte];rw [hashByValue_scannable 8 (x:=Value.int (k:Int) t) rfl];refine zjZ (zjY ?_);rw [show plainKind (Value.int (k:Int) t)=true from rfl];simp only [↓reduceIte];have hz2:(ents (aU (plus S k)) (fK f k (.int (k:Int) t))).size<=sizeLine:=by
   rw [iU,sizeLine_eq];have:=kG (plus S k 0) (plus S k 1) (plus S k 2) (plus S k 3);show(L (plus S k 0) (plus S k 1) (plus S k 2) (plus S k 3)).length<=_;omega
  refine zjZ (wpAny_storeSet_of ho hd ?_ hz2);rw [A94];simp only [Bool.and_false,Bool.false_eq_true,↓reduceIte];refine zjY (zjY ?_);have hg:(s.heap.update a (Obj.putSet (ents (aU (plus S k)) (fK f k (.int (k:Int) t))) (tab (aU (plus S k)) led))).get? a=some (dF (plus S k) (fK f k (.int (k:Int) t)) led (ep+1)):=by
   have:=get?_update_self (Obj.putSet (ents (aU (plus S k)) (fK f k (.int (k:Int) t))) (tab (aU (plus S k)) led)) ho (by rw [putSet_of _ _ hd];rfl);rw [putSet_of _ _ hd]at this;exact this
  exact h _ _ (Heap.SameBut.update s.heap a _) (hS2 _ _ hg)
end
noncomputable def acc (val:Nat->Nat):Nat->Nat->Bool
 |0=>fun _=>false
 |i+1=>plus (acc val i) (val i)
theorem A09 (val:Nat->Nat)(k:Nat):∀i,acc val i k=true↔ ∃j,j<i/\val j=k
 |0=>by simp [acc]
 |i+1=>by
  show plus (acc val i) (val i) k=true↔_;unfold plus;rw [Bool.or_eq_true,A09 val k i,decide_eq_true_eq];constructor
  ·rintro(⟨j,h1,h2⟩|h)
   ·exact⟨j,by omega,h2⟩
   ·exact⟨i,by omega,h.symm⟩
  ·rintro⟨j,h1,h2⟩;by_cases e:j=i
   ·right;rw [←h2,e]
   ·exact .inl ⟨j,by omega,h2⟩
theorem IsS4.at (x:IsS4 h a S led)(e:∀o,h.get? a=some o->h'.get? a=some o):IsS4 h' a S led:=let ⟨f,ep,hf,ho⟩:=x;⟨f,ep,hf,e _ ho⟩
section
variable {St:Nat->Shared->Prop}
theorem A2o (W:WalksS prog w A.in1 I fp wr G n P St)(D:Addr)(hD:D∉fp)(val:Nat->Nat)(hv:∀i v,P i v->∃t,v= .int (val i:Int) t)(h4:∀i,i<n->val i<4):∀(k i:Nat)(s:Shared),n - i=k->i<=n->St i s->IsS4 s.heap D (acc val i) led->
  (∀s',Moved (D::wr) G s s'->IsS4 s'.heap D (acc val n) led->R (.ok (.ret .none)) s')->codeAny (model prog w) A (.builtin "set.update.loop" ⟨[.ref D,.ref I],[]⟩) R s:=by
 have nw:D∉wr:=fun h=>hD (W.sub _ h);have sub:∀b∈wr,b∈D::wr:=fun b hb=>zjS _ hb;intro k
 induction k with
 |zero=>
  intro i s hk hi st hS hR;obtain rfl:i=n:=by omega
  refine codeAny_builtin F.entry_set_update_loop ?_;rw [Around.under_plainId F.plain_set_update_loop _];show wpAny _ A.in1 (pyNext (.ref I)>>=_) _ _ s;refine zjZ (W.done s _ _ st fun s' hm=> ?_);show wpAny _ A.in1 (ret Value.none) _ _ s';exact zjY (hR s' (hm.mono sub) (hS.at fun o e=>hm.heap D _ nw e))
 |succ k ih=>
  intro i s hk hi st hS hR;have hlt:i<n:=by omega
  refine codeAny_builtin F.entry_set_update_loop ?_;rw [Around.under_plainId F.plain_set_update_loop _];show wpAny _ A.in1 (pyNext (.ref I)>>=_) _ _ s;refine zjZ (W.item i s _ _ hlt st fun v s' hP st' hm=> ?_);obtain⟨t,rfl⟩:=hv i v hP;show wpAny _ A.in1 (holding [Value.int (val i:Int) t] (setAdd D (.int (val i:Int) t))>>=_) _ _ s';refine zjZ (wpAny_holding ?_);unfold setAdd;refine wpAny_holding ?_;refine zjZ ((intKind prog w).pyHash (k:=(val i:Int)) (intKind_is _ _ _ _) ?_);refine A7x (s:={s' with toks:=s'.toks+1}) (hS.at fun o e=>hm.heap D _ nw e) (h4 i hlt) fun b h' hsb hS2=> ?_;refine zjY ⟨plainId_quiet F.plain_set_update_loop _,ih (i+1) _ (by omega) hlt (W.frame _ s' _ _ st' (le_succ _) fun b hb o e=> ?_) hS2 fun s'' hm'' hS''=> ?_⟩
  ·rw [hsb.2 b (fun h:b=D=>hD (by rw [←h];exact hb))];exact e
  ·refine hR s'' (Moved.trans W.gtrans ((hm.mono sub).then_heap (le_succ _) fun b o hb e=> ?_) hm'') hS'';rw [hsb.2 b (fun h:b=D=>hb (by rw [h];exact zjR))];exact e
end
section
noncomputable def byT (w:World):Bool:=w.params.followText "set-order"
theorem A44 (a:Value)(h:Q₁ (.ref s.heap.objs.size) {s with heap:=s.heap.push (dF (fun _=>false) (fun _=> .none) (!byT w) 0)}):
  codeAny (model prog w) A (.call (.builtin "set.__new__") ⟨[.type "set",a],[]⟩) (wants Q₁ E) s:=by
 refine codeAny_of_tree ?_
 show wpAny _ A.in1 (do checkBuiltinCall "set.__new__" ⟨[.type "set",a],[]⟩;again (.builtin "set.__new__" ⟨[.type "set",a],[]⟩)) _ _ s;refine zjZ (wpAny_of_eq (PySem.F.newCall_set_1 a) (zjY ⟨plainId_quiet PySem.F.plain_set_new _,codeAny_builtin PySem.F.entry_set_new ?_⟩));rw [Around.under_plainId PySem.F.plain_set_new _];unfold Builtin.«set.__new__» Builtin.Frozenset.newClass;have hsub:=PySem.sub_set_self;obtain⟨hp,g,d,tk,os⟩:=s;dsimp only;wp_walk;refine wpAny_askSetting (zjY ?_);dsimp only;simp only [newObj];refine zjZ (wpAny_alloc (zjY ?_));exact zjY h
theorem A90 (hh:A.handled=none)(hl:s.heap.IsList l items)(hv:∀(i:Nat)(v:Value),items[i]?=some v->∃t,v= .int (val i:Int) t)(h4:∀i,i<items.size->val i<4)
  (h:∀(h':Heap)(tk:Nat),IsS4 h' s.heap.objs.size (acc val items.size) (!byT w)->(∀b o,b<s.heap.objs.size->s.heap.get? b=some o->h'.get? b=some o)->Q (.ref s.heap.objs.size) {s with heap:=h',toks:=tk}):
  wpAny (model prog w) A (call (.type "set") [.ref l]) Q E s:=by
 obtain⟨c,tl,hmro⟩:=PySem.F.called_set.mro;have hmade:=PySem.F.called_set.made;have hsub:=PySem.F.called_set.sub;refine wpAny_call (codeAny_of_tree ?_);show wpAny _ _ (callAny (.type "set") _) _ _ _;refine zjY ⟨Code.quiet_builtin _ (by decide +kernel),codeAny_builtin PySem.F.entry_type_call ?_⟩;rw [Around.under_plain (weight_type_call_type "set" [.ref l] []) rfl];have h1:=PySem.F.called_set.notType;have h2:=PySem.F.called_set.canCreate;have hct:=PySem.F.typeCall_set_1 (.ref l)
 repeat (any_goals (first|assumption|wp_step))
 refine codeAny_mono (A44 (.ref l) (E:=E) (Q₁:=fun obj s₁=>obj= .ref s.heap.objs.size/\s₁={s with heap:=s.heap.push (dF (fun _=>false) (fun _=> .none) (!byT w) 0)}) ⟨rfl,rfl⟩) fun r s₁ hr=> ?_;cases r with
 |error e=>exact hr
 |ok fl=>
  cases fl with
  |ret obj=>
   obtain⟨rfl,rfl⟩:=hr;have hS:(s.heap.push (dF (fun _=>false) (fun _=> .none) (!byT w) 0)).get? s.heap.objs.size=some (dF (fun _=>false) (fun _=> .none) (!byT w) 0):=get?_push_size _ rfl;have hT:Shared.TypeIs {s with heap:=s.heap.push (dF (fun _=>false) (fun _=> .none) (!byT w) 0)} (.ref s.heap.objs.size) "set":=⟨_,hS,rfl⟩;have hli:=PySem.F.called_set.init.lookup;have hbi:=PySem.F.called_set.init.bind (.ref s.heap.objs.size)
   repeat (any_goals (first|assumption|wp_step))
   refine codeAny_mono (codeAny_call_builtin (R:=wants (fun r s₂=>r= .none/\∃h' tk,s₂={s with heap:=h',toks:=tk}/\IsS4 h' s.heap.objs.size (acc val items.size) (!byT w)/\
     (∀b o,b<s.heap.objs.size->s.heap.get? b=some o->h'.get? b=some o)) E) PySem.F.called_set.init.plain PySem.F.entry_set_init (check_set_init_1 hT ?_)) fun r₂ s₂ hr₂=> ?_
   ·obtain⟨ol,hol,hcl,nl,hdl⟩:=hl;obtain⟨ocls,odict,odata,oslots⟩:=ol;simp only at hcl hdl;subst hcl;subst hdl;have hol':(s.heap.push (dF (fun _=>false) (fun _=> .none) (!byT w) 0)).get? l=some {cls:=.type "list",dict:=odict,data:=.seq items nl,slots:=oslots}:=zjX _ hol;have hsls:=PySem.F.sub_list_set;have hslf:=PySem.F.sub_list_frozenset;have hne:(Value.type "list" ==Value.type "dict")=false:=by decide
    have hl1:(s.heap.push (dF (fun _=>false) (fun _=> .none) (!byT w) 0)).IsList l items:=⟨_,hol',rfl,nl,rfl⟩;unfold Builtin.«set.__init__» noKeywords Builtin.Frozenset.updateFrom;generalize hPI:pyIter=PI
    wp_walk
    subst hPI;refine wpAny_pyIter_list hl1 ?_;refine zjZ (wpAny_runValue ?_);have hlS:l<s.heap.objs.size:=zjT hol;have hh3:A.in1.in1.in1.handled=none:=by simp [hh]
    have hneI:l≠(s.heap.push (dF (fun _=>false) (fun _=> .none) (!byT w) 0)).objs.size:=by rw [size_push];exact ne_of_lt (lt_succ_of_lt hlS)
    have hSf:s.heap.objs.size∉[(s.heap.push (dF (fun _=>false) (fun _=> .none) (!byT w) 0)).objs.size,l]:=by
     rw [size_push];intro hm;rcases mem_cons.mp hm with e|e
     ·exact absurd e (ne_of_lt (lt_succ_self _))
     ·exact absurd (mem_singleton.mp e) (ne_of_gt hlS)
    refine A2o ((Walks.list hh3 _ l hneI items).toS) s.heap.objs.size hSf val hv h4 (items.size - 0) 0 _ (by omega) (zero_le _) ⟨⟨_,get?_push_size _ rfl,rfl,rfl⟩,(hl1.push _)⟩ (show IsS4 _ _ (fun _=>false) (!byT w)from⟨fun _=> .none,0,(fun k _ z=>absurd z (by simp)),zjX _ hS⟩) ?_;intro s' hm hS';obtain⟨h',g',d',tk',os'⟩:=s';have eg:g'=s.gens:=hm.gens;have ed:d'=s.drawn:=hm.drawn;have eo:os'=s.os:=hm.os;subst eg;subst ed;subst eo;show wpAny _ _ _ _ _ _;refine zjY ?_;show wpAny _ _ (ret Value.none) _ _ _;refine zjY ⟨rfl,h',tk',rfl,hS',fun b o hb e=> ?_⟩;refine hm.heap b o (fun hmm=> ?_) (zjX _ (zjX _ e));rcases mem_cons.mp hmm with z|z
    ·exact ne_of_lt hb z
    ·rw [size_push]at z;exact ne_of_lt (lt_succ_of_lt hb) (mem_singleton.mp z)
   ·cases r₂ with
    |error e=>exact hr₂
    |ok fl₂=>
     cases fl₂ with
     |ret r=>
      obtain⟨rfl,h',tk,rfl,hS',hk'⟩:=hr₂
      repeat (any_goals (first|assumption|wp_step))
      exact h _ _ hS' hk'
     |_=>exact hr₂.elim
  |_=>exact hr.elim
end
theorem tG:∀(l:List α)(i:Nat)(h:i<l.length),(l[i]::l.eraseIdx i).Perm l
 | [],i,h=>by simp at h
 |x::l,0,h=>List.Perm.refl _
 |x::l,i+1,h=>by
  have ih:=tG l i (by simpa using h);show(l[i]'(by simpa using h)::x::l.eraseIdx i).Perm (x::l);exact(List.Perm.swap _ _ _).trans (ih.cons x)
theorem uN (next:Nat->Nat):∀(fuel k:Nat)(left:List α)(out:Array α),left.length=fuel->(pickOrder.go next fuel k left out).toList.Perm (out.toList++left)
 |0,k,left,out,h=>by
  cases left with
  |nil=>unfold pickOrder.go;simp
  |cons _ _=>simp at h
 |fuel+1,k,left,out,h=>by
  have hl:next k%left.length<left.length:=mod_lt _ (by omega);unfold pickOrder.go;rw [getElem?_eq_getElem hl];have ih:=uN next fuel (k+1) (left.eraseIdx (next k%left.length)) (out.push left[next k%left.length]) (by rw [List.length_eraseIdx_of_lt hl];omega);refine ih.trans ?_;rw [Array.toList_push,append_assoc];exact List.Perm.append_left _ (tG _ _ hl)
theorem A27 (next:Nat->Nat)(xs:Array α):(pickOrder next xs).toList.Perm xs.toList:=by have:=uN next xs.size 0 xs.toList #[] (by simp);unfold pickOrder;simpa using this
noncomputable def slot (S:Nat->Bool)(i:Nat):Nat:=if i=0 then 0 else(aU S).getD (i - 1) 0+1
theorem A5h (S:Nat->Bool)(i:Nat)(hi:i<=(aU S).length):SetTable.below (aU S).toArray (slot S i)=i:=by
 have key:∀b0 b1 b2 b3:Bool,∀i,i<5->i<=(L b0 b1 b2 b3).length->SetTable.below (L b0 b1 b2 b3).toArray (if i=0 then 0 else(L b0 b1 b2 b3).getD (i - 1) 0+1)=i:=by decide +kernel
 have:=kG (S 0) (S 1) (S 2) (S 3);exact key (S 0) (S 1) (S 2) (S 3) i (by unfold aU at hi;omega) hi
noncomputable def ord (w:World)(a:Addr)(S:Nat->Bool)(f:Nat->Value)(ep:Nat):List Value:=((if byT w=true then pickOrder (w.params.setOrder a ep) (ents (aU S) f)else ents (aU S) f).toList).map (·.2)
theorem wO (w:World)(a:Addr)(S:Nat->Bool)(f:Nat->Value)(ep:Nat):(ord w a S f ep).Perm ((aU S).map f):=by
 have e:(ents (aU S) f).toList.map (·.2)=(aU S).map f:=by simp [ents,Function.comp_def]
 unfold ord;by_cases h:byT w=true
 ·rw [if_pos h,←e];exact(A27 _ _).map _
 ·rw [if_neg h,e]
noncomputable def nslot (w:World)(S:Nat->Bool)(i:Nat):Nat:=if byT w=true then 0 else slot S i
section
theorem A0m (ho:s.heap.get? a=some (dF S f (!byT w) ep))(hi:i<=(aU S).length)(h:Q (((ord w a S f ep)[i]?).map fun v=>(v,nslot w S (i+1))) s):
  wpAny (model prog w) A (setNext a (nslot w S i) i ep) Q E s:=by
 have hd:(dF S f (!byT w) ep).data= .set (ents (aU S) f) ep (tab (aU S) (!byT w)):=rfl;have hf:=kN S (!byT w) f;unfold setNext setsByText;refine zjZ (wpAny_setState_of ho hd hf ?_);dsimp only
 refine zjZ (zjZ (wpAny_askSetting (zjY ?_)));show wpAny _ _ (if byT w=true then _ else _) _ _ _;unfold ord nslot at h;unfold nslot;by_cases hb:byT w=true
 ·rw [if_pos hb]at h⊢;rw [if_pos hb]at h;rw [if_pos hb];rw [if_neg (by simp)];refine zjZ ?_;unfold setWalk setsByText;refine zjZ ((wpAny_setState_of ho hd hf ?_));dsimp only
  refine zjZ (zjZ (wpAny_askSetting (zjY ?_)));show wpAny _ _ (if byT w=true then _ else _) _ _ _;rw [if_pos hb];refine zjZ (wpAny_askSetting (zjY ?_));refine zjY ?_;rw [getElem?_map,Array.getElem?_toList,Option.map_map]at h;exact h
 ·rw [if_neg hb]at h⊢;rw [if_neg hb]at h;rw [if_neg hb];have hb':byT w=false:=by simpa using hb
  show wpAny _ _ (if (!true&&decide ((ents (aU S) f).size>1))=true then _ else _) _ _ _;rw [if_neg (by simp)];show wpAny _ _ ((if (!(!byT w)&& !(ents (aU S) f).isEmpty)=true then unsupported "set:maker-not-led" else pure ())>>=_) _ _ _;rw [hb',if_neg (by simp)];refine zjZ (zjY (zjY ?_));show Q (match (ents (aU S) f)[SetTable.below (aU S).toArray (slot S i)]?,(aU S).toArray[SetTable.below (aU S).toArray (slot S i)]? with|some (_,x),some j=>some (x,j+1)|_,_=>none) s;rw [A5h S i hi];rw [getElem?_map,Array.getElem?_toList]at h;by_cases hl:i<(aU S).length
  ·have e1:(ents (aU S) f)[i]?=some (((aU S)[i]:Int),f (aU S)[i]):=by simp [ents,hl]
   have e2:(aU S).toArray[i]?=some (aU S)[i]:=by simp [hl]
   rw [e1]at h⊢;rw [e2];have e3:slot S (i+1)=(aU S)[i]+1:=by unfold slot;rw [if_neg (by omega)];simp [hl]
   rw [e3]at h;exact h
  ·have e1:(ents (aU S) f)[i]?=none:=by simp [ents];omega
   rw [e1]at h⊢;exact h
end
noncomputable abbrev lJ (h:Heap)(I a:Addr)(sl i n ep:Nat):Prop:=h.get? I=some {cls:=.type "set_iterator",dict:=none,data:=.fields #[.int sl 0,.int i 0,.ref a,.int n 0,.int ep 0],slots:=#[]}
theorem slot_next:Slot "set_iterator" "__next__" "set_iterator.__next__":=.of (owner:="set_iterator") (n:="__next__") (by rw [typeLookup_type,builtinLookup_eq_fast];kernel_rfl) (by decide +kernel) (by decide +kernel) (by decide +kernel) (by first|exact .inl (by decide +kernel)|exact .inr (by decide +kernel)) (by rw [isSubtype_type];kernel_rfl)
theorem uU:Slot "set_iterator" "__iter__" "set_iterator.__iter__":=.of (owner:="set_iterator") (n:="__iter__") (by rw [typeLookup_type,builtinLookup_eq_fast];kernel_rfl) (by decide +kernel) (by decide +kernel) (by decide +kernel) (by first|exact .inl (by decide +kernel)|exact .inr (by decide +kernel)) (by rw [isSubtype_type];kernel_rfl)
theorem zY:entryFor table "set_iterator.__next__" =some Builtin.«set_iterator.__next__»:=entryFor_of_tree (by kernel_rfl)
theorem A1h:entryFor table "set_iterator.__iter__" =some Builtin.«dict_keyiterator.__iter__»:=entryFor_alias (id':="dict_keyiterator.__iter__") (by kernel_rfl) rfl (by decide +kernel) (by kernel_rfl)
theorem A29:entryFor table "set.__iter__" =some Builtin.«frozenset.__iter__»:=entryFor_alias (id':="frozenset.__iter__") (by kernel_rfl) rfl (by decide +kernel) (by kernel_rfl)
theorem tP (a:Value):argsOk "set_iterator.__next__" ⟨[a],[]⟩:=by unfold argsOk;kernel_rfl
theorem A3j (a:Value):argsOk "set_iterator.__iter__" ⟨[a],[]⟩:=by unfold argsOk;kernel_rfl
theorem lK (w:World)(a:Addr)(S:Nat->Bool)(f:Nat->Value)(ep:Nat):(ord w a S f ep).length=(aU S).length:=by rw [(wO w a S f ep).length_eq,length_map]
section
theorem A2f (ho:s.heap.get? a=some (dF S f (!byT w) ep))
  (h:Q (.ref s.heap.objs.size) {s with heap:=s.heap.push {cls:=.type "set_iterator",data:=.fields #[.int 0 0,.int 0 0,.ref a,.int (aU S).length 0,.int ep 0]}}):wpAny (model prog w) A (pyIter (.ref a)) Q E s:=by
 have hd:(dF S f (!byT w) ep).data= .set (ents (aU S) f) ep (tab (aU S) (!byT w)):=rfl;have hf:=kN S (!byT w) f;have hT:s.TypeIs (.ref a) "set":=⟨_,ho,rfl⟩;refine wpAny_pyIter_slot hT PySem.F.slot_set_iter (wpAny_call_entry PySem.F.slot_set_iter hT A29 ?_ (PySem.F.args_set_iter_1 _));unfold Builtin.«frozenset.__iter__»;refine zjZ (zjY ?_);unfold Builtin.Frozenset.sizeOf;refine zjZ (zjZ (wpAny_setEntries_of ho hd hf (zjY ?_)));refine zjZ ?_;unfold setDrawn setsByText;refine zjZ (wpAny_setState_of ho hd hf ?_);dsimp only
 refine zjZ (zjZ (wpAny_askSetting (zjY ?_)));refine zjY ?_;show wpAny _ _ (if (!byT w&&(!true&&decide ((ents (aU S) f).size>1)))=true then _ else _) _ _ _;rw [if_neg (by simp)];refine zjZ (zjY ?_);unfold setEpoch;refine zjZ (zjZ (wpAny_setState_of ho hd hf (zjY ?_)));unfold newFields;refine zjZ (wpAny_newObj_type (zjY ⟨_,rfl,"set_iterator",_,⟨_,get?_push_size _ rfl,rfl⟩,slot_next.lookup,?_⟩) (by simp [sizeOk,sizeLine_eq]));rw [iU];exact h
theorem A1m (hh:A.handled=none)(I a:Addr)(hne:a≠I)(S:Nat->Bool)(f:Nat->Value)(ep:Nat):
  Walks prog w A I [I,a] [I] (aU S).length (fun i v=>(ord w a S f ep)[i]?=some v) (fun i h=>lJ h I a (nslot w S i) i (aU S).length ep/\h.get? a=some (dF S f (!byT w) ep))where
 sub:=fun b hb=>by simp at hb;simp [hb]
 frame:=fun _ _ _ st hk=> ⟨hk I (by simp) _ st.1,hk a (by simp) _ st.2⟩
 item:=fun i s Q E hi st hQ=>by
  obtain⟨hit,ho⟩:=st;have hd:(dF S f (!byT w) ep).data= .set (ents (aU S) f) ep (tab (aU S) (!byT w)):=rfl;have hf:=kN S (!byT w) f;have hT:s.TypeIs (.ref I) "set_iterator":=⟨_,hit,rfl⟩;have hlt:i<(ord w a S f ep).length:=by rw [lK];exact hi
  unfold pyNext;refine zjZ (wpAny_attempt (wpAny_callSpecial?_slot (name:=Str.ofString "__next__") hT slot_next (wpAny_call_entry slot_next hT zY ?_ (tP _))));unfold Builtin.«set_iterator.__next__»;refine zjZ (zjY ?_);refine zjZ (wpAny_fieldsOf hit rfl ?_);refine zjZ (wpAny_setEntries_of ho hd hf ?_);rw [if_neg (by rw [iU];simp)];refine zjZ (A0m (i:=i) (ep:=ep) ho (le_of_lt hi) ?_);rw [getElem?_eq_getElem hlt];refine zjZ (wpAny_setField_rec hit (by simp) fun h1 g1 s1=> ?_);refine zjZ (wpAny_setField_rec g1 (by simp) fun h2 g2 s2=> ?_);refine zjY ⟨_,rfl,zjY ?_⟩;refine hQ _ h2 s.toks (getElem?_eq_getElem hlt) ⟨?_,?_⟩ fun b o hb e=> ?_
  ·have e:((i+1:Nat):Int)=(i:Int)+1:=by omega
   unfold lJ;rw [e];simpa [rawInt]using g2
  ·exact(s2.2 a hne).trans ((s1.2 a hne).trans ho)
  ·have:b≠I:=fun z=>hb (by simp [z]);exact(s2.2 b this).trans ((s1.2 b this).trans e)
 done:=fun s Q E st hQ=>by
  obtain⟨hit,ho⟩:=st;have hd:(dF S f (!byT w) ep).data= .set (ents (aU S) f) ep (tab (aU S) (!byT w)):=rfl;have hf:=kN S (!byT w) f;have hT:s.TypeIs (.ref I) "set_iterator":=⟨_,hit,rfl⟩;unfold pyNext;refine zjZ (wpAny_attempt (wpAny_callSpecial?_slot (name:=Str.ofString "__next__") hT slot_next (wpAny_call_entry slot_next hT zY ?_ (tP _))));unfold Builtin.«set_iterator.__next__»;refine zjZ (zjY ?_);refine zjZ (wpAny_fieldsOf hit rfl ?_);refine zjZ (wpAny_setEntries_of ho hd hf ?_);rw [if_neg (by rw [iU];simp)];refine zjZ (A0m (i:=(aU S).length) (ep:=ep) ho (zjQ _) ?_);rw [List.getElem?_eq_none (by rw [lK];exact zjQ _)];refine zjZ (wpAny_setField hit rfl (by simp) ?_);show wpAny _ _ (newExc (.type "StopIteration") []>>=_) _ _ _;refine zjZ ?_;simp only [newExc,newTuple];refine zjZ (wpAny_newObj_type ?_ (by size_fits));refine zjZ (m:=firstArgMember _ _) (wpAny_of_eq (a:=Value.none) (by first|rfl| (simp only [firstArgMember];rfl)) ?_);refine wpAny_newObj_type ?_ (by size_fits);simp only [raiseNew];refine zjZ (wpAny_handled ?_);rw [show A.in1.handled=none from hh];refine zjZ (zjY (wpAny_throw ?_));refine zjZ (wpAny_isInstance (T:="StopIteration") (b:=true) ⟨_,get?_push_size _ rfl,rfl⟩ isSubtype_stop ?_);have go:∀h':Heap,Heap.ExtBut I s.heap h'->Q none {s with heap:=h',toks:=s.toks}:=fun h' hx=>hQ h' s.toks fun b o hb e=>hx b o (fun z=>hb (by simp [z])) e;exact zjY (go _ (((Heap.SameBut.update ..).extBut.push _).push _))
 self:=fun i s Q E st hQ=>by
  have hT:s.TypeIs (.ref I) "set_iterator":=⟨_,st.1,rfl⟩;refine wpAny_pyIter_slot hT uU (wpAny_call_entry uU hT A1h ?_ (A3j _));show wpAny _ _ (ret (.ref I)) _ _ s;exact zjY ⟨_,rfl,"set_iterator",_,hT,slot_next.lookup,hQ⟩
end
section
theorem B0b (hT:s.TypeIs (.ref a) "set")(h:Q false s):wpAny (model prog w) A (Builtin.List.listLengthHint (.ref a)) Q E s:=by
 unfold Builtin.List.listLengthHint;refine zjZ (wpAny_specialOf hT PySem.F.slot_set_len.lookup ?_)
 show wpAny _ _ (do if !(←isInstance (.ref a) (.type "set"))then unsupported _ else pure ()
                    let .ref _←typeOf (.ref a)|return false
                    _) _ _ _
 refine zjZ (wpAny_isInstance hT sub_set_self ?_);simp only [Bool.not_true,Bool.false_eq_true,if_false];refine zjZ (wpAny_typeOf hT ?_);exact zjY h
theorem A4u (hh:A.handled=none)(ho:s.heap.get? a=some (dF S f (!byT w) ep))
  (h:∀h1 tk,(∀b o,s.heap.get? b=some o->h1.get? b=some o)->s.heap.objs.size<=h1.objs.size->Q (ord w a S f ep) {s with heap:=h1,toks:=tk}):wpAny (model prog w) A (collect (.ref a)) Q E s:=by
 have la:a<s.heap.objs.size:=zjT ho;unfold collect;refine zjZ (wpAny_runValue (codeAny_builtin PySem.F.entry_proto_collect ?_));rw [Around.under_plainId PySem.F.plain_proto_collect _];show wpAny _ A.in1 (newList []>>=fun l=>again (.builtin "list.__iadd__" ⟨[l,.ref a],[]⟩)) _ _ s;refine zjZ (wpAny_newObj_type (zjY ⟨plainId_quiet PySem.F.plain_list_iadd _,codeAny_builtin PySem.F.entry_list_iadd ?_⟩));rw [Around.under_plainId PySem.F.plain_list_iadd _];generalize hg1:s.heap.push {cls:=.type "list",data:=.seq ([]:List Value).toArray}=g1;have k1:∀b o,s.heap.get? b=some o->g1.get? b=some o:=fun b o e=>by rw [←hg1];exact zjX _ e
 have l1:g1.get? s.heap.objs.size=some {cls:=.type "list",data:=.seq #[]}:=by rw [←hg1];exact get?_push_size _ rfl
 have z1:g1.objs.size=s.heap.objs.size+1:=by rw [←hg1,size_push]
 have o1:=k1 _ _ ho;have hT1:Shared.TypeIs {s with heap:=g1} (.ref a) "set":=⟨_,o1,rfl⟩;have neA:s.heap.objs.size≠a:=ne_of_gt la;show wpAny _ A.in1 (Builtin.List.listExtendWith (.ref s.heap.objs.size) (.ref a) (.ref s.heap.objs.size)) _ _ {s with heap:=g1};unfold Builtin.List.listExtendWith;refine zjZ (wpAny_typeOf hT1 ?_);have e1:Builtin.List.listSameRef (.ref s.heap.objs.size) (.ref a)=false:=by simp [Builtin.List.listSameRef,neA]
 have e2:(Value.type "set" ==Value.type "list")=false:=by decide
 have e3:(Value.type "set" ==Value.type "tuple")=false:=by decide
 simp only [e1,e2,e3,Bool.or_false,Bool.false_eq_true,if_false];refine zjZ (A2f (s:={s with heap:=g1}) o1 ?_);generalize hg2:g1.push {cls:=.type "set_iterator",data:=.fields #[.int 0 0,.int 0 0,.ref a,.int (aU S).length 0,.int ep 0]}=g2;have k2:∀b o,g1.get? b=some o->g2.get? b=some o:=fun b o e=>by rw [←hg2];exact zjX _ e
 have i2:lJ g2 g1.objs.size a 0 0 (aU S).length ep:=by rw [←hg2];exact get?_push_size _ rfl
 have z2:g2.objs.size=g1.objs.size+1:=by rw [←hg2,size_push]
 have o2:=k2 _ _ o1;refine zjZ (wpAny_holding (B0b (s:={s with heap:=g2}) ⟨_,o2,rfl⟩ ?_));show wpAny _ A.in1 (rule "list.extend.makes-room" >>=fun _=>Builtin.List.listTouch (.ref s.heap.objs.size)>>=fun _=>again (.builtin "list.extend.loop" ⟨[.ref s.heap.objs.size,.ref g1.objs.size,.ref s.heap.objs.size],[]⟩)) _ _ {s with heap:=g2};refine zjZ (wpAny_rule ?_);have l2:=k2 _ _ l1;refine zjZ ?_;show wpAny _ A.in1 (updateSeq s.heap.objs.size (·.push .none)>>=fun _=>updateSeq s.heap.objs.size (·.pop)) _ _ {s with heap:=g2};refine zjZ (wpAny_updateSeq l2 rfl ?_);have l3:=get?_update_self (Obj.mapSeq (·.push Value.none)) l2 rfl;refine wpAny_updateSeq l3 rfl ?_;have l4:=get?_update_self (Obj.mapSeq (·.pop)) l3 rfl;have k4:∀b o,b≠s.heap.objs.size->g2.get? b=some o->((g2.update s.heap.objs.size (Obj.mapSeq (·.push Value.none))).update s.heap.objs.size (Obj.mapSeq (·.pop))).get? b=some o:=
  fun b o hb e=>(get?_update_other _ _ (Ne.symm hb)).trans ((get?_update_other _ _ (Ne.symm hb)).trans e)
 have z4:((g2.update s.heap.objs.size (Obj.mapSeq (·.push Value.none))).update s.heap.objs.size (Obj.mapSeq (·.pop))).objs.size=s.heap.objs.size+2:=by rw [size_update,size_update,z2,z1]
 generalize (g2.update s.heap.objs.size (Obj.mapSeq (·.push Value.none))).update s.heap.objs.size (Obj.mapSeq (·.pop))=g4 at l4 k4 z4;have neI:a≠g1.objs.size:=by rw [z1];exact ne_of_lt (lt_succ_of_lt la)
 have neS:s.heap.objs.size∉[g1.objs.size,a]:=by
  rw [z1];intro hm;rcases mem_cons.mp hm with e|e
  ·exact absurd e (ne_of_lt (lt_succ_self _))
  ·exact neA (mem_singleton.mp e)
 have hh2:A.in1.handled=none:=by simp [hh]
 have i4:lJ g4 g1.objs.size a (nslot w S 0) 0 (aU S).length ep:=by
  have:=k4 _ _ (by rw [z1];exact ne_of_gt (lt_succ_self _)) i2;have e:nslot w S 0=0:=by unfold nslot slot;split<;>rfl
  rw [e];exact this
 refine zjY ⟨plainId_quiet PySem.F.plain_extend_loop _,codeAny_extend_loopS ((A1m (prog:=prog) (w:=w) hh2 g1.objs.size a neI S f ep).toS) (by have:=kG (S 0) (S 1) (S 2) (S 3);show(L (S 0) (S 1) (S 2) (S 3)).length<=_;rw [sizeLine_eq];omega) s.heap.objs.size neS _ (aU S).length 0 {s with heap:=g4} _ _ rfl (zero_le _)
  ⟨i4,k4 _ _ neA.symm o2⟩ l4 (ItemsOf.nil _) fun s' acc' c' hm hS' hacc=> ?_⟩
 show wpAny _ A (load s.heap.objs.size>>=_) _ _ s';refine zjZ (wpAny_load hS' ?_);have eacc:acc'.toList=ord w a S f ep:=by
  refine List.ext_getElem? fun j=> ?_;rw [Array.getElem?_toList];by_cases hj:j<acc'.size
  ·rw [Array.getElem?_eq_getElem hj];exact(hacc.2 j acc'[j] (Array.getElem?_eq_getElem hj)).symm
  ·rw [Array.getElem?_eq_none (by omega),List.getElem?_eq_none (by rw [lK,←hacc.1];omega)]
 obtain⟨h',g',d',tk',os'⟩:=s';have eg:g'=s.gens:=hm.gens;have ed:d'=s.drawn:=hm.drawn;have eo:os'=s.os:=hm.os;subst eg;subst ed;subst eo;refine zjY ?_;show Q acc'.toList _;rw [eacc];have kk:∀b o,s.heap.get? b=some o->h'.get? b=some o:=fun b o e=>by
  have hb:=zjT e;refine hm.heap b o (fun hmm=> ?_) (k4 b o (ne_of_lt hb) (k2 _ _ (k1 _ _ e)));rcases mem_cons.mp hmm with z|z
  ·exact ne_of_lt hb z
  ·rw [z1]at z;exact ne_of_lt (lt_succ_of_lt hb) (mem_singleton.mp z)
 exact h h' tk' kk (le_of_lt (zjT hS'))
theorem A6n (S:Nat->Bool):((aU S).map fun k:Nat=>(k:Int)).Pairwise (· <= ·):=by unfold aU;cases S 0<;>cases S 1<;>cases S 2<;>cases S 3<;>decide
end
end Set4
namespace L2
open PySem PySem.Spec PyProof.Rows Srt Set4
noncomputable def kZ (w:World)(a:Addr)(S:Nat->Bool):HO:=.ext fun h=>IsS4 h a S (!byT w)
section
theorem A4v (hc:X.calm=true):dZ X (.type "set") (fun xs H Q=> ∃(p:Addr)(ns:List Nat),xs=[.ref p]/\SqL X.K H p (ns.map fun n:Nat=>V.int (n:Int))/\(∀n∈ns,n<4)/\∀l,H l=none->Q (.ref l) (upd H l (kZ X.w l fun k=>decide (k∈ns)))):=by
 intro pins s σ H xs us Q I r h;obtain⟨p,ns,rfl,hq,h4,q⟩:=h;obtain⟨u,rfl,rx⟩:=eK r;cases rx;obtain⟨its,rv,pl,hz⟩:=I.list hq;have hl:=rv.length;rw [length_map]at hl;have hval:∀(i:Nat)(v:Value),its.toArray[i]?=some v->∃t,v= .int ((ns.getD i 0:Nat):Int) t:=fun i v e=>by
  have e':its[i]?=some v:=by simpa using e
  have hi:i<ns.length:=by rw [hl];exact(zjW.mp e').1
  obtain⟨u,hu,ru⟩:=rv.get (i:=i) (x:=V.int ((ns[i]:Nat):Int)) (by rw [getElem?_map,getElem?_eq_getElem hi];rfl);rw [e']at hu;cases hu;rw [show ns.getD i 0=ns[i] by simp [hi]];exact ru
 refine A90 (I.ok.hd hc) pl.isList (val:=fun i=>ns.getD i 0) hval (fun i hi=> ?_) fun h' tk hS hk=> ?_
 ·have hi':i<ns.length:=by rw [hl];simpa using hi
  show ns.getD i 0<4;rw [show ns.getD i 0=ns[i] by simp [hi']];exact h4 _ (getElem_mem _)
 ·have eS:acc (fun i=>ns.getD i 0) its.toArray.size=fun k=>decide (k∈ns):=funext fun k=>by
   rw [Bool.eq_iff_iff,A09,decide_eq_true_eq,size_toArray,←hl];constructor
   ·rintro⟨j,hj,e⟩;have e':ns.getD j 0=k:=e;rw [show ns.getD j 0=ns[j] by simp [hj]]at e';rw [←e'];exact getElem_mem _
   ·intro hm;obtain⟨j,hj,e⟩:=getElem_of_mem hm;exact⟨j,hj,by show ns.getD j 0=k;rw [show ns.getD j 0=ns[j] by simp [hj]];exact e⟩
  rw [eS]at hS;obtain⟨f,ep,hf,ho⟩:=id hS;exact⟨.ref s.heap.objs.size,_,I.laid (t':=tk) (fun b o q=>hk b o (zjT q) q) (zjQ _) (o:=kZ X.w _ _) ⟨hS,⟨_,ho⟩,fun h1 h2 x e=>x.at e⟩,rfl,q _ (I.hok.fresh (zjQ _))⟩
theorem xO:∀{ns:List Int}{us:List Value},us.map numOf=ns->(∀u∈us,∃n t,u= .int n t)->Vals (ns.map V.int) us
 |_,[],rfl,_=> .nil
 |_,u::us,rfl,h=>by
  obtain⟨n,t,rfl⟩:=h u zjR;exact .cons ⟨t,rfl⟩ (xO rfl fun v hv=>h v (zjS _ hv))
theorem A59 (hc:X.calm=true):dZ X (.builtin "sorted") (fun xs H Q=> ∃(p:Addr)(S:Nat->Bool),xs=[.ref p]/\H p=some (kZ X.w p S)/\∀l,H l=none->Q (.ref l) (upd H l (.lst ((aU S).map fun k:Nat=>V.int (k:Int))))):=by
 intro pins s σ H xs us Q I r h;obtain⟨p,S,rfl,hp,q⟩:=h;obtain⟨u,rfl,rx⟩:=eK r;cases rx;obtain⟨⟨f,ep,hf,ho⟩,_,_⟩:=(show ObjOk X.prog X.w H s.heap p (kZ X.w p S)from I.hok _ _ hp);have hperm:=wO X.w p S f ep;have hlen:=lK X.w p S f ep;have h4:(aU S).length<=4:=kG (S 0) (S 1) (S 2) (S 3);have hint:∀v∈ord X.w p S f ep,∃n t,v= .int n t:=fun v hv=>by
  obtain⟨k,hk,rfl⟩:=mem_map.mp (hperm.mem_iff.mp hv);obtain⟨a,b⟩:=mem_mem4.mp hk;obtain⟨t,e⟩:=hf k a b;exact⟨_,t,e⟩
 generalize hvs:ord X.w p S f ep=vs at hperm hlen hint;have hnum:(vs.map numOf).Perm ((aU S).map fun k:Nat=>(k:Int)):=by
  refine(hperm.map numOf).trans (List.Perm.of_eq ?_);rw [map_map];refine map_congr_left fun k hk=> ?_;obtain⟨a,b⟩:=mem_mem4.mp hk;obtain⟨t,e⟩:=hf k a b;show numOf (f k)=_;rw [e];rfl
 have hI:IntsAre vs (vs.map numOf):=intsAre_map vs hint;refine A0x (κ:=oneType') (r:=fun i=>numOf (vs.getD i Value.none)) (vs:=vs) (by omega) (fun h=>absurd h (by omega)) (fun Q' k=>A4u (by simp [I.ok.hd hc]) ho fun h1 tk k1 z1=>by rw [hvs];exact k h1 tk k1 z1) (fun h1 tk k1 h2=> ⟨fun Q2 q2=> ?_,fun i j C hi hj hC=> ?_⟩) fun D h' tk c pp hD hpm hu o' k'=> ?_
 ·obtain⟨v1,v2,rest,e⟩:∃v1 v2 rest,vs=v1::v2::rest:=by
   match vs,h2 with
   |v1::v2::rest,_=>exact⟨v1,v2,rest,rfl⟩
  subst e;rw [keyKind_ints hI];exact zjY q2
 ·show wpAny _ _ (keyLt' oneType' (vs.getD i Value.none) (vs.getD j Value.none)) C (fun _ _=>False) _;obtain⟨n,t,e⟩:=hint _ (getElem_mem hi);obtain⟨n2,t2,e2⟩:=hint _ (getElem_mem hj);have ei:vs.getD i Value.none= .int n t:=by rw [←e];simp [hi]
  have ej:vs.getD j Value.none= .int n2 t2:=by rw [←e2];simp [hj]
  have hC':C (decide (n<n2)) {s with heap:=h1,toks:=tk}:=by
   have z:decide ((fun i=>numOf (vs.getD i Value.none)) i<(fun i=>numOf (vs.getD i Value.none)) j)=decide (n<n2):=by
    refine decide_eq_decide.mpr ?_;show numOf (vs.getD i Value.none)<numOf (vs.getD j Value.none)↔_;rw [ei,ej];exact Iff.rfl
   rw [z]at hC;exact hC
  rw [ei,ej];exact W.kat_lt_int hC'
 ·have pperm:=Array.perm_iff_toList_perm.mp hpm;have outp:(pp.toList.map fun i=>vs.getD i Value.none).Perm vs:=by
   refine(pperm.map fun i=>vs.getD i Value.none).trans (List.Perm.of_eq ?_);exact wB vs
  have hup:((pp.toList.map fun i=>vs.getD i Value.none).map numOf).Pairwise (· <= ·):=by
   rw [map_map,pairwise_map,pairwise_iff_getElem];intro i j hi hj hij;have hsz:pp.toList.length=vs.length:=by rw [Array.length_toList,hpm.size]
   have h1:=hu i j (by omega) (by omega);have e:∀k (hk:k<pp.toList.length),at' pp k=pp.toList[k]:=fun k hk=>by
    have:k<pp.size:=by simpa using hk
    unfold at';simp [Array.getD,this]
   unfold R at h1;rw [e i hi,e j hj]at h1;exact h1
  have eout:(pp.toList.map fun i=>vs.getD i Value.none).map numOf=(aU S).map fun k:Nat=>(k:Int):=W.ksm_same ((outp.map numOf).trans hnum) hup (A6n S);have hv:Vals (((aU S).map fun k:Nat=>(k:Int)).map V.int) (pp.toList.map fun i=>vs.getD i Value.none):=xO eout fun u hu'=>hint u (outp.mem_iff.mp hu');rw [map_map]at hv;exact⟨.ref D,_,I.laid (t':=tk) (o:=.lst ((aU S).map fun k:Nat=>V.int (k:Int))) k' hD ⟨by rw [length_map,sizeLine_eq];omega,_,c,hv,o'⟩,rfl,q _ (I.hok.fresh hD)⟩
end
end L2
namespace L2
open PySem PySem.Spec PyProof.Rows
section
theorem rE (hc:X.calm=true):dZ X (.builtin "sum") (fun xs H Q=> ∃(p:Addr)(ns:List Int),xs=[.ref p]/\SqL X.K H p (ns.map V.int)/\ns.length<=1000/\(∀n∈ns,-10000<=n/\n<=10000)/\Q (.int ns.sum) H):=by
 intro pins s σ H xs us Q I r h;obtain⟨p,ns,rfl,hq,hl,hn,q⟩:=h;obtain⟨u,rfl,rx⟩:=eK r;cases rx;obtain⟨its,rv,pl,hz⟩:=I.list hq;have hlen:=rv.length;rw [length_map]at hlen;have hlt:p<s.heap.objs.size:=by obtain⟨_,e,_⟩:=pl.isList;exact zjT e
 have long:∀z:Int,-10000000<=z->z<=10000000->InLong z:=fun z h1 h2=>by unfold InLong;omega
 refine call_sum_walk (wpAny_pyIter_list pl.isList ?_);refine⟨s.heap.objs.size,[s.heap.objs.size,p],[s.heap.objs.size],its.toArray.size,_,_,fun i=>(ns[i]?).getD 0,rfl,Walks.list (A:=X.A.in1) (by simp [I.ok.hd hc]) _ p (ne_of_lt hlt) its.toArray,⟨⟨_,get?_push_size _ rfl,rfl,rfl⟩,pl.isList.push _⟩,fun b hb=> ?_,fun i v hP=> ?_,fun j hj=> ?_,fun h' tk t' hk=> ?_⟩
 ·show b<(s.heap.push _).objs.size;rw [size_push];rcases mem_cons.mp hb with z|z
  ·rw [z];exact lt_succ_self _
  ·rw [mem_singleton.mp z];exact lt_succ_of_lt hlt
 ·have hP':its[i]?=some v:=by simpa using hP
  have hi:i<ns.length:=by rw [hlen];exact(zjW.mp hP').1
  obtain⟨u,hu,ru⟩:=rv.get (i:=i) (x:=.int ns[i]) (by rw [getElem?_map];simp [hi]);rw [hP']at hu;cases hu;obtain⟨t,rfl⟩:=ru;exact⟨t,by simp [hi]⟩
 ·have hj':j<ns.length:=by rw [size_toArray]at hj;omega
  refine⟨?_,?_⟩
  ·have:=hn ns[j] (getElem_mem hj');have e:(ns[j]?).getD 0=ns[j]:=by simp [hj']
   show InLong ((ns[j]?).getD 0);rw [e];exact long _ (by omega) (by omega)
  ·rw [jX];have:=qW (B:=10000) (by decide) (ns:=ns.take (j+1)) fun n h=>hn n (mem_of_mem_take h);have h2:(ns.take (j+1)).length<=1000:=by rw [length_take];omega
   exact long _ (by omega) (by omega)
 ·have e:preSum (fun i=>(ns[i]?).getD 0) its.toArray.size=ns.sum:=by
   rw [jX,size_toArray,←hlen,take_of_length_le (zjQ _)]
  rw [e];exact⟨.int _,H,I.kept (h':=h') (t':=tk) (LSm.kept_iter hk),⟨_,rfl⟩,q⟩
end
end L2
namespace M52
open PySem L2 PyProof.Rows
structure TxC (mg:Str->Option Value):Prop where
 isinstance:mg "isinstance" =none
 int:mg "int" =none
 bool:mg "bool" =none
 tuple:mg "tuple" =none
 len:mg "len" =none
 all:mg "all" =none
 any:mg "any" =none
 zip:mg "zip" =none
 range:mg "range" =none
 sum:mg "sum" =none
 list:mg "list" =none
 set:mg "set" =none
 sorted:mg "sorted" =none
 sorts:∃t,mg "MOST_SORTS" =some (.int 6 t)
 counted:∃t,mg "MOST_COUNTED" =some (.int 100 t)
 holders:∃t,mg "MOST_HOLDERS" =some (.int 4 t)
 rights:∃t,mg "MOST_RIGHTS" =some (.int 20 t)
 claims:∃t,mg "MOST_CLAIMS" =some (.int 12 t)
noncomputable def zR:Sp:=fun vs H Q _=> ∃l ps prs,vs=[.ref l]/\H l=some (.lst (ps.map V.ref))/\PlAt H ps prs/\1<=prs.length/\prs.length<=100/\(prs.Pairwise fun a b=>lt2 a b=true)/\∀H',Same H H'->Q (.bl true) H'
noncomputable def sM:Sp:=fun vs H Q _=> ∃a cs,vs=[.ref a]/\iC H a cs/\fZ cs/\∀H',Same H H'->Q (.bl true) H'
noncomputable def wK:Sp:=fun vs H Q _=> ∃(b:Addr)(c:C3),vs=[.ref b]/\H b=some (.tup [.int c.1,.int c.2.1,.int c.2.2])/\((0<=c.1/\c.1<=3)/\(0<=c.2.1/\c.2.1<=5)/\1<=c.2.2/\c.2.2<=20)/\Q (.bl true) H
noncomputable def sQ:Sp:=fun vs H Q _=> ∃a cl,vs=[.ref a]/\ClT H a cl/\fV cl/\∀H',Same H H'->Q (.bl true) H'
noncomputable def vO:Sp:=fun vs H Q _=> ∃a cs,vs=[.ref a]/\iC H a cs/\fZ cs/\∀H',Same H H'->Q .non H'
noncomputable def rN:Sp:=fun vs H Q _=> ∃a cl,vs=[.ref a]/\ClT H a cl/\fV cl/\∀H',Same H H'->Q .non H'
section
variable {P:Program}{w:World}{K:W.Frag}{mg:Str->Option Value}{base:Heap}
theorem B0k (ps:List Addr)(h:1<=ps.length):cutV (ps.map V.ref) (some 1) none=(ps.drop 1).map V.ref:=by have e1:HT.sIx (ps.map V.ref).length 0 (some 1)=min 1 (ps.map V.ref).length:=HT.sIx_nat _ _ 1;have e2:HT.sIx (ps.map V.ref).length (ps.map V.ref).length none=(ps.map V.ref).length:=rfl;unfold cutV;rw [e1,e2,length_map,show min 1 ps.length=1 by omega,take_of_length_le (by rw [length_drop,length_map];omega),List.map_drop]
theorem PlAt.get2:∀{ps:List Addr}{cs:List (Int×Int)}{i:Nat}{p:Addr},PlAt H ps cs->ps[i]?=some p->∃c,cs[i]?=some c/\H p=some (.tup [.int c.1,.int c.2])
 |_,_,0,_,.cons r _,h=>by cases h;exact⟨_,rfl,r⟩
 |_,_,i+1,_,.cons _ t,h=>PlAt.get2 (i:=i) t (by simpa using h)
theorem B1e (F:D1 K mg "is_rising" sJ ["things"])(T:TxC mg):A1 P w K mg base 1 "is_rising" zR:=by
 refine F.k ["things"] ?_;ac_nf
 ·obtain⟨l,ps,prs,rfl,hl,hP,h1,h100,hup,q⟩:=h;have hlen:ps.length=prs.length:=Paired.length hP;refine⟨_,aQ (bA (bH (fU rfl) rfl T.all boot_all (cP (bJ (bC sJ).names ["things"] ["one","other"] [] rfl (A6k kL_ok rfl T.zip (aB (pv 0) (eF (iZ jD (pv 0) (hJ aK) nH) aA))) rfl rfl rfl (by decide +kernel)
   (fun Z=>bN rfl (aX (nm1 0 A1b) (aX (nm1 1 A1b) bM))) (fun Z=>bZ) (fun Z=>eL (B1d (lt_of_succ_lt (A6o hr))) (pv 0) (pv 1) (nomark _))) aA))),?_⟩
  refine⟨_,rfl,_,rfl,_,rfl,l,_,rfl,SqL.of hl,fun t ht=> ?_⟩;rw [B0k ps (by omega)];have s1:=aM (o:=.lst ((ps.drop 1).map V.ref)) ht;refine⟨l,t,ps.map V.ref,(ps.drop 1).map V.ref,rfl,SqL.of (s1 _ _ hl),SqL.of aG,fun Z r hr'=> ?_⟩;have sH:Same H (upd H t (.lst ((ps.drop 1).map V.ref))):=s1;refine A01 (xs:=ps.map V.ref) (ys:=(ps.drop 1).map V.ref) (by rw [length_map,length_map,length_drop];omega) (fun i σ H'=>σ.length=2/\Same (upd H t (.lst ((ps.drop 1).map V.ref))) H'/\H' r=some (.lst (((ps.drop 1).take i).map fun _=>V.bl true))) ⟨rfl,aM hr',by rw [aG];rfl⟩
   (fun i σ H' h=> ⟨SqL.of (h.2.1 _ _ (s1 _ _ hl)),SqL.of (h.2.1 _ _ aG)⟩) ?_ ?_
  ·rintro i x y p3 σ H' hx hy ⟨hσ,hs,hl'⟩ hp3
   match σ,hσ with
   | [x0,x1],_=>
   rw [getElem?_map]at hx hy;cases hb:ps[i]? with
   |none=>rw [hb]at hx;cases hx
   |some b=>
   cases hb2:(ps.drop 1)[i]? with
   |none=>rw [hb2]at hy;cases hy
   |some b2=>
   rw [hb]at hx;cases hx;rw [hb2]at hy;cases hy;have hb2':ps[i+1]?=some b2:=by rw [getElem?_drop]at hb2;rw [show i+1=1+i by omega];exact hb2
   obtain⟨c,hc,he⟩:=PlAt.get2 hP hb;obtain⟨c2,hc2,he2⟩:=PlAt.get2 hP hb2';have s3:=aM (o:=.tup [.ref b,.ref b2]) hp3;refine⟨p3,_,rfl,SqT.of aG,rfl,_,_,rfl,_,_,rfl,rfl,?_⟩;refine hZ ?_;refine⟨_,rfl,_,rfl,b,b2,[c.1,c.2],[c2.1,c2.2],rfl,rfl,SqT.of (s3 _ _ (hs _ _ (s1 _ _ he))),SqT.of (s3 _ _ (hs _ _ (s1 _ _ he2))),?_⟩;have hlt:HT.lexLt [c.1,c.2] [c2.1,c2.2]=true:=by
    obtain⟨g1,e1⟩:=zjW.mp hc;obtain⟨g2,e2⟩:=zjW.mp hc2;have:=pairwise_iff_getElem.mp hup i (i+1) g1 g2 (by omega);rw [e1,e2]at this;exact this
   rw [hlt];have hi:i<(ps.drop 1).length:=(zjW.mp hb2).1;rw [length_drop]at hi;refine⟨_,s3 _ _ hl',cA (by rw [length_map,length_take];omega),rfl,fun b' u e'=> ?_,?_⟩
   ·rw [aV (bG e' hr')];exact s3 _ _ (hs _ _ e')
   ·rw [aG,take_succ,hb2,map_append];rfl
  ·rintro σ H' ⟨_,hs,hl'⟩;rw [length_map,take_of_length_le (zjQ _)]at hl';refine⟨r,(ps.drop 1).map fun _=>true,rfl,SqL.of (by rw [hl',map_map];rfl),?_⟩;rw [show((ps.drop 1).map fun _=>true).all id=true by rw [all_map];exact all_eq_true.mpr fun _ _=>rfl];exact q H' (s1.trans hs)
theorem B0e (F:D1 K mg "is_custom" sX ["thing"])(T:TxC mg)(a1:A1 P w K mg base 1 "is_tuple_within" gA)(a2:A1 P w K mg base 2 "is_number_within" jS):A1 P w K mg base 3 "is_custom" sM:=by
 obtain⟨t1,mS⟩:=T.sorts;obtain⟨t2,mC⟩:=T.counted;refine F.k ["thing"] ?_;ac_nf
 ·obtain⟨a,cs,rfl,ha,G,q⟩:=h;have ha':H a=some (.tup (cs.map V.int)):=ha;have hz:(cs.map V.int).length<=1000:=by rw [length_map];have:=G.l6;omega
  have kn:Kn H 2 (.ref a):=KnA.tup ha' hz (fun x hx=>by obtain⟨i,_,rfl⟩:=mem_map.mp hx;exact KnA.int i) 2;refine⟨_,aN (bV (cD (bQ (a1.c hr (bB (pv 0) (bB aK (bB (eD (v:=.int 6) rfl mS ⟨_,rfl⟩) aA)))))) eY bU)
   (aQ (bA (bH (fU rfl) rfl T.all boot_all (bB (bJ (bC sX).names ["thing"] ["counted"] [] rfl (cQ (pv 0)) rfl rfl rfl (by decide +kernel)
    (fun Z=>aJ (i:=0) (show(["counted"]:List Str).Nodup by decide +kernel) rfl (Or.inl rfl)) (fun Z=>bZ)
    (fun Z=>a2.c hr (bB (pv 0) (bB aK (bB (eD (v:=.int 100) rfl mC ⟨_,rfl⟩) aA))))) aA)))),?_⟩
  refine⟨_,rfl,_,1,6,rfl,kn.le (by decide),_,rfl,?_⟩;have ht:cV H 1 6 (.ref a)=true:=by
   unfold cV;rw [hW ha'];have h1:=G.l1;have h6:=G.l6;simp only [length_map,Bool.and_eq_true,decide_eq_true_eq];omega
  rw [ht];refine bL ?_;refine⟨_,rfl,a,rfl,⟨_,SqT.of ha'⟩,fun Z l hl=> ?_⟩;refine gC (fun x=> .bl (dG 1 100 x)) ha' hl hz (fun x H' Q' hm hs hq=> ?_) fun σ H' hs hl'=> ?_
  ·obtain⟨i,_,rfl⟩:=mem_map.mp hm;exact⟨_,rfl,_,1,100,rfl,KnA.int i 1,hq _ (Same.refl _)⟩
  ·refine⟨l,(cs.map V.int).map (dG 1 100),rfl,SqL.of (by rw [hl'];simp only [map_map];rfl),?_⟩;have:((cs.map V.int).map (dG 1 100)).all id=true:=by
    rw [all_map,all_map,all_eq_true];intro i hi;have:=G.num i hi;show(decide (1<=i)&&decide (i<=100))=true;simp only [Bool.and_eq_true,decide_eq_true_eq];exact this
   rw [this];exact q H' hs
theorem qU {lo hi i:Int}(h1:lo<=i)(h2:i<=hi):dG lo hi (.int i)=true:=by simp [dG,h1,h2]
theorem B1q (F:D1 K mg "is_claim" A0t ["thing"])(T:TxC mg)(a1:A1 P w K mg base 1 "is_tuple_within" gA)(a2:A1 P w K mg base 2 "is_number_within" jS):A1 P w K mg base 3 "is_claim" wK:=by
 obtain⟨t1,mS⟩:=T.sorts;obtain⟨t2,mH⟩:=T.holders;obtain⟨t3,mR⟩:=T.rights;refine F.k ["thing","holder","sort","many"] ?_;ac_nf
 ·obtain⟨b,c,rfl,hb,⟨n1,n2,n3⟩,q⟩:=h;have kn:Kn H 1 (.ref b):=.inr (.inr ⟨_,hb,by show 3<=1000;decide,fun x _=>True.intro⟩);refine⟨_,aN (bV (cD (bQ (a1.c hr (bB (pv 0) (bB aK (bB aK aA)))))) eY bU)<|
   aN (dS (pv 0) (bN rfl (aX (nm1 1 nd) (aX (nm1 2 nd) (aX (nm1 3 nd) bM)))))<|
   aN (bV (PW.pt (gW (cD (bQ (a2.c hr (bB (pv 1) (bB aK (bB (bF fJ (eD (v:=.int 4) rfl mH ⟨_,rfl⟩) aK) aA))))))
    (jK (cD (bQ (a2.c hr (bB (pv 2) (bB aK (bB (bF fJ (eD (v:=.int 6) rfl mS ⟨_,rfl⟩) aK) aA))))))))) eY bU)<|
   aQ (bA (a2.c hr (bB (pv 3) (bB aK (bB (eD (v:=.int 20) rfl mR ⟨_,rfl⟩) aA))))),?_⟩
  refine⟨_,rfl,_,3,3,rfl,kn,_,rfl,?_⟩;have ht:cV H 3 3 (.ref b)=true:=by unfold cV;rw [hW hb];rfl
  rw [ht];refine bL ?_;refine⟨_,rfl,b,_,rfl,SqT.of hb,rfl,_,_,rfl,_,_,rfl,_,_,rfl,rfl,?_⟩;refine⟨_,rfl,_,_,rfl,rfl,_,0,3,rfl,KnA.int _ 1,_,rfl,?_⟩;rw [qU n1.1 n1.2];refine bL ?_;refine⟨_,rfl,_,_,rfl,rfl,_,0,5,rfl,KnA.int _ 1,_,rfl,?_⟩;rw [qU n2.1 n2.2];refine bL ?_;refine⟨_,rfl,_,1,20,rfl,KnA.int _ 1,?_⟩;rw [qU n3.1 n3.2];exact q
end
end M52
namespace M52
open PySem L2 PyProof.Rows Set4 Grd Wlk Cyc Srt
noncomputable def cG (cl:List C3)(i:Int):Bool:=cl.any fun c=>decide (c.1=i)
noncomputable def bY (cl:List C3):Nat->Bool:=fun k=>cG cl (k:Int)
noncomputable def oV:Sp:=fun vs H Q _=> ∃c a cs cl,vs=[.ref c,.ref a]/\iC H c cs/\ClT H a cl/\cl.length<=12/\iJ cs cl/\∀H',Same H H'->Q (.bl true) H'
noncomputable def xF:Sp:=fun vs H Q _=> ∃c a cs cl,vs=[.ref c,.ref a]/\iC H c cs/\fZ cs/\ClT H a cl/\fV cl/\iJ cs cl/\∀H',Same H H'->Q .non H'
noncomputable def gO (cl:List C3):V->Bool| .int i=>cG cl i|_=>false
noncomputable def mB:Sp:=fun vs H Q _=> ∃a cl u,vs=[.ref a,u]/\ClT H a cl/\cl.length<=12/\Kn H 1 u/\∀H',Same H H'->Q (.bl (gO cl u)) H'
noncomputable def kQ:Sp:=fun vs H Q _=> ∃a cl i,vs=[.ref a,.int i]/\ClT H a cl/\cl.length<=12/\cG cl i=true/\∀H',Same H H'->Q .non H'
noncomputable def sS:Sp:=fun vs H Q _=> ∃a cl,vs=[.ref a]/\ClT H a cl/\fV cl/\∀l H',H l=none->Same H H'->H' l=some (.lst ((aU (bY cl)).map fun k:Nat=>V.int (k:Int)))->Q (.ref l) H'
theorem ClT.kn (h:ClT H a cl)(hz:cl.length<=12)(n:Nat):Kn H n (.ref a):=by obtain⟨bs,h1,h2⟩:=h;have hl:bs.length=cl.length:=Paired.length h2;refine KnA.tup h1 (by rw [length_map];omega) (fun x hx=> ?_) n;obtain⟨b,hb,rfl⟩:=mem_map.mp hx;obtain⟨i,hi⟩:=List.getElem?_of_mem hb;obtain⟨c,hc,he⟩:=h2.get hi;refine KnA.tup he (by show 3<=1000;decide) fun y hy=> ?_;simp only [mem_cons,not_mem_nil,or_false]at hy;rcases hy with rfl|rfl|rfl<;>exact KnA.int _
section
variable {P:Program}{w:World}{K:W.Frag}{mg:Str->Option Value}{base:Heap}
theorem nd3:(["holder","sort","many"]:List Str).Nodup:=by decide +kernel
theorem A4l (F:D1 K mg "are_claims" lN ["thing"])(T:TxC mg)(a1:A1 P w K mg base 1 "is_tuple_within" gA)(a2:A1 P w K mg base 3 "is_claim" wK)(a3:A1 P w K mg base 1 "is_rising" zR):A1 P w K mg base 4 "are_claims" sQ:=by
 obtain⟨t1,mC⟩:=T.claims;refine F.k ["thing"] ?_;ac_nf
 ·obtain⟨a,cl,rfl,hA,G,q⟩:=h;have kn:=ClT.kn hA G.l12 1;obtain⟨bs,ha,hC⟩:=hA;have hl:bs.length=cl.length:=Paired.length hC;have hz:(bs.map V.ref).length<=1000:=by rw [length_map];have:=G.l12;omega
  refine⟨_,aN (bV (PW.pt (gW (cD (bQ (a1.c hr (bB (pv 0) (bB aK (bB (eD (v:=.int 12) rfl mC ⟨_,rfl⟩) aA))))))
    (jK (cD (bQ (bH (fU rfl) rfl T.all boot_all (bB (bJ (bC lN).names ["thing"] ["claim"] [] rfl (cQ (pv 0)) rfl rfl rfl (by decide +kernel)
     (fun Z=>aJ (i:=0) (show(["claim"]:List Str).Nodup by decide +kernel) rfl (Or.inl rfl)) (fun Z=>bZ) (fun Z=>a2.c hr (bB (pv 0) aA))) aA))))))) eY bU)<|
   aQ (bA (a3.c hr (cP (bJ (bC lN).names ["thing"] ["holder","sort","many"] [] rfl (cQ (pv 0)) rfl rfl rfl (by decide +kernel)
     (fun Z=>bN rfl (aX (nm1 0 nd3) (aX (nm1 1 nd3) (aX (nm1 2 nd3) bM)))) (fun Z=>bZ) (fun Z=>dN (bB (pv 0) (bB (pv 1) aA)))) aA))),?_⟩
  refine⟨_,rfl,_,1,12,rfl,kn,_,rfl,?_⟩;have ht:cV H 1 12 (.ref a)=true:=by
   unfold cV;rw [hW ha];have h1:=G.l1;have h6:=G.l12;simp only [length_map,Bool.and_eq_true,decide_eq_true_eq];omega
  rw [ht];refine bL ?_;refine⟨_,rfl,a,rfl,⟨_,SqT.of ha⟩,fun Z l hl'=> ?_⟩;refine gC (fun _=> .bl true) ha hl' hz (fun x H' Q' hm hs hq=> ?_) fun σ H1 hs1 hl1=> ?_
  ·obtain⟨b,hb,rfl⟩:=mem_map.mp hm;obtain⟨i,hi⟩:=List.getElem?_of_mem hb;obtain⟨c,hc,he⟩:=hC.get hi;exact⟨_,rfl,b,c,rfl,hs _ _ he,G.num c (mem_of_getElem? hc),hq _ (Same.refl _)⟩
  ·refine⟨l,(bs.map V.ref).map fun _=>true,rfl,SqL.of (by rw [hl1];simp only [map_map];rfl),_,rfl,?_⟩;rw [show((bs.map V.ref).map fun _=>true).all id=true by rw [all_map];exact all_eq_true.mpr fun _ _=>rfl];refine bL ?_;refine⟨_,rfl,a,rfl,⟨_,SqT.of (hs1 _ _ ha)⟩,fun Z2 l2 hl2=> ?_⟩;refine A67 gH (fun H' hs=>SqT.of (hs _ _ (hs1 _ _ ha))) (hC.ext hs1.ext) hl2 (by have:=G.l12;omega) fun σ H2 ps hs2 hl2' hP=> ?_;have hpl:=Paired.length hP;rw [length_map]at hpl;refine⟨l2,ps,_,rfl,hl2',hP,by rw [length_map];exact G.l1,by rw [length_map];have:=G.l12;omega,G.up,fun H3 hs3=>q H3 ((hs1.trans hs2).trans hs3)⟩
theorem A34 (F:D1 K mg "check_custom" yD ["custom"])(a1:A1 P w K mg base 3 "is_custom" sM):A1 P w K mg base 4 "check_custom" vO:=by
 refine F.k ["custom"] ?_;ac_nf
 ·obtain⟨a,cs,rfl,hA,G,q⟩:=h;refine⟨_,aQ (bV (cD (bQ (a1.c hr (aB (pv 0) aA)))) eY bU),?_⟩;exact⟨_,rfl,a,cs,rfl,hA,G,fun H' hs=> ⟨_,rfl,bL (q H' hs)⟩⟩
theorem B0s (F:D1 K mg "check_claims" yR ["claims"])(a1:A1 P w K mg base 4 "are_claims" sQ):A1 P w K mg base 5 "check_claims" rN:=by
 refine F.k ["claims"] ?_;ac_nf
 ·obtain⟨a,cl,rfl,hA,G,q⟩:=h;refine⟨_,aQ (bV (cD (bQ (a1.c hr (aB (pv 0) aA)))) eY bU),?_⟩;exact⟨_,rfl,a,cl,rfl,hA,G,fun H' hs=> ⟨_,rfl,bL (q H' hs)⟩⟩
theorem jN:(["holder","sort","many","custom"]:List Str).Nodup:=by decide +kernel
theorem A1k (F:D1 K mg "stand_under" qD ["custom","claims"])(T:TxC mg):A1 P w K mg base 1 "stand_under" oV:=by
 refine F.k ["custom","claims"] ?_;ac_nf
 ·obtain⟨c,a,cs,cl,rfl,hc,⟨bs,ha,hC⟩,h12,hU,q⟩:=h;have hl:bs.length=cl.length:=Paired.length hC;refine⟨_,aQ (bA (bH (fU rfl) rfl T.all boot_all (cP (bJ (bC qD).names ["custom","claims"] ["holder","sort","many"] [("custom",0)] rfl (cQ (pv 1)) rfl rfl rfl (by decide +kernel)
   (fun Z=>bN rfl (aX (nm1 0 jN) (aX (nm1 1 jN) (aX (nm1 2 jN) bM)))) (fun Z=>bZ)
   (fun Z=>eL jG (pv 1) (bH fE rfl T.len PySem.boot_len (bB (pv 3) aA)) (nomark _))) aA))),?_⟩
  refine⟨_,rfl,a,rfl,⟨_,SqT.of ha⟩,fun Z l hl'=> ?_⟩;refine jV (rest:=[some (.ref c)]) gH (fun H' hs=>SqT.of (hs _ _ ha)) hC hl' (by omega) (fun _=> .bl true) (fun x H' Q' hm hs hq=> ?_) fun σ H1 hs1 hl1=> ?_
  ·refine⟨_,rfl,_,rfl,c,_,rfl,.inr (SqT.of (hs _ _ hc)),_,_,rfl,rfl,?_⟩;show Q' (.bl (decide (x.2.1<((cs.map V.int).length:Int)))) H';rw [length_map,zjV (hU x hm)];exact hq _ (Same.refl _)
  ·refine⟨l,cl.map fun _=>true,rfl,SqL.of (by rw [hl1];simp only [map_map];rfl),?_⟩;rw [show(cl.map fun _=>true).all id=true by rw [all_map];exact all_eq_true.mpr fun _ _=>rfl];exact q _ hs1
theorem B0r (F:D1 K mg "check_claims_under" wH ["custom","claims"])(a1:A1 P w K mg base 4 "check_custom" vO)(a2:A1 P w K mg base 5 "check_claims" rN)(a3:A1 P w K mg base 1 "stand_under" oV):A1 P w K mg base 6 "check_claims_under" xF:=by
 refine F.k ["custom","claims"] ?_;ac_nf
 ·obtain⟨c,a,cs,cl,rfl,hc,Gc,hA,G,hU,q⟩:=h;refine⟨_,aN (cF (a1.c hr (aB (pv 0) aA)))<|aN (cF (a2.c hr (aB (pv 1) aA)))<|
   aQ (bV (cD (bQ (a3.c hr (aB (pv 0) (aB (pv 1) aA))))) eY bU),?_⟩
  refine⟨_,rfl,c,cs,rfl,hc,Gc,fun H1 s1=> ?_⟩;refine⟨_,rfl,a,cl,rfl,hA.ext s1.ext,G,fun H2 s2=> ?_⟩;exact⟨_,rfl,_,rfl,c,a,cs,cl,rfl,s2 _ _ (s1 _ _ hc),(hA.ext s1.ext).ext s2.ext,G.l12,hU,fun H3 s3=> ⟨_,rfl,bL (q H3 ((s1.trans s2).trans s3))⟩⟩
theorem rS:(["holder","sort","many","thing"]:List Str).Nodup:=by decide +kernel
theorem A8c (F:D1 K mg "is_holder" rL ["claims","thing"])(T:TxC mg)(a1:A1 P w K mg base 1 "is_number" oY):A1 P w K mg base 2 "is_holder" mB:=by
 refine F.k ["claims","thing"] ?_;ac_nf
 ·obtain⟨a,cl,u,rfl,⟨bs,ha,hC⟩,h12,ku,q⟩:=h;have hl:bs.length=cl.length:=Paired.length hC;refine⟨_,aQ (bA (fQ (a1.c hr (bB (pv 1) aA)) (fP (bH (rG rfl) rfl T.any rP (cP (bJ (bC rL).names ["claims","thing"] ["holder","sort","many"] [("thing",1)] rfl (cQ (pv 0)) rfl rfl rfl (by decide +kernel)
   (fun Z=>bN rfl (aX (nm1 0 rS) (aX (nm1 1 rS) (aX (nm1 2 rS) bM)))) (fun Z=>bZ)
   (fun Z=>eL eW (pv 0) (pv 3) (nomark _))) aA))))),?_⟩
  refine⟨_,rfl,_,rfl,ku,_,rfl,dC (fun e=> ?_) fun e=> ?_⟩
  ·obtain⟨i,rfl⟩:∃i,u= .int i:=by cases u<;>first|exact⟨_,rfl⟩|cases e
   refine⟨_,rfl,a,rfl,⟨_,SqT.of ha⟩,fun Z l hl'=> ?_⟩;refine jV (rest:=[some (.int i)]) gH (fun H' hs=>SqT.of (hs _ _ ha)) hC hl' (by omega) (fun c=> .bl (decide (c.1=i))) (fun x H' Q' hm hs hq=> ?_) fun σ H1 hs1 hl1=> ?_
   ·refine⟨_,rfl,_,rfl,rfl,?_⟩;have:decide (V.int x.1=V.int i)=decide (x.1=i):=decide_eq_decide.mpr ⟨fun z=>V.int.inj z,fun z=>by rw [z]⟩;rw [this];exact hq _ (Same.refl _)
   ·refine⟨l,cl.map fun c=>decide (c.1=i),rfl,SqL.of (by rw [hl1];simp only [map_map];rfl),?_⟩;have:(cl.map fun c=>decide (c.1=i)).any id=gO cl (.int i):=by unfold gO cG;rw [any_map];rfl
    rw [this];exact q _ hs1
  ·have:gO cl u=false:=by cases u<;>first|rfl|cases e
   rw [←this];exact q _ (Same.refl _)
theorem A5z (F:D1 K mg "check_holder" A0g ["claims","holder"])(a1:A1 P w K mg base 2 "is_holder" mB):A1 P w K mg base 3 "check_holder" kQ:=by
 refine F.k ["claims","holder"] ?_;ac_nf
 ·obtain⟨a,cl,i,rfl,hA,h12,hh,q⟩:=h;refine⟨_,aQ (bV (cD (bQ (a1.c hr (aB (pv 0) (aB (pv 1) aA))))) eY bU),?_⟩;refine⟨_,rfl,_,rfl,a,cl,.int i,rfl,hA,h12,trivial,fun H' hs=> ⟨_,rfl,?_⟩⟩;rw [show gO cl (.int i)=true from hh];exact bL (q H' hs)
theorem A7w:(["holder","claims"]:List Str).Nodup:=by decide +kernel
noncomputable def gQ (S:Nat->Bool)(n:Nat):List Nat:=(List.range n).filter S
theorem A9b (S:Nat->Bool):gQ S 4=aU S:=by unfold gQ aU L;show filter S [0,1,2,3]=_;cases h0:S 0<;>cases h1:S 1<;>cases h2:S 2<;>cases h3:S 3<;>simp [filter,h0,h1,h2,h3]
theorem A4k (F:D1 K mg "holders_of" sD ["claims"])(T:TxC mg)(a1:A1 P w K mg base 5 "check_claims" rN)(a2:A1 P w K mg base 2 "is_holder" mB):A1 P w K mg base 6 "holders_of" sS:=by
 obtain⟨t1,mH⟩:=T.holders;refine F.k ["claims"] ?_;ac_nf
 ·obtain⟨a,cl,rfl,hA,G,q⟩:=h;refine⟨_,aN (cF (a1.c hr (aB (pv 0) aA)))<|
   aQ (bA (bJ (bC sD).names ["claims"] ["holder"] [("claims",0)] rfl (lL rfl T.range (bB (eD (v:=.int 4) rfl mH ⟨_,rfl⟩) aA)) rfl rfl rfl (by decide +kernel)
    (fun Z=>nm1 0 A7w) (fun Z=>dY (bQ (a2.c hr (aB (pv 1) (aB (pv 0) aA))))) (fun Z=>pv 0))),?_⟩
  refine⟨_,rfl,a,cl,rfl,hA,G,fun H1 s1=> ?_⟩;refine⟨4,rfl,by decide,by decide,fun Z l hl=> ?_⟩;refine mN (lo:=0) (n:=4) (fun i σ H'=>(∃o,σ=[o,some (.ref a)])/\Same H1 H'/\H' l=some (.lst ((gQ (bY cl) i).map fun k:Nat=>V.int (k:Int)))) ⟨⟨_,rfl⟩,aM hl,by rw [aG];rfl⟩ ?_ ?_
  ·rintro i σ H' hi ⟨⟨o,rfl⟩,hs,hl'⟩;show cL _ _ _ [some (.int (0+(i:Int))),some (.ref a)] H';refine⟨_,rfl,_,rfl,a,cl,_,rfl,hA.ext (s1.trans hs).ext,G.l12,trivial,fun H2 s2=> ⟨_,rfl,?_⟩⟩;have e0:(0:Int)+(i:Int)=(i:Int):=by omega
   rw [e0];have ep:gQ (bY cl) (i+1)=gQ (bY cl) i++(if bY cl i=true then [i]else []):=by
    unfold gQ;rw [List.range_succ,filter_append]
    congr 1
    by_cases hh:bY cl i=true
    ·rw [if_pos hh,filter_cons_of_pos hh];rfl
    ·rw [if_neg hh,filter_cons_of_neg hh];rfl
   have hz:((gQ (bY cl) i).map fun k:Nat=>V.int (k:Int)).length<=1000:=by
    rw [length_map];have:=length_filter_le (bY cl) (List.range i);rw [length_range]at this;unfold gQ;omega
   refine dC (fun hh=> ?_) fun hh=> ?_
   ·refine⟨_,rfl,_,s2 _ _ hl',cA hz,⟨_,rfl⟩,fun b u e=> ?_,?_⟩
    ·rw [aV (bG e hl)];exact s2 _ _ (hs _ _ e)
    ·rw [aG,ep,if_pos (show bY cl i=true from hh),map_append];rfl
   ·refine⟨⟨_,rfl⟩,hs.trans s2,?_⟩;rw [ep,if_neg (by show¬bY cl i=true;unfold bY;rw [show cG cl (i:Int)=false from hh];decide),append_nil];exact s2 _ _ hl'
  ·rintro σ H' ⟨_,hs,hl'⟩;rw [A9b]at hl';have hHl:H l=none:=by
    cases e:H l with
    |none=>rfl
    |some o=>rw [s1 _ _ e]at hl;cases hl
   exact q l H' hHl (s1.trans hs) hl'
end
noncomputable def cw (cs:List Int)(c:C3):Int:=cs.getD c.2.1.toNat 0*c.2.2
noncomputable def bK (cs:List Int)(cl:List C3):Int:=(cl.map (cw cs)).sum
noncomputable def ofH (cl:List C3)(i:Int):List C3:=cl.filter fun c=>decide (c.1=i)
noncomputable def cJ (cs:List Int)(cl:List C3)(i:Int):Int:=bK cs (ofH cl i)
noncomputable def Fine (cs:List Int)(cl:List C3):Prop:=cl.length<=12/\∀c∈cl,0<=c.2.1/\c.2.1<cs.length/\1<=c.2.2/\c.2.2<=20
theorem lX (G:fV cl)(U:iJ cs cl):Fine cs cl:=⟨G.l12,fun c hc=> ⟨(G.num c hc).2.1.1,U c hc,(G.num c hc).2.2.1,(G.num c hc).2.2.2⟩⟩
theorem Fine.sub (h:Fine cs cl)(i:Int):Fine cs (ofH cl i):=⟨le_trans (length_filter_le _ _) h.1,fun c hc=>h.2 c (mem_filter.mp hc).1⟩
theorem jB {cs:List Int}(Gc:fZ cs){c:C3}(h:0<=c.2.1/\c.2.1<cs.length/\1<=c.2.2/\c.2.2<=20):1<=cs.getD c.2.1.toNat 0/\cs.getD c.2.1.toNat 0<=100/\1<=cw cs c/\cw cs c<=2000:=by
 have hlt:c.2.1.toNat<cs.length:=by omega
 have e:cs.getD c.2.1.toNat 0=cs[c.2.1.toNat]:=by simp [hlt]
 have hn:=Gc.num _ (getElem_mem hlt);unfold cw;rw [e];refine⟨hn.1,hn.2,?_,?_⟩
 ·have:=Int.mul_le_mul hn.1 h.2.2.1 (by omega) (by omega);omega
 ·have:=Int.mul_le_mul hn.2 h.2.2.2 (by omega) (by omega);omega
theorem oE {cs:List Int}(Gc:fZ cs):∀{cl:List C3},(∀c∈cl,0<=c.2.1/\c.2.1<cs.length/\1<=c.2.2/\c.2.2<=20)->(cl.length:Int)<=bK cs cl/\bK cs cl<=2000*cl.length
 | [],_=>by simp [bK]
 |c::cl,h=>by
  have ih:=oE Gc (cl:=cl) fun d hd=>h d (zjS _ hd);have h0:=jB Gc (h c zjR);have e:bK cs (c::cl)=cw cs c+bK cs cl:=by unfold bK;rw [map_cons,sum_cons]
  rw [e,length_cons];constructor<;>omega
theorem kI {cs:List Int}{s:Int}(h0:0<=s)(h1:s<cs.length):atI (cs.map V.int) s=some (.int (cs.getD s.toNat 0)):=by
 obtain⟨n,rfl⟩:=Int.eq_ofNat_of_zero_le h0;have hn:n<cs.length:=by omega
 refine bR ?_;rw [getElem?_map,getElem?_eq_getElem hn];simp [hn]
noncomputable def oG:Sp:=fun vs H Q _=> ∃c a cs bs cl,vs=[.ref c,.ref a]/\iC H c cs/\fZ cs/\(H a=some (.tup (bs.map V.ref))\/H a=some (.lst (bs.map V.ref)))/\ClP H bs cl/\Fine cs cl/\∀H',Same H H'->Q (.int (bK cs cl)) H'
noncomputable def A0w:Sp:=fun vs H Q _=> ∃c a cs cl i,vs=[.ref c,.ref a,.int i]/\iC H c cs/\fZ cs/\ClT H a cl/\fV cl/\iJ cs cl/\cG cl i=true/\∀H',Same H H'->Q (.int (cJ cs cl i)) H'
section
variable {P:Program}{w:World}{K:W.Frag}{mg:Str->Option Value}{base:Heap}
theorem A80 (F:D1 K mg "count_together" rB ["custom","claims"])(T:TxC mg):A1 P w K mg base 1 "count_together" oG:=by
 refine F.k ["custom","claims"] ?_;ac_nf
 ·obtain⟨c,a,cs,bs,cl,rfl,hc,Gc,ha,hC,hf,q⟩:=h;have hl:bs.length=cl.length:=Paired.length hC;have h12:=hf.1;refine⟨_,aQ (bA (bH (rE rfl) rfl T.sum boot_sum (cP (bJ (bC rB).names ["custom","claims"] ["holder","sort","many"] [("custom",0)] rfl (PI.or (cQ (pv 1)) (cU (pv 1))) rfl rfl rfl (by decide +kernel)
   (fun Z=>bN rfl (aX (nm1 0 jN) (aX (nm1 1 jN) (aX (nm1 2 jN) bM)))) (fun Z=>bZ)
   (fun Z=>bF fO (bI cB (pv 3) (pv 1) (fun _ _=>rfl)) (pv 2))) aA))),?_⟩
  have turn:∀(x:C3)(H':Hp)(Q':VK),x∈cl->Same H H'->(∀H2,Same H' H2->Q' (.int (cw cs x)) H2)->tOp (rI CMul fun i j=> .int (i*j)) (tOp (iI K) (dP 3) (dP 1)) (dP 2) (some (.int x.1)::some (.int x.2.1)::some (.int x.2.2)::[some (.ref c)]) H' Q':=fun x H' Q' hm hs hq=>by
   have hx:=hf.2 x hm;have hlt:x.2.1.toNat<cs.length:=by omega
   have hsm:=jB Gc hx;exact⟨_,rfl,_,rfl,c,_,x.2.1,.int (cs.getD x.2.1.toNat 0),rfl,rfl,SqT.of (hs _ _ hc),kI hx.1 hx.2.1,_,rfl,_,_,rfl,rfl,.inl ⟨by omega,by omega⟩,hq _ (Same.refl _)⟩
  have fin:∀(l:Addr)(σ:L2.St)(H1:Hp),Same H H1->H1 l=some (.lst (cl.map fun x=>V.int (cw cs x)))->∃(p:Addr)(ns:List Int),[V.ref l]=[.ref p]/\SqL K H1 p (ns.map V.int)/\ns.length<=1000/\(∀n∈ns,-10000<=n/\n<=10000)/\Q (.int ns.sum) H1:=fun l σ H1 hs1 hl1=>by
   refine⟨l,cl.map (cw cs),rfl,SqL.of (by rw [hl1];simp only [map_map];rfl),by rw [length_map];omega,fun n hn=> ?_,q H1 hs1⟩;obtain⟨x,hx,rfl⟩:=mem_map.mp hn;have:=jB Gc (hf.2 x hx);omega
  rcases ha with ha|ha
  ·refine .inl ⟨_,rfl,a,rfl,⟨_,SqT.of ha⟩,fun Z l hl'=> ?_⟩;exact jV (rest:=[some (.ref c)]) gH (fun H' hs=>SqT.of (hs _ _ ha)) hC hl' (by omega) (fun x=> .int (cw cs x)) turn fun σ H1 hs1 hl1=>fin l σ H1 hs1 hl1
  ·refine .inr ⟨_,rfl,a,rfl,⟨_,SqL.of ha⟩,fun Z l hl'=> ?_⟩;exact jV (rest:=[some (.ref c)]) lA (fun H' hs=>SqL.of (hs _ _ ha)) hC hl' (by omega) (fun x=> .int (cw cs x)) turn fun σ H1 hs1 hl1=>fin l σ H1 hs1 hl1
theorem A7e:(["claim","holder"]:List Str).Nodup:=by decide +kernel
theorem B1o (F:D1 K mg "count_of" rM ["custom","claims","holder"])(a1:A1 P w K mg base 6 "check_claims_under" xF)(a2:A1 P w K mg base 3 "check_holder" kQ)(a3:A1 P w K mg base 1 "count_together" oG):A1 P w K mg base 7 "count_of" A0w:=by
 refine F.k ["custom","claims","holder"] ?_;ac_nf
 ·obtain⟨c,a,cs,cl,i,rfl,hc,Gc,hA,G,hU,hh,q⟩:=h;refine⟨_,aN (cF (a1.c hr (aB (pv 0) (aB (pv 1) aA))))<|aN (cF (a2.c hr (aB (pv 1) (aB (pv 2) aA))))<|
   aQ (bA (a3.c hr (aB (pv 0) (cP (bJ (bC rM).names ["custom","claims","holder"] ["claim"] [("holder",2)] rfl (cQ (pv 1)) rfl rfl rfl (by decide +kernel)
    (fun Z=>nm1 0 A7e) (fun Z=>dY (bX eW (bI cB (pv 0) aK (fun _ _=>rfl)) (pv 1) (nomark _))) (fun Z=>pv 0)) aA)))),?_⟩
  refine⟨_,rfl,_,rfl,c,a,cs,cl,rfl,hc,Gc,hA,G,hU,fun H1 s1=> ?_⟩;refine⟨_,rfl,_,rfl,a,cl,i,rfl,hA.ext s1.ext,G.l12,hh,fun H2 s2=> ?_⟩;obtain⟨bs,ha,hC⟩:=(hA.ext s1.ext).ext s2.ext;have hl:bs.length=cl.length:=Paired.length hC;have h12:=G.l12;refine⟨_,rfl,_,rfl,a,rfl,⟨_,SqT.of ha⟩,fun Z l hl'=> ?_⟩;refine gM (K:=K) (a:=a) (xs:=bs.map V.ref) (fun j σ H'=>(∃o,σ=[o,some (.int i)])/\Same H2 H'/\∃bs':List Addr,H' l=some (.lst (bs'.map V.ref))/\ClP H' bs' (ofH (cl.take j) i)) ⟨⟨_,rfl⟩,aM hl',[],by rw [aG];rfl,.nil⟩ (fun j σ H' _ h=>SqT.of (h.2.1 _ _ ha)) ?_ ?_
  ·rintro j x σ H' hx ⟨⟨o,rfl⟩,hs,bs',hl2,hC2⟩;rw [getElem?_map]at hx;cases hb:bs[j]? with
   |none=>rw [hb]at hx;cases hx
   |some b=>
    rw [hb]at hx;cases hx;obtain⟨y,hy,he⟩:=hC.get hb;have hj:j<bs.length:=(zjW.mp hb).1;have hbl:bs'.length<=j:=by
     have:=Paired.length hC2;have h2:=length_filter_le (fun c:C3=>decide (c.1=i)) (cl.take j);rw [length_take]at h2;unfold ofH at this;omega
    show cL _ _ _ [some (.ref b),some (.int i)] H';refine⟨_,rfl,b,_,0,.int y.1,rfl,rfl,SqT.of (hs _ _ he),bR (j:=0) rfl,_,rfl,rfl,_,rfl,?_⟩;have ed:decide (V.int y.1=V.int i)=decide (y.1=i):=decide_eq_decide.mpr ⟨fun z=>V.int.inj z,fun z=>by rw [z]⟩;rw [ed];have et:ofH (cl.take (j+1)) i=ofH (cl.take j) i++(if decide (y.1=i)=true then [y]else []):=by
     unfold ofH;rw [take_succ,hy,filter_append]
     congr 1
     by_cases z:y.1=i
     ·simp [z]
     ·simp [z]
    refine dC (fun hz=> ?_) fun hz=> ?_
    ·refine⟨_,rfl,_,hl2,cA (by rw [length_map];omega),⟨_,rfl⟩,fun b' u e=> ?_,bs'++[b],?_,?_⟩
     ·rw [aV (bG e hl')];exact hs _ _ e
     ·rw [aG,map_append];rfl
     ·rw [et,if_pos hz];have up:∀b' xs,H' b'=some (.tup xs)->(upd H' l (.lst (bs'.map V.ref++[.ref b]))) b'=some (.tup xs):=fun b' xs e=>by rw [aV (fun z=>by rw [z,hl2]at e;cases e)];exact e
      exact Paired.snoc (Paired.mapP hC2 fun _ _ e=>up _ _ e) (up _ _ (hs _ _ he))
    ·refine⟨⟨_,rfl⟩,hs,bs',hl2,?_⟩;rw [et,if_neg (by rw [hz];decide),append_nil];exact hC2
  ·rintro σ H' ⟨_,hs,bs',hl2,hC2⟩;rw [length_map,hl,take_of_length_le (zjQ _)]at hC2;exact⟨c,l,cs,bs',ofH cl i,rfl,hs _ _ (s2 _ _ (s1 _ _ hc)),Gc,.inr hl2,hC2,(lX G hU).sub i,fun H3 s3=>q H3 (((s1.trans s2).trans hs).trans s3)⟩
end
noncomputable def frTop (t b:Int):Int:=t/((Nat.gcd t.toNat b.toNat:Nat):Int)
noncomputable def frBot (t b:Int):Int:=b/((Nat.gcd t.toNat b.toNat:Nat):Int)
noncomputable def qX:Sp:=fun vs H Q _=> ∃t b,vs=[.int t,.int b]/\(0<=t/\t<1000000000)/\(1<=b/\b<1000000)/\∀p,H p=none->Q (.ref p) (upd H p (.tup [.int (frTop t b),.int (frBot t b)]))
noncomputable def uT:Sp:=fun vs H Q _=> ∃c a cs cl i,vs=[.ref c,.ref a,.int i]/\iC H c cs/\fZ cs/\ClT H a cl/\fV cl/\iJ cs cl/\cG cl i=true/\∀p H',Same H H'->H' p=some (.tup [.int (frTop (cJ cs cl i) (bK cs cl)),.int (frBot (cJ cs cl i) (bK cs cl))])->Q (.ref p) H'
theorem A38 (a b:Nat):Nat.gcd b (a%b)=Nat.gcd a b:=by rw [Nat.gcd_comm b,←Nat.gcd_rec,Nat.gcd_comm]
section
variable {P:Program}{w:World}{K:W.Frag}{mg:Str->Option Value}{base:Heap}
theorem A97 (F:D1 K mg "fraction" vZ ["top","bottom"]):A1 P w K mg base 1 "fraction" qX:=by
 refine F.k ["top","bottom","divisor","rest"] ?_;ac_nf
 ·obtain⟨t,b,rfl,ht,hb,q⟩:=h;obtain⟨tn,rfl⟩:=Int.eq_ofNat_of_zero_le ht.1;obtain⟨bn,rfl⟩:=Int.eq_ofNat_of_zero_le (show 0<=b by omega);refine⟨_,aN (gJ (i:=2) (j:=3) rfl nd rfl rfl (by decide) rfl rfl (aB (pv 0) (aB (pv 1) aA)) rfl)<|
   aN (kF PassesOwn.never (bX nI (pv 3) aK (nomark _)) (aQ (gJ (i:=2) (j:=3) rfl nd rfl rfl (by decide) rfl rfl (aB (pv 3) (dE (bF gR (pv 2) (pv 3)) aA)) rfl)))<|
   aQ (bA (dN (dE (bF lV (pv 0) (pv 2)) (dE (bF lV (pv 1) (pv 2)) aA)))),?_⟩
  refine⟨_,rfl,_,rfl,_,_,rfl,?_⟩;refine A78 (fun σ H'=>H'=H/\∃x y:Nat,σ=[some (.int (tn:Int)),some (.int (bn:Int)),some (.int (x:Int)),some (.int (y:Int))]/\Nat.gcd x y=Nat.gcd tn bn/\x<1000000000/\y<1000000000) (fun σ _=>match σ with| [_,_,_,some (.int y)]=>y.toNat|_=>0)
   ⟨rfl,tn,bn,rfl,rfl,by omega,by omega⟩ ?_ (fun σ H' R R' hi hc=> ?_)
  ·rintro σ H' ⟨rfl,x,y,rfl,hg,hx,hy⟩;refine⟨_,rfl,_,_,rfl,rfl,_,rfl,dR (fun hp=> ?_) fun hp=> ?_⟩
   ·have hy0:0<y:=by omega
    refine⟨_,rfl,_,rfl,_,rfl,_,_,rfl,rfl,(by omega),_,_,rfl,?_⟩;have hm:x%y<y:=mod_lt _ hy0;refine⟨⟨rfl,y,x%y,?_,by rw [A38];exact hg,hy,by omega⟩,?_⟩
    ·show [some (V.int (tn:Int)),some (.int (bn:Int)),some (.int (y:Int)),some (.int ((x:Int)%(y:Int)))]=_;rw [Int.natCast_emod]
    ·show((x:Int)%(y:Int)).toNat<((y:Int)).toNat;have e:(x:Int)%(y:Int)=((x%y:Nat):Int):=(Int.natCast_emod x y).symm;rw [e,Int.toNat_natCast,Int.toNat_natCast];exact hm
   ·have hy0:y=0:=by omega
    subst hy0;rw [Nat.gcd_zero_right]at hg;subst hg;have hgp:0<Nat.gcd tn bn:=Nat.gcd_pos_of_pos_right _ (by omega);refine⟨_,rfl,_,rfl,_,_,rfl,rfl,⟨by omega,by omega⟩,_,rfl,_,rfl,_,_,rfl,rfl,⟨by omega,by omega⟩,by show 2<=sizeLine;decide,fun p hp'=> ?_⟩;exact q p hp'
  ·obtain⟨v,e1,h1⟩:=hc;obtain⟨i,j,e2,e3,c,e4,h2⟩:=h1;exact⟨v,e1,i,j,e2,e3,c,e4,hi _ _ h2⟩
theorem nZ (Gc:fZ cs)(G:fV cl)(U:iJ cs cl)(i:Int):(0<=cJ cs cl i/\cJ cs cl i<1000000)/\1<=bK cs cl/\bK cs cl<1000000:=by have hf:=lX G U;have h1:=oE Gc hf.2;have h2:=oE Gc (hf.sub i).2;have:=G.l1;have:=hf.1;have:=(hf.sub i).1;unfold cJ;omega
theorem A47 (F:D1 K mg "share_of" yA ["custom","claims","holder"])(a1:A1 P w K mg base 1 "fraction" qX)(a2:A1 P w K mg base 7 "count_of" A0w)(a3:A1 P w K mg base 1 "count_together" oG):A1 P w K mg base 8 "share_of" uT:=by
 refine F.k ["custom","claims","holder"] ?_;ac_nf
 ·obtain⟨c,a,cs,cl,i,rfl,hc,Gc,hA,G,hU,hh,q⟩:=h;refine⟨_,aQ (bA (a1.c hr (cI (a2.c hr (aB (pv 0) (aB (pv 1) (aB (pv 2) aA)))) (cI (a3.c hr (aB (pv 0) (aB (pv 1) aA))) aA)))),?_⟩;refine⟨_,rfl,_,rfl,_,rfl,c,a,cs,cl,i,rfl,hc,Gc,hA,G,hU,hh,fun H1 s1=> ?_⟩;obtain⟨bs,ha,hC⟩:=hA.ext s1.ext;refine⟨_,rfl,_,rfl,c,a,cs,bs,cl,rfl,s1 _ _ hc,Gc,.inl ha,hC,lX G hU,fun H2 s2=> ?_⟩;have hb:=nZ Gc G hU i;exact⟨_,_,rfl,⟨hb.1.1,by omega⟩,hb.2,fun p hp=>q p _ ((s1.trans s2).trans (aM hp)) aG⟩
end
noncomputable def uJ (K:W.Frag):Sp:=fun vs H Q _=> ∃a ns k,vs=[.ref a,.int k]/\SqL K H a ((ns:List Int).map V.int)/\0<=k/\∀i,Q (.int i) H
noncomputable def qF:Sp:=fun vs H Q _=> ∃i:Int,vs=[.int i]/\∀p H',H p=none->Same H H'->PenAt H' p->Q (.ref p) H'
noncomputable def gG:Sp:=fun vs H Q _=> ∃p m,vs=[.ref p,.int m]/\PenAt H p/\0<m/\m<1000000/\∀d H',0<=d->d<m->Stp p H H'->Q (.int d) H'
section
variable {P:Program}{w:World}{K:W.Frag}{mg:Str->Option Value}{base:Heap}
theorem A8k (F:D1 K mg "_law_cell" vK ["_law_script","_law_k"])(T:TxC mg):A1 P w K mg base 1 "_law_cell" (uJ K):=by
 refine F.k ["_law_script","_law_k"] ?_;ac_nf
 ·obtain⟨a,ns,k,rfl,ha,hk,q⟩:=h;refine⟨_,aN (bV (bX jG (pv 1) (bH fE rfl T.len PySem.boot_len (bB (pv 0) aA)) (nomark _)) (aQ (bA (bI dM (pv 0) (pv 1) (fun _ _=>rfl)))) bU) (aQ (bA aK)),?_⟩;refine⟨_,rfl,_,rfl,a,_,rfl,.inl ha,_,_,rfl,rfl,_,rfl,dR (fun h1=> ?_) fun h1=>q 0⟩;rw [length_map]at h1;obtain⟨n,rfl⟩:=Int.eq_ofNat_of_zero_le hk;have hlt:n<ns.length:=by omega
  exact⟨_,rfl,_,rfl,a,_,n,.int ns[n],rfl,rfl,ha,bR (by rw [getElem?_map];simp [hlt]),q _⟩
theorem A8q (F:D1 K mg "_law_pen" A08 ["_law_cell_here"])(T:TxC mg):A1 P w K mg base 1 "_law_pen" qF:=by
 refine F.k ["_law_cell_here"] ?_;ac_nf
 ·obtain⟨i,rfl,q⟩:=h;refine⟨_,aQ (bA (cN (bB (pv 0) (bB (fG wV rfl T.int boot_int (bB (eL rX (pv 0) (bF A69 aK aK) (nomark _)) aA)) aA)))),?_⟩;refine⟨_,rfl,_,rfl,_,_,rfl,rfl,⟨by decide,by decide,by decide⟩,_,_,rfl,rfl,.inr ⟨_,rfl,?_⟩⟩;refine⟨by show 2<=sizeLine;decide,fun l hl=> ?_⟩;exact q l _ hl (aM hl) ⟨_,_,aG⟩
theorem scDraw:gK ["_law_pen_here","_law_many","_law_digit"] ["_law_pen_here","_law_many"] (bC sI):=by ac_rfl
theorem A9i (F:D1 K mg "_law_draw" sI ["_law_pen_here","_law_many"])(T:TxC mg):A1 P w K mg base 1 "_law_draw" gG:=by
 refine F.k ["_law_pen_here","_law_many","_law_digit"] ?_;ac_nf
 ·obtain⟨p,m,rfl,⟨x,f1,hp⟩,h0,h1,q⟩:=h;refine⟨_,aN (bV (bX eW (bI dM (pv 0) aK (fun _ _=>rfl)) aK (nomark _))
    (aN (bT (i:=2) scDraw.nd rfl (Or.inl rfl) (bF gR (bI dM (pv 0) aK (fun _ _=>rfl)) (pv 1)))
    (aN (dS (bF lV (bI dM (pv 0) aK (fun _ _=>rfl)) (pv 1)) (pZ (pv 0) aK rV))
    (aQ (bA (pv 2))))) bU)
   (aN (dS (bF gR (bF eO (bF fO (bF gR (bI dM (pv 0) aK (fun _ _=>rfl)) aK) aK) aK) aK) (pZ (pv 0) aK rV))
   (aQ (bA (bF gR (bF lV (bF gR (bF eO (bF fO (bI dM (pv 0) aK (fun _ _=>rfl)) (bI dM (pv 0) aK (fun _ _=>rfl))) (bF fO aK (bI dM (pv 0) aK (fun _ _=>rfl)))) aK) aK) (pv 1))))),?_⟩
  refine⟨_,rfl,p,_,1,_,rfl,rfl,SqL.of hp,bR (j:=1) rfl,rfl,_,rfl,dR (fun _=> ?_) fun _=> ?_⟩
  ·refine⟨_,rfl,p,_,0,_,rfl,rfl,SqL.of hp,bR (j:=0) rfl,_,rfl,_,_,rfl,rfl,h0,?_⟩;refine⟨_,rfl,p,_,0,_,rfl,rfl,SqL.of hp,bR (j:=0) rfl,_,rfl,_,_,rfl,rfl,⟨h0,by omega⟩,?_⟩;refine⟨_,rfl,p,_,0,0,rfl,rfl,hp,rfl,?_⟩;refine⟨_,rfl,?_⟩;exact q _ _ (Int.emod_nonneg _ (by omega)) (Int.emod_lt_of_pos _ h0) ⟨⟨_,_,aG⟩,fun b o hb e=>by rw [aV hb];exact e⟩
  ·have hm:∀y:Int,0<=y%2147483629/\y%2147483629<2147483629:=fun y=> ⟨Int.emod_nonneg _ (by omega),Int.emod_lt_of_pos _ (by omega)⟩;have b1:=hm x;have b2:=hm (x%2147483629*48271+11);refine⟨_,rfl,p,_,0,_,rfl,rfl,SqL.of hp,bR (j:=0) rfl,_,_,rfl,rfl,(by show(0:Int)<2147483629;decide),_,_,rfl,rfl,.inl ⟨by omega,by omega⟩,_,_,rfl,rfl,_,_,rfl,rfl,(by show(0:Int)<2147483629;decide),?_⟩;refine⟨_,rfl,p,_,0,0,rfl,rfl,hp,rfl,?_⟩;refine⟨_,rfl,p,_,0,_,rfl,rfl,SqL.of aG,bR (j:=0) rfl,_,rfl,p,_,0,_,rfl,rfl,SqL.of aG,bR (j:=0) rfl,_,_,rfl,rfl,.inl ⟨by omega,by omega⟩,?_⟩;refine⟨_,rfl,p,_,0,_,rfl,rfl,SqL.of aG,bR (j:=0) rfl,_,_,rfl,rfl,.inl ⟨by decide,by decide⟩,_,_,rfl,rfl,_,_,rfl,rfl,(by show(0:Int)<2147483647;decide),_,_,rfl,rfl,⟨by decide,by decide⟩,_,rfl,_,_,rfl,rfl,h0,?_⟩;exact q _ _ (Int.emod_nonneg _ (by omega)) (Int.emod_lt_of_pos _ h0) ⟨⟨_,_,aG⟩,fun b o hb e=>by rw [aV hb];exact e⟩
end
section
end
section
end
end M52
namespace L2
open PySem PyProof.Rows
theorem Stp.updO (s:Stp p H H1)(hd:H d=none)(hp:PenAt H p):Stp p H (upd H1 d o):=by obtain⟨x,f,e⟩:=hp;have hne:p≠d:=bG e hd;obtain⟨x',f',e'⟩:=s.pen;exact⟨⟨x',f',by rw [aV hne];exact e'⟩,fun b o hb h=>by rw [aV (bG h hd)];exact s.keep b o hb h⟩
theorem Stp.none (s:Stp p H H1)(h:H1 b=Option.none):H b=Option.none/\b≠p:=by
 have hb:b≠p:=fun z=>by
  obtain⟨x,f,e⟩:=s.pen;rw [z,e]at h;cases h
 refine⟨?_,hb⟩;cases e:H b with
 |none=>rfl
 |some o=>rw [s.keep b o hb e]at h;cases h
theorem PenAt.fresh (h:PenAt H p)(hl:H l=none):l≠p:=fun z=>by
 obtain⟨x,f,e⟩:=h;rw [z,e]at hl;cases hl
end L2
namespace M52
open PySem L2 PyProof.Rows Grd Wlk Cyc Srt
structure PleA (H:Hp)(p:Addr)(g:bD)(w:Nat)(cs:List Int)(cl:List C3)(od:Int):Prop where
 G:cK g w
 w4:w<=4
 g3:g.length<=3
 c6:cT g<=6
 cu:fZ cs
 ck:fV cl
 un:iJ cs cl
 o9:0<=od/\od<=999
 ex:∃m c a,H p=some (.tup [.ref m,.ref c,.ref a,.int od])/\GridAt H m g/\iC H c cs/\ClT H a cl
theorem PleA.ext (h:PleA H p g w cs cl od)(e:Ext H H'):PleA H' p g w cs cl od:=
 ⟨h.G,h.w4,h.g3,h.c6,h.cu,h.ck,h.un,h.o9,let ⟨m,c,a,h1,h2,h3,h4⟩:=h.ex;⟨m,c,a,e.tup _ _ h1,h2.ext e,e.tup _ _ h3,h4.ext e⟩⟩
theorem PleA.same (h:PleA H p g w cs cl od)(s:Same H H'):PleA H' p g w cs cl od:=h.ext s.ext
section
end
end M52
namespace M52
open PySem L2 PyProof.Rows Set4 Grd Wlk Cyc Srt
noncomputable def oX:Sp:=fun vs H Q _=> ∃p g w cs cl od,vs=[.ref p]/\PleA H p g w cs cl od/\∀l H',H l=none->Same H H'->H' l=some (.lst ((aU (bY cl)).map fun k:Nat=>V.int (k:Int)))->Q (.ref l) H'
theorem B0g (h:∀c∈cl,0<=c.1):(fun k=>decide (k∈cl.map fun c=>c.1.toNat))=bY cl:=funext fun k=>by
 unfold bY cG;rw [Bool.eq_iff_iff,decide_eq_true_eq,mem_map,any_eq_true];constructor
 ·rintro⟨c,hc,e⟩;exact⟨c,hc,zjV (by have:=h c hc;omega)⟩
 ·rintro⟨c,hc,e⟩;have:=of_decide_eq_true e;exact⟨c,hc,by omega⟩
section
variable {P:Program}{w:World}{K:W.Frag}{mg:Str->Option Value}{base:Heap}
theorem A61 (F:D1 K mg "_law_holders" rR ["_law_plea"])(T:TxC mg):A1 P w K mg base 1 "_law_holders" oX:=by
 refine F.k ["_law_plea"] ?_;ac_nf
 ·obtain⟨p,g,w',cs,cl,od,rfl,D,q⟩:=h;obtain⟨m,c,a,hp,hm,hc,bs,ha,hC⟩:=D.ex;have G:=D.ck;have hl:bs.length=cl.length:=Paired.length hC;have h12:=G.l12;refine⟨_,aQ (bA (bH (A59 rfl) rfl T.sorted boot_sorted (cI (fG (A4v rfl) rfl T.set PyProof.Rows.boot_set (cP (bJ (bC rR).names ["_law_plea"] ["_law_claim"] [] rfl (cQ (bI cB (pv 0) aK (fun _ _=>rfl))) rfl rfl rfl (by decide +kernel)
   (fun Z=>aJ (i:=0) (show(["_law_claim"]:List Str).Nodup by decide +kernel) rfl (Or.inl rfl)) (fun Z=>bZ) (fun Z=>bI cB (pv 0) aK (fun _ _=>rfl))) aA)) aA))),?_⟩
  refine⟨_,rfl,p,_,2,_,rfl,rfl,SqT.of hp,rfl,a,rfl,⟨_,SqT.of ha⟩,fun Z l hl0=> ?_⟩;refine gM (K:=K) (a:=a) (xs:=bs.map V.ref) (fun j σ H'=>σ.length=1/\Same H H'/\H' l=some (.lst ((cl.take j).map fun c=>V.int c.1))) ⟨rfl,aM hl0,by rw [aG];rfl⟩ (fun j σ H' _ h=>SqT.of (h.2.1 _ _ ha)) ?_ ?_
  ·rintro j x σ H' hx ⟨hσ,hs,hl2⟩
   match σ,hσ with
   | [x0],_=>
   rw [getElem?_map]at hx;cases hb:bs[j]? with
   |none=>rw [hb]at hx;cases hx
   |some b=>
    rw [hb]at hx;cases hx;obtain⟨y,hy,he⟩:=hC.get hb;have hj:j<bs.length:=(zjW.mp hb).1;refine iP ?_;refine⟨_,rfl,b,_,0,.int y.1,rfl,rfl,SqT.of (hs _ _ he),bR (j:=0) rfl,?_⟩;refine⟨_,hl2,cA (by rw [length_map,length_take];omega),rfl,fun b' u e=> ?_,?_⟩
    ·rw [aV (bG e hl0)];exact hs _ _ e
    ·rw [aG,take_succ,hy,map_append];rfl
  ·rintro σ H' ⟨_,hs,hl2⟩;rw [length_map,hl,take_of_length_le (zjQ _)]at hl2;have h0:∀c∈cl,0<=c.1:=fun c hc=>(G.num c hc).1.1;have e2:(cl.map fun c=>V.int c.1)=(cl.map fun c=>c.1.toNat).map fun n:Nat=>V.int (n:Int):=by
    rw [map_map];refine map_congr_left fun c hc=> ?_;have:=h0 c hc;show V.int c.1=V.int ((c.1.toNat:Nat):Int);rw [Int.toNat_of_nonneg this]
   rw [e2]at hl2;refine⟨l,cl.map fun c=>c.1.toNat,rfl,SqL.of hl2,fun n hn=> ?_,fun l2 hl3=> ?_⟩
   ·obtain⟨c,hc,rfl⟩:=mem_map.mp hn;have:=(G.num c hc).1;omega
   ·rw [B0g h0];have s2:=aM (o:=kZ w l2 (bY cl)) hl3;refine⟨l2,bY cl,rfl,aG,fun l4 hl4=> ?_⟩;have s3:=aM (o:=.lst ((aU (bY cl)).map fun k:Nat=>V.int (k:Int))) hl4;have sA:=(hs.trans s2).trans s3;have hn4:H l4=none:=by
     cases e:H l4 with
     |none=>rfl
     |some o=>exact nomatch (s2 _ _ (hs _ _ e)).symm.trans hl4
    exact q l4 _ hn4 sA aG
end
end M52
namespace M52
open PySem L2 PyProof.Rows Grd Wlk Cyc Srt
structure TxD (mg:Str->Option Value):Prop where
 reversed:mg "reversed" =none
 repr:mg "repr" =none
 odd:∃t,mg "MOST_ODD" =some (.int 999 t)
noncomputable def vG:Sp:=fun vs H Q _=> ∃i:Int,vs=[.int i]/\0<=i/\i<=999/\Q (.bl true) H
noncomputable def jT (r:V):Sp:=fun vs H Q _=> ∃p g w cs cl od,vs=[.ref p]/\PleA H p g w cs cl od/\∀H',Same H H'->Q r H'
noncomputable def tY:Sp:=fun vs H Q _=> ∃p g w cs cl od i,vs=[.ref p,.int i]/\PleA H p g w cs cl od/\cG cl i=true/\∀H',Same H H'->Q .non H'
noncomputable def uK:Sp:=fun vs H Q _=> ∃a g w,vs=[.ref a]/\GridAt H a g/\cK g w/\∀H',Same H H'->Q (.int (bO g)) H'
section
variable {P:Program}{w:World}{K:W.Frag}{mg:Str->Option Value}{base:Heap}
theorem A4g (F:D1 K mg "is_odd" uH ["thing"])(T:TxD mg)(a1:A1 P w K mg base 2 "is_number_within" jS):A1 P w K mg base 3 "is_odd" vG:=by
 obtain⟨t,mO⟩:=T.odd;refine F.k ["thing"] ?_;ac_nf
 ·obtain⟨i,rfl,h0,h9,q⟩:=h;refine⟨_,aQ (bA (a1.c hr (aB (pv 0) (cM aK (aB (eD (v:=.int 999) rfl mO ⟨_,rfl⟩) aA))))),?_⟩;refine⟨_,rfl,_,0,999,rfl,trivial,?_⟩;have e:dG 0 999 (.int i)=true:=by simp [dG,h0,h9]
  rw [e];exact q
noncomputable abbrev nPl:List Str:=["thing","mead","custom","claims","odd"]
theorem A53 (F:D1 K mg "is_plea" wC ["thing"])(a1:A1 P w K mg base 1 "is_tuple_within" gA)(a2:A1 P w K mg base 4 "is_mead" qH)(a3:A1 P w K mg base 3 "is_custom" sM)(a4:A1 P w K mg base 4 "are_claims" sQ)(a5:A1 P w K mg base 1 "stand_under" oV)(a6:A1 P w K mg base 3 "is_odd" vG):A1 P w K mg base 5 "is_plea" (jT (.bl true)):=by
 refine F.k nPl ?_;ac_nf
 ·obtain⟨p,g,w',cs,cl,od,rfl,D,q⟩:=h;obtain⟨m,c,a,hp,hm,hc,ha⟩:=D.ex;refine⟨_,aN (bV (cD (bQ (a1.c hr (aB (pv 0) (cM aK (cM aK aA)))))) (aQ (bA eR)) bU)<|
   aN (dS (pv 0) (bN rfl (aX (nm1 1 nd) (aX (nm1 2 nd) (aX (nm1 3 nd) (aX (nm1 4 nd) bM))))))<|
   aN (bV (PW.pt (gW (cD (bQ (a2.c hr (aB (pv 1) aA)))) (gW (cD (bQ (a3.c hr (aB (pv 2) aA)))) (jK (cD (bQ (a4.c hr (aB (pv 3) aA)))))))) (aQ (bA eR)) bU)<|
   aQ (bA (fQ (a5.c hr (aB (pv 2) (aB (pv 3) aA))) (fP (a6.c hr (aB (pv 4) aA))))),?_⟩
  have e4:cV H 4 4 (.ref p)=true:=by unfold cV;rw [hW hp];rfl
  have kp:Kn H 1 (.ref p):=.inr (.inr ⟨_,hp,by show 4<=1000;decide,fun _ _=>trivial⟩);refine⟨_,rfl,_,4,4,rfl,kp,_,rfl,?_⟩;rw [e4];refine bL ?_;refine⟨_,rfl,p,_,rfl,SqT.of hp,rfl,_,_,rfl,_,_,rfl,_,_,rfl,_,_,rfl,rfl,?_⟩;refine⟨_,rfl,m,g,w',rfl,hm,D.G,fun H1 s1=> ⟨_,rfl,?_⟩⟩;refine bL ⟨_,rfl,c,cs,rfl,s1 _ _ hc,D.cu,fun H2 s2=> ⟨_,rfl,bL ?_⟩⟩;have s12:=s1.trans s2;refine⟨_,rfl,a,cl,rfl,ha.ext s12.ext,D.ck,fun H3 s3=> ⟨_,rfl,bL ?_⟩⟩;have s13:=s12.trans s3;refine⟨_,rfl,_,rfl,c,a,cs,cl,rfl,s13 _ _ hc,ha.ext s13.ext,D.ck.l12,D.un,fun H4 s4=> ⟨_,rfl,fR ?_⟩⟩;exact⟨_,rfl,od,rfl,D.o9.1,D.o9.2,q H4 (s13.trans s4)⟩
theorem A74 (F:D1 K mg "check_plea" A0f ["plea"])(a1:A1 P w K mg base 5 "is_plea" (jT (.bl true))):A1 P w K mg base 6 "check_plea" (jT .non):=by
 refine F.k ["plea"] ?_;ac_nf
 ·obtain⟨p,g,w',cs,cl,od,rfl,D,q⟩:=h;refine⟨_,aQ (bV (cD (bQ (a1.c hr (aB (pv 0) aA)))) eY bU),?_⟩;exact⟨_,rfl,p,g,w',cs,cl,od,rfl,D,fun H1 s1=> ⟨_,rfl,bL (q H1 s1)⟩⟩
theorem A7a (F:D1 K mg "check_plea_and_holder" vS ["plea","holder"])(a1:A1 P w K mg base 6 "check_plea" (jT .non))(a2:A1 P w K mg base 3 "check_holder" kQ):A1 P w K mg base 7 "check_plea_and_holder" tY:=by
 refine F.k ["plea","holder","mead","custom","claims","odd"] ?_;ac_nf
 ·obtain⟨p,g,w',cs,cl,od,i,rfl,D,hh,q⟩:=h;refine⟨_,aN (cF (a1.c hr (aB (pv 0) aA)))<|
   aN (dS (pv 0) (bN rfl (aX (nm1 2 nd) (aX (nm1 3 nd) (aX (nm1 4 nd) (aX (nm1 5 nd) bM))))))<|
   aQ (cF (a2.c hr (aB (pv 4) (aB (pv 1) aA)))),?_⟩
  refine⟨_,rfl,p,g,w',cs,cl,od,rfl,D,fun H1 s1=> ?_⟩;obtain⟨m,c,a,hp,hm,hc,ha⟩:=(D.same s1).ex;refine⟨_,rfl,p,_,rfl,SqT.of hp,rfl,_,_,rfl,_,_,rfl,_,_,rfl,_,_,rfl,rfl,?_⟩;exact⟨_,rfl,_,rfl,a,cl,i,rfl,ha,D.ck.l12,hh,fun H2 s2=>q H2 (s1.trans s2)⟩
theorem A8n (F:D1 K mg "whole_worth" vY ["mead"])(a1:A1 P w K mg base 1 "worth_together" tQ)(a2:A1 P w K mg base 6 "cells_of" (eP pos)):A1 P w K mg base 7 "whole_worth" uK:=by
 refine F.k ["mead"] ?_;ac_nf
 ·obtain⟨a,g,w',rfl,hA,G,q⟩:=h;refine⟨_,aQ (bA (a1.c hr (aB (pv 0) (cI (a2.c hr (aB (pv 0) aA)) aA)))),?_⟩;refine⟨_,rfl,_,rfl,a,g,w',rfl,hA,G,fun H1 l ps hl s1 hl1 hP=> ?_⟩;exact⟨a,l,g,w',ps,rfl,hA.same s1,G,hl1,hP,fun H2 s2=>q H2 (s1.trans s2)⟩
noncomputable abbrev shT (cs:List Int)(cl:List C3)(i:Int):Int:=frTop (cJ cs cl i) (bK cs cl)
noncomputable abbrev shB (cs:List Int)(cl:List C3)(i:Int):Int:=frBot (cJ cs cl i) (bK cs cl)
noncomputable def lT (g:bD)(cs:List Int)(cl:List C3)(i:Int):Int:=frTop (bO g*shT cs cl i) (shB cs cl i)
noncomputable def jC (g:bD)(cs:List Int)(cl:List C3)(i:Int):Int:=frBot (bO g*shT cs cl i) (shB cs cl i)
noncomputable def wD:Sp:=fun vs H Q _=> ∃p g w cs cl od i,vs=[.ref p,.int i]/\PleA H p g w cs cl od/\cG cl i=true/\∀q H',Same H H'->H' q=some (.tup [.int (lT g cs cl i),.int (jC g cs cl i)])->Q (.ref q) H'
theorem oJ (h0:0<=t)(h1:1<=b):0<=frTop t b/\1<=frBot t b/\frTop t b<=t/\frBot t b<=b/\frTop t b*b=t*frBot t b:=by
 unfold frTop frBot;obtain⟨tn,rfl⟩:=Int.eq_ofNat_of_zero_le h0;obtain⟨bn,rfl⟩:=Int.eq_ofNat_of_zero_le (show 0<=b by omega);have hb:0<bn:=by omega
 rw [Int.toNat_natCast,Int.toNat_natCast];have hg:0<Nat.gcd tn bn:=Nat.gcd_pos_of_pos_right _ hb;obtain⟨x,ex⟩:=Nat.gcd_dvd_left tn bn;obtain⟨y,ey⟩:=Nat.gcd_dvd_right tn bn;generalize Nat.gcd tn bn=d at*;have e1:tn/d=x:=by rw [ex];exact Nat.mul_div_cancel_left x hg
 have e2:bn/d=y:=by rw [ey];exact Nat.mul_div_cancel_left y hg
 rw [←Int.natCast_ediv,←Int.natCast_ediv,e1,e2];have hy:0<y:=Nat.pos_of_ne_zero fun z=>by rw [z,Nat.mul_zero]at ey;omega
 have hx:x<=tn:=by rw [ex];exact Nat.le_mul_of_pos_left x hg
 have hy2:y<=bn:=by rw [ey];exact Nat.le_mul_of_pos_left y hg
 refine⟨Int.natCast_nonneg _,by omega,by omega,by omega,?_⟩;have:x*bn=tn*y:=by
  have z1:x*bn=x*(d*y):=by rw [←ey]
  have z2:tn*y=(d*x)*y:=by rw [←ex]
  rw [z1,z2,mul_comm d x,Nat.mul_assoc]
 exact_mod_cast this
theorem xN {g:bD}{w:Nat}(G:cK g w)(h6:cT g<=6):0<=bO g/\bO g<=594:=by
 have row:∀xs:List Int,(∀n∈xs,-2<=n/\n<=99)->0<=iD xs/\iD xs<=99*fC xs:=fun xs h=>by
  induction xs with
  |nil=>exact⟨by simp [iD],by simp [iD,fC]⟩
  |cons x xs ih=>
   have:=ih fun n hn=>h n (zjS _ hn);have hx:=h x zjR;unfold iD fC at this⊢;rw [map_cons,sum_cons,filter_cons];by_cases z:0<=x
   ·rw [if_pos (show Grd.pos x=true from zjV z),length_cons]
    split<;>omega
   ·have zp:Grd.pos x=false:=zjU z;have z2:¬x>0:=by omega
    simp only [zp,z2,Bool.false_eq_true,↓reduceIte];omega
 have all:∀g:bD,(∀xs∈g,∀n∈xs,-2<=n/\n<=99)->0<=bO g/\bO g<=99*cT g:=fun g h=>by
  induction g with
  |nil=>exact⟨by simp [bO],by simp [bO,cT]⟩
  |cons x g ih=>
   have:=ih fun n hn=>h n (zjS _ hn);have r:=row x (h x zjR);unfold bO cT at this⊢;rw [map_cons,sum_cons,map_cons,sum_cons];omega
 have:=all g G.num;omega
noncomputable abbrev nDu:List Str:=["plea","holder","mead","custom","claims","odd","top","bottom"]
theorem A8d (F:D1 K mg "due_of" vQ ["plea","holder"])(a1:A1 P w K mg base 7 "check_plea_and_holder" tY)(a2:A1 P w K mg base 8 "share_of" uT)(a3:A1 P w K mg base 1 "fraction" qX)(a4:A1 P w K mg base 7 "whole_worth" uK):A1 P w K mg base 9 "due_of" wD:=by
 refine F.k nDu ?_;ac_nf
 ·obtain⟨p,g,w',cs,cl,od,i,rfl,D,hh,q⟩:=h;refine⟨_,aN (cF (a1.c hr (aB (pv 0) (aB (pv 1) aA))))<|
   aN (dS (pv 0) (bN rfl (aX (nm1 2 nd) (aX (nm1 3 nd) (aX (nm1 4 nd) (aX (nm1 5 nd) bM))))))<|
   aN (dS (a2.c hr (aB (pv 3) (aB (pv 4) (aB (pv 1) aA)))) (bN rfl (aX (nm1 6 nd) (aX (nm1 7 nd) bM))))<|
   aQ (bA (a3.c hr (dE (bF fO (a4.c hr (aB (pv 2) aA)) (pv 6)) (aB (pv 7) aA)))),?_⟩
  refine⟨_,rfl,_,rfl,p,g,w',cs,cl,od,i,rfl,D,hh,fun H1 s1=> ?_⟩;obtain⟨m,c,a,hp,hm,hc,ha⟩:=(D.same s1).ex;refine⟨_,rfl,p,_,rfl,SqT.of hp,rfl,_,_,rfl,_,_,rfl,_,_,rfl,_,_,rfl,rfl,?_⟩;refine⟨_,rfl,_,rfl,_,rfl,c,a,cs,cl,i,rfl,hc,D.cu,ha,D.ck,D.un,hh,fun t H2 s2 ht=> ?_⟩;refine⟨t,_,rfl,SqT.of ht,rfl,_,_,rfl,_,_,rfl,rfl,?_⟩;have hb:=nZ D.cu D.ck D.un i;have fr:=oJ hb.1.1 hb.2.1;have tb:=xN D.G D.c6;refine⟨_,rfl,m,g,w',rfl,hm.same s2,D.G,fun H3 s3=> ?_⟩;refine⟨_,rfl,_,_,rfl,rfl,.inl ⟨by omega,by omega⟩,_,rfl,_,_,rfl,⟨Int.mul_nonneg tb.1 fr.1,?_⟩,⟨fr.2.1,by omega⟩,fun r hr'=>q r _ (((s1.trans s2).trans s3).trans (aM hr')) aG⟩;have h1:bO g*frTop (cJ cs cl i) (bK cs cl)<=594*frTop (cJ cs cl i) (bK cs cl):=Int.mul_le_mul_of_nonneg_right (by omega) fr.1;show bO g*frTop (cJ cs cl i) (bK cs cl)<_;omega
end
end M52
namespace L2
open PySem PySem.Spec PyProof.Rows
section
end
end L2
namespace L2
open PySem PyProof.Rows
noncomputable def TusAt (H:Hp)(qs:List Addr)(ts:List (List V)):Prop:=Paired (fun q ys=>H q=some (.tup ys)) qs ts
theorem TusAt.same (h:TusAt H qs ts)(s:Same H H'):TusAt H' qs ts:=Paired.mapP h fun _ _ e=>s _ _ e
theorem qE (h1:Paired F l1 m1)(h2:Paired F l2 m2):Paired F (l1++l2) (m1++m2):=by
 induction h1 with
 |nil=>exact h2
 |cons r t ih=>exact .cons r ih
theorem A1o {J:It}{S:Hp->Prop}{l:Addr}{qs:List Addr}{ts:List (List V)}{H0:Hp}{rest:St}{Q:St->Hp->Prop}{te:TE}(f:List V->List V)(W:Wk J (qs.map V.ref) S)(hS:∀H',Same H0 H'->S H')(hC:TusAt H0 qs ts)(hl:H0 l=none)(hz:qs.length<=999)
  (ev:∀q ys H' Q',ys∈ts->H' q=some (.tup ys)->Same H0 H'->(∀t H2,Same H' H2->H2 t=some (.tup (f ys))->Q' (.ref t) H2)->te (some (.ref q)::rest) H' Q')
  (hQ:∀σ H' qs',Same H0 H'->H' l=some (.lst ((qs':List Addr).map V.ref))->TusAt H' qs' (ts.map f)->Q σ H'):
  dI J (cO 0) (cL fX (dL l te)) (eC Q) (none::rest) (upd H0 l (.lst [])):=by
 have hlen:qs.length=ts.length:=Paired.length hC;refine W (fun i σ H'=>(∃x,σ=x::rest)/\Same H0 H'/\∃bs':List Addr,H' l=some (.lst (bs'.map V.ref))/\TusAt H' bs' ((ts.take i).map f)) ⟨⟨_,rfl⟩,aM hl,[],by rw [aG];rfl,.nil⟩ (fun i σ H' _ h=>hS _ h.2.1) ?_ ?_
 ·rintro i x σ H' hx ⟨⟨x0,rfl⟩,hs,bs',hl',hP⟩;rw [getElem?_map]at hx;cases hb:qs[i]? with
  |none=>rw [hb]at hx;cases hx
  |some b=>
   rw [hb]at hx;cases hx;have hi:i<qs.length:=(zjW.mp hb).1;have hc:ts[i]?=some ts[i]:=getElem?_eq_getElem (by omega);have he:H0 b=some (.tup ts[i]):=by
    have:∀{qs:List Addr}{ts:List (List V)}{i:Nat}{b:Addr}{y:List V},TusAt H0 qs ts->qs[i]?=some b->ts[i]?=some y->H0 b=some (.tup y):=by
     intro qs ts i b y h
     induction h generalizing i with
     |nil=>intro z;cases z
     |cons r t ih=>
      cases i with
      |zero=>intro z1 z2;cases z1;cases z2;exact r
      |succ i=>intro z1 z2;exact ih (by simpa using z1) (by simpa using z2)
    exact this hC hb hc
   have et:(ts.take (i+1)).map f=(ts.take i).map f++[f ts[i]]:=by rw [take_succ,hc,map_append];rfl
   have hbl:bs'.length=_:=Paired.length hP;rw [length_map,length_take]at hbl;refine iP ?_;refine ev b ts[i] H' _ (getElem_mem _) (hs _ _ he) hs fun t H2 s2 ht=> ?_;have hl2:=s2 _ _ hl';refine⟨_,hl2,cA (by rw [length_map];omega),⟨_,rfl⟩,fun b2 u e=> ?_,bs'++[t],?_,?_⟩
   ·rw [aV (bG e hl)];exact s2 _ _ (hs _ _ e)
   ·rw [aG,map_append];rfl
   ·rw [et];have up:∀b xs,H2 b=some (.tup xs)->(upd H2 l (.lst (bs'.map V.ref++[.ref t]))) b=some (.tup xs):=fun b xs e=>by rw [aV (fun z=>by rw [z,hl2]at e;cases e)];exact e
    exact Paired.snoc (Paired.mapP (hP.same s2) fun _ _ e=>up _ _ e) (up _ _ ht)
 ·rintro σ H' ⟨_,hs,bs',hl',hP⟩;rw [length_map,hlen,take_of_length_le (zjQ _)]at hP;exact hQ σ H' bs' hs hl' hP
end L2
namespace M52
open PySem L2 PyProof.Rows Grd Wlk Cyc Srt
section
end
end M52
namespace Wlk
open PySem PyProof.Rows Srt Cyc Grd
noncomputable def uE (cs:List Pl):Prop:=cs≠[]/\∀C:List Pl,iL cs C->(∃x∈cs,x∈C)->∀y∈cs,y∈C
open Classical in
noncomputable def sG (cs:List Pl):Bool:=decide (uE cs)
theorem uS (h:iL cs C):iL cs (cs.filter fun x=> !decide (x∈C)):=fun x hx y hy hcs=>by
 have hx':=mem_filter.mp hx;refine mem_filter.mpr ⟨hcs,?_⟩;have hn:x∉C:=by simpa using hx'.2
 have:y∉C:=fun hyC=>hn (h y hyC x (kP hy) hx'.1);simpa using this
theorem A4r (h0:c0∈cs)(h:∀C,iL cs C->c0∈C->∀y∈cs,y∈C):uE cs:=by
 refine⟨fun z=> ?_,fun C hC hx0=> ?_⟩
 ·rw [z]at h0;cases h0
 obtain⟨x,hx,hxC⟩:=hx0;by_cases z:c0∈C
 ·exact h C hC z
 ·have:=h _ (uS hC) (mem_filter.mpr ⟨h0,by simpa using z⟩) x hx;have:=(mem_filter.mp this).2;simp [hxC]at this
open Classical in
theorem tT (hu:cs.Pairwise ltP)(h:xV cs b):b=sG cs:=by
 unfold sG;rcases h with⟨rfl,rfl⟩| ⟨c0,tl,P0,rfl,hP,rfl⟩
 ·exact(zjU fun z=>z.1 rfl).symm
 ·rw [Bool.eq_iff_iff,decide_eq_true_eq,decide_eq_true_eq];constructor
  ·intro e;refine A4r zjR fun C hC h0 y hy=> ?_;by_cases z:y∈C
   ·exact z
   ·have:=hP.min _ (uS hC) ⟨y,by rw [e];exact hy,mem_filter.mpr ⟨hy,by simpa using z⟩⟩;have:=(mem_filter.mp this).2;simp [h0]at this
  ·intro hc;refine A56 hP.up hu fun x=> ⟨fun hx=>hP.sub x hx,fun hx=> ?_⟩;exact hc.2 P0 hP.cl ⟨c0,zjR,hP.st⟩ x hx
noncomputable def xH (met rest:List Pl):List Pl:=rest.filter fun p=>met.any fun o=>fB o p
noncomputable def hstep (mr:List Pl×List Pl):List Pl×List Pl:=(mr.1++xH mr.1 mr.2,mr.2.filter fun p=> !decide (p∈xH mr.1 mr.2))
noncomputable def hit:Nat->List Pl×List Pl->List Pl×List Pl
 |0,mr=>mr
 |n+1,mr=>hstep (hit n mr)
end Wlk
namespace L2
open PySem PyProof.Rows Wlk
theorem lO {α:Type}{R:Hp->Addr->α->Prop}(rx:∀{H H' q a},Ext H H'->R H q a->R H' q a){J:It}{S:Hp->Prop}{l:Addr}{qs:List Addr}{ts:List α}{H0:Hp}{rest:St}{Q:St->Hp->Prop}{tt:TT}(p:α->Bool)(W:Wk J (qs.map V.ref) S)(hS:∀H',Same H0 H'->S H')(hC:Paired (R H0) qs ts)(hl:H0 l=none)(hz:qs.length<=999)
  (tst:∀b c H' Q',c∈ts->R H' b c->Same H0 H'->(∀H2,Same H' H2->Q' (p c) H2)->tt (some (.ref b)::rest) H' Q')
  (hQ:∀σ H' qs',Same H0 H'->H' l=some (.lst ((qs':List Addr).map V.ref))->Paired (R H') qs' (ts.filter p)->Q σ H'):
  dI J (cO 0) (cL tt (dL l (dP 0))) (eC Q) (none::rest) (upd H0 l (.lst [])):=by
 have hlen:qs.length=ts.length:=Paired.length hC;refine W (fun i σ H'=>(∃x,σ=x::rest)/\Same H0 H'/\∃bs':List Addr,H' l=some (.lst (bs'.map V.ref))/\Paired (R H') bs' ((ts.take i).filter p)) ⟨⟨_,rfl⟩,aM hl,[],by rw [aG];rfl,.nil⟩ (fun i σ H' _ h=>hS _ h.2.1) ?_ ?_
 ·rintro i x σ H' hx ⟨⟨x0,rfl⟩,hs,bs',hl',hP⟩;rw [getElem?_map]at hx;cases hb:qs[i]? with
  |none=>rw [hb]at hx;cases hx
  |some b=>
   rw [hb]at hx;cases hx;obtain⟨c,hc,he⟩:=fS hC hb;have hi:i<qs.length:=(zjW.mp hb).1;have et:(ts.take (i+1)).filter p=(ts.take i).filter p++(if p c=true then [c]else []):=by
    rw [take_succ,hc,filter_append]
    congr 1
    by_cases z:p c=true
    ·simp [z]
    ·simp [z]
   have hfl:=length_filter_le p (ts.take i);rw [length_take]at hfl;have hbl:bs'.length=_:=Paired.length hP;refine tst b c H' _ (mem_of_getElem? hc) (rx hs.ext he) hs fun H2 h2=> ?_;have hl2:=h2 _ _ hl';refine dC (fun hz'=> ?_) fun hz'=> ?_
   ·have x2:Ext H2 (upd H2 l (.lst (bs'.map V.ref++[.ref b]))):=Ext.updL hl2;refine⟨_,rfl,_,hl2,cA (by rw [length_map];omega),⟨_,rfl⟩,fun b2 u e=> ?_,bs'++[b],?_,?_⟩
    ·rw [aV (bG e hl)];exact h2 _ _ (hs _ _ e)
    ·rw [aG,map_append];rfl
    ·rw [et,if_pos hz'];exact Paired.snoc (Paired.mapP hP fun _ _ e=>rx x2 (rx h2.ext e)) (rx x2 (rx (hs.ext.trans h2.ext) he))
   ·refine⟨⟨_,rfl⟩,hs.trans h2,bs',hl2,?_⟩;rw [et,if_neg (by rw [hz'];decide),append_nil];exact Paired.mapP hP fun _ _ e=>rx h2.ext e
 ·rintro σ H' ⟨_,hs,bs',hl',hP⟩;rw [length_map,hlen,take_of_length_le (zjQ _)]at hP;exact hQ σ H' bs' hs hl' hP
end L2
namespace M52
open PySem L2 PyProof.Rows Grd Wlk Cyc Srt
theorem SqA.ext (h:SqA H a cs)(e:Ext H H'):SqA H' a cs:=let ⟨ps,h1,h2⟩:=h;⟨ps,e.tup _ _ h1,Paired.mapP h2 fun _ _ z=>e.tup _ _ z⟩
noncomputable def LansAt (H:Hp)(qs:List Addr)(ts:List (List Pl)):Prop:=Paired (fun q cs=>SqA H q cs) qs ts
theorem LansAt.ext (h:LansAt H qs ts)(e:Ext H H'):LansAt H' qs ts:=Paired.mapP h fun _ _ x=>SqA.ext x e
noncomputable def hV (g:bD)(cs:List Pl):Bool:=(cs.any fun c=>decide (c∈(aT pos g).filter (fI g)))&&sG cs
noncomputable def ab (i:Int):Int:=if i<0 then -i else i
noncomputable def gU (g:bD)(cs:List Int)(cl:List C3)(od i:Int)(L:List Pl):Bool:=decide (ab (eX g L*jC g cs cl i - lT g cs cl i)<=od*jC g cs cl i)
noncomputable def A06:Sp:=fun vs H Q _=> ∃t l g w cs ps,vs=[.ref t,.ref l]/\SqA H t cs/\cK g w/\LandOf g cs/\H l=some (.lst ((ps:List Addr).map V.ref))/\PlAt H ps ((aT pos g).filter (fI g))/\∀H',Same H H'->Q (.bl (hV g cs)) H'
section
variable {P:Program}{w:World}{K:W.Frag}{mg:Str->Option Value}{base:Heap}
theorem LandOf.up (h:LandOf g cs):cs.Pairwise ltP:=(lF pos g).sublist h
theorem A93 (F:D1 K mg "is_sound" yI ["land","roadside"])(a1:A1 P w K mg base 1 "has_some_of" xZ)(a2:A1 P w K mg base 3 "is_one_piece" yL):A1 P w K mg base 4 "is_sound" A06:=by
 refine F.k ["land","roadside"] ?_;ac_nf
 ·obtain⟨t,l,g,w',cs,ps,rfl,ht,G,hL,hl,hP,q⟩:=h;have h10:=LandOf.len G hL;refine⟨_,aQ (bA (fQ (a1.c hr (aB (pv 0) (aB (pv 1) aA))) (fP (a2.c hr (aB (pv 0) aA))))),?_⟩;refine⟨_,rfl,_,rfl,t,l,cs,ps,_,rfl,ht,by omega,hl,hP,fun H1 s1=> ⟨_,rfl,dC (fun e=> ?_) fun e=> ?_⟩⟩
  ·refine⟨_,rfl,t,cs,rfl,SqA.ext ht s1.ext,h10,fun b H2 s2 hb=> ?_⟩;have:=q H2 (s1.trans s2);unfold hV at this;rw [e,Bool.true_and,←tT (LandOf.up hL) hb]at this;exact this
  ·have:=q H1 s1;unfold hV at this;rw [e,Bool.false_and]at this;exact this
end
section
variable {P:Program}{w:World}{K:W.Frag}{mg:Str->Option Value}{base:Heap}
theorem iV:bootBuiltins "abs" =some (.builtin "abs"):=by decide +kernel
noncomputable def tZ:Sp:=fun vs H Q _=> ∃p g w cs cl od i l qs Ls,vs=[.ref p,.int i,.ref l]/\PleA H p g w cs cl od/\cG cl i=true/\H l=some (.lst ((qs:List Addr).map V.ref))/\LansAt H qs Ls/\Ls.length<=128/\(∀L∈Ls,LandOf g L)/\∀l' qs' H',H l'=none->Same H H'->H' l'=some (.lst ((qs':List Addr).map V.ref))->LansAt H' qs' (Ls.filter (gU g cs cl od i))->Q (.ref l') H'
theorem A5s {g:bD}{w:Nat}(G:cK g w){c:Pl}(hc:c∈aT pos g):0<=atG g c/\atG g c<=99:=by obtain⟨i,j,xs,x,rfl,hx,hj,hp⟩:=mem_gridF.mp hc;rw [iQ hx hj];exact⟨of_decide_eq_true hp,(G.num xs (mem_of_getElem? hx) x (mem_of_getElem? hj)).2⟩
theorem uX {g:bD}{w:Nat}(G:cK g w){L:List Pl}(h:∀c∈L,c∈aT pos g)(h10:L.length<=10):0<=eX g L/\eX g L<=990:=by
 have hv:∀c∈aT pos g,0<=atG g c/\atG g c<=99:=fun c hc=>A5s G hc;have:0<=eX g L/\eX g L<=99*L.length:=by
  unfold eX;clear h10
  induction L with
  |nil=>exact⟨by simp,by simp⟩
  |cons c L ih=>
   have i:=ih fun d hd=>h d (zjS _ hd);have hc:=hv c (h c zjR);rw [map_cons,sum_cons,length_cons];omega
 omega
noncomputable abbrev nWD:List Str:=["plea","holder","lands","mead","custom","claims","odd","top","bottom"]
theorem B1v:(["land","mead","bottom","top","odd"]:List Str).Nodup:=by decide +kernel
theorem A79 (F:D1 K mg "worth_the_due" qA ["plea","holder","lands"])(T2:dX mg)(a1:A1 P w K mg base 9 "due_of" wD)(a2:A1 P w K mg base 1 "worth_together" A0z):A1 P w K mg base 10 "worth_the_due" tZ:=by
 refine F.k nWD ?_;ac_nf
 ·obtain⟨p,g,w',cs,cl,od,i,l,qs,Ls,rfl,D,hh,hl,hL,h64,hLs,q⟩:=h;obtain⟨m,c,a,hp,hm,hc,ha⟩:=D.ex;refine⟨_,aN (dS (pv 0) (bN rfl (aX (aJ (i:=3) nd rfl (Or.inr rfl)) (aX (nm1 4 nd) (aX (nm1 5 nd) (aX (aJ (i:=6) nd rfl (Or.inr rfl)) bM))))))<|
   aN (dS (a1.c hr (aB (pv 0) (aB (pv 1) aA))) (bN rfl (aX (aJ (i:=7) nd rfl (Or.inr rfl)) (aX (aJ (i:=8) nd rfl (Or.inr rfl)) bM))))<|
   aQ (bA (bJ (bC qA).names nWD ["land"] [("mead",3),("bottom",8),("top",7),("odd",6)] rfl (cU (pv 2)) rfl rfl rfl (by decide +kernel)
    (fun Z=>nm1 0 B1v) (fun Z=>dY (bX iE (bH iR rfl T2.abs iV (dE (bF fJ (bF fO (a2.c hr (aB (pv 1) (aB (pv 0) aA))) (pv 2)) (pv 3)) aA)) (bF fO (pv 4) (pv 2)) (nomark _))) (fun Z=>pv 0))),?_⟩
  refine⟨_,rfl,p,_,rfl,SqT.of hp,rfl,_,_,rfl,_,_,rfl,_,_,rfl,_,_,rfl,rfl,?_⟩;refine⟨_,rfl,_,rfl,p,g,w',cs,cl,od,i,rfl,D,hh,fun t H1 s1 ht=> ?_⟩;refine⟨t,_,rfl,SqT.of ht,rfl,_,_,rfl,_,_,rfl,rfl,?_⟩;have hql:qs.length=_:=Paired.length hL;refine⟨_,rfl,l,rfl,⟨_,SqL.of (s1 _ _ hl)⟩,fun Z lz hlz=> ?_⟩;refine lO (R:=fun H q cs=>SqA H q cs) (fun e h=>SqA.ext h e) (rest:=[some (.ref m),some (.int (jC g cs cl i)),some (.int (lT g cs cl i)),some (.int od)]) (gU g cs cl od i) lA (fun H' hs=>SqL.of (hs _ _ (s1 _ _ hl))) (hL.ext s1.ext) hlz (by omega) (fun b L H' Q' hc hb hs k=> ?_) fun σ H' qs' hs el' hP'=> ?_
  ·have hLL:=hLs L hc;refine⟨_,rfl,_,rfl,m,b,g,w',L,rfl,(hm.same s1).same hs,D.G,hb,hLL,fun H2 s2=> ?_⟩;have wb:=uX D.G (fun c hc=>hLL.subset hc) (LandOf.len D.G hLL);refine⟨_,rfl,_,_,rfl,rfl,.inl ⟨by omega,by omega⟩,_,rfl,_,_,rfl,rfl,_,rfl,_,rfl,_,rfl,_,_,rfl,rfl,.inl ⟨by have:=D.o9;omega,by have:=D.o9;omega⟩,_,_,rfl,rfl,_,rfl,?_⟩;exact k H2 s2
  ·exact q lz qs' H' (s1.free hlz) (s1.trans hs) el' hP'
end
end M52
namespace M52
open PySem L2 PyProof.Rows Grd Wlk Cyc Srt Set4
noncomputable def llS {α:Type}(acc:List (List α))(x:α):List (List α):=acc++acc.map (· ++[x])
noncomputable def llG {α:Type}(xs:List α):List (List α):=xs.foldl llS [[]]
theorem qY (xs:List α)(x:α):llG (xs++[x])=llG xs++(llG xs).map (· ++[x]):=by unfold llG;rw [List.foldl_append];rfl
theorem nD (xs:List α):(llG xs).length=2^xs.length:=by
 have:∀(xs:List α)(acc:List (List α)),(xs.foldl llS acc).length=acc.length*2^xs.length:=by
  intro xs
  induction xs with
  |nil=>intro acc;simp
  |cons x xs ih=>
   intro acc;rw [foldl_cons,ih,llS,length_append,length_map,length_cons,Nat.pow_succ,mul_comm (2^xs.length) 2,←Nat.mul_assoc]
   congr 1
   omega
 have h:=this xs [[]];rw [length_singleton,Nat.one_mul]at h;exact h
theorem A21:∀{ys:List α},ys∈llG xs->ys.length<=xs.length:=by
 have:∀(xs:List α)(acc:List (List α))(n:Nat),(∀ys∈acc,ys.length<=n)->∀ys∈xs.foldl llS acc,ys.length<=n+xs.length:=by
  intro xs
  induction xs with
  |nil=>intro acc n h ys hy;exact h ys hy
  |cons x xs ih=>
   intro acc n h ys hy;have:=ih (llS acc x) (n+1) (fun zs hz=>by
    rcases mem_append.mp hz with z|z
    ·have:=h zs z;omega
    ·obtain⟨y,hy',rfl⟩:=mem_map.mp z;have:=h y hy';rw [length_append,length_singleton];omega) ys hy
   rw [length_cons];omega
 intro ys hy;have:=this xs [[]] 0 (fun ys h=>by rw [mem_singleton.mp h];exact zjQ _) ys hy;omega
theorem A3i (h:TusAt H qs (llG (ps.map V.ref)))(hP:PlAt H ps A):LansAt H qs (llG A):=by
 have em:∀(ps:List Addr)(acc:List (List Addr)),(ps.map V.ref).foldl llS (acc.map (List.map V.ref))=(ps.foldl llS acc).map (List.map V.ref):=by
  intro ps
  induction ps with
  |nil=>intro acc;rfl
  |cons p ps ih=>
   intro acc;rw [map_cons,foldl_cons,foldl_cons,←ih]
   congr 1
   unfold llS;rw [map_append,map_map,map_map]
   congr 1
   refine map_congr_left fun a _=> ?_;show _=List.map V.ref (a++[p]);rw [map_append];rfl
 have ep:∀{ps:List Addr}{A:List Pl},PlAt H ps A->∀{l:List (List Addr)}{m:List (List Pl)},Paired (fun p c=>PlAt H p c) l m->Paired (fun p c=>PlAt H p c) (ps.foldl llS l) (A.foldl llS m):=by
  intro ps A hP
  induction hP with
  |nil=>intro l m h;exact h
  |cons r t ih=>
   intro l m h;refine ih (qE h ?_);clear ih
   induction h with
   |nil=>exact .nil
   |cons r2 t2 ih2=>exact .cons (qE r2 (.cons r .nil)) ih2
 have e0:llG (ps.map V.ref)=(llG ps).map (List.map V.ref):=em ps [[]];rw [e0]at h;have key:∀{qs:List Addr}{l:List (List Addr)}{m:List (List Pl)},TusAt H qs (l.map (List.map V.ref))->Paired (fun p c=>PlAt H p c) l m->LansAt H qs m:=by
  intro qs l m h1 h2
  induction h2 generalizing qs with
  |nil=>cases h1;exact .nil
  |cons r t ih=>
   cases h1 with
   |cons r1 t1=>exact .cons ⟨_,r1,r⟩ (ih t1)
 exact key h (ep hP (.cons .nil .nil))
section
end
noncomputable def iO (cs:List Pl)(d:Pl):Bool:=cs.any fun c=>fB c d
noncomputable def iX (g:bD)(cs:List Pl):Bool:=(aT road g).any (iO cs)
noncomputable def wA:Sp:=fun vs H Q _=> ∃a t g w cs,vs=[.ref a,.ref t]/\GridAt H a g/\cK g w/\SqA H t cs/\cs.length<=10/\∀H',Same H H'->Q (.bl (iX g cs)) H'
section
end
theorem kR:∀(n:Nat){xs ys:List α},xs.length=n->(ys∈llG xs↔ys.Sublist xs)
 |0,xs,ys,h=>by
  have:xs=[]:=eq_nil_of_length_eq_zero h;subst this;rw [sublist_nil];exact mem_singleton
 |n+1,xs,ys,h=>by
  rcases eq_nil_or_concat xs with e| ⟨zs,x,e⟩
  ·rw [e]at h;cases h
  ·rw [concat_eq_append]at e;subst e;rw [length_append,length_singleton]at h;have ih:∀{ys:List α},ys∈llG zs↔ys.Sublist zs:=kR n (by omega);rw [qY,mem_append];constructor
   ·rintro(hz|hz)
    ·exact(ih.mp hz).trans (List.sublist_append_left _ _)
    ·obtain⟨y,hy,rfl⟩:=mem_map.mp hz;exact(ih.mp hy).append (List.Sublist.refl _)
   ·intro hs;obtain⟨l1,l2,rfl,h1,h2⟩:=List.sublist_append_iff.mp hs;cases h2 with
    |cons _ h3=>
     rw [sublist_nil.mp h3,append_nil];exact .inl (ih.mpr h1)
    |cons_cons _ h3=>
     rw [sublist_nil.mp h3];exact .inr (mem_map.mpr ⟨l1,ih.mpr h1,rfl⟩)
noncomputable def dO (g:bD)(cs:List Int)(cl:List C3)(od i:Int)(L:List Pl):Bool:=hV g L&&gU g cs cl od i L
noncomputable def A0k:Sp:=fun vs H Q _=> ∃p g w cs cl od i t L,vs=[.ref p,.int i,.ref t]/\PleA H p g w cs cl od/\cG cl i=true/\SqA H t L/\LandOf g L/\∀H',Same H H'->Q (.bl (dO g cs cl od i L)) H'
section
variable {P:Program}{w:World}{K:W.Frag}{mg:Str->Option Value}{base:Heap}
theorem A4j (hr:Room k A):A.units+3<cLine:=lt_of_le_of_lt (Nat.add_le_add_left (by decide:3<=64) _) hr.units
theorem A84 (F:D1 K mg "is_fit" zZ ["plea","holder","land"])(a1:A1 P w K mg base 4 "is_sound" A06)(a2:A1 P w K mg base 7 "cells_at_road" wJ)(a3:A1 P w K mg base 10 "worth_the_due" tZ):A1 P w K mg base 11 "is_fit" A0k:=by
 refine F.k ["plea","holder","land"] ?_;ac_nf
 ·obtain⟨p,g,w',cs,cl,od,i,t,L,rfl,D,hh,ht,hL,q⟩:=h;obtain⟨m,c,a,hp,hm,hc,ha⟩:=D.ex;refine⟨_,aQ (bA (fQ (a1.c hr (aB (pv 2) (cI (a2.c hr (eF (bI cB (pv 0) aK (fun _ _=>rfl)) aA)) aA))) (fP (eL (A9n (A4j hr)) (a3.c hr (aB (pv 0) (aB (pv 1) (lS (cN (aB (pv 2) aA)) aA)))) (cN (aB (pv 2) aA)) (nomark _))))),?_⟩;refine⟨_,rfl,_,rfl,p,_,0,_,rfl,rfl,SqT.of hp,rfl,m,g,w',rfl,hm,D.G,fun H1 lr pr hlr s1 elr hR=> ?_⟩;refine⟨t,lr,g,w',L,pr,rfl,SqA.ext ht s1.ext,D.G,hL,elr,hR,fun H2 s2=> ⟨_,rfl,dC (fun e=> ?_) fun e=> ?_⟩⟩
  ·have s12:=s1.trans s2;refine⟨_,rfl,_,rfl,_,rfl,by show 1<=sizeLine;decide,fun l1 hl1=> ?_⟩;have u1:=aM (o:=.lst [.ref t]) hl1;refine⟨p,g,w',cs,cl,od,i,l1,[t],[L],rfl,(D.same s12).same u1,hh,aG,.cons (SqA.ext (SqA.ext ht s12.ext) u1.ext) .nil,by show 1<=128;decide,fun M hM=>by rw [mem_singleton.mp hM];exact hL,fun l2 qs H3 hl2 s3 el2 hF=> ?_⟩;refine⟨_,rfl,by show 1<=sizeLine;decide,fun l4 hl4=> ?_⟩;have u4:=aM (o:=.lst [.ref t]) hl4;have s14:=(s12.trans u1).trans (s3.trans u4);refine⟨l2,l4,qs,[t],_,[L],rfl,rfl,u4 _ _ el2,aG,hF.ext u4.ext,.cons (SqA.ext ht s14.ext) .nil,?_⟩;have q':=q _ s14;unfold dO at q';rw [e,Bool.true_and]at q';have e2:decide ([L].filter (gU g cs cl od i)=[L])=gU g cs cl od i L:=by
    cases hd:gU g cs cl od i L with
    |true=>rw [filter_cons_of_pos hd];exact zjV rfl
    |false=>rw [filter_cons_of_neg (by rw [hd];decide)];exact zjU (by simp)
   rw [e2];exact q'
  ·have q':=q H2 (s1.trans s2);unfold dO at q';rw [e,Bool.false_and]at q';exact q'
end
end M52
namespace PySem
open PyProof.Rows
noncomputable abbrev zM1 (h:Heap)(l1:Addr):Heap:=h.push {cls:=.type "list_iterator",data:=.fields #[.ref l1,.int 0 0]}
noncomputable abbrev zM2 (h:Heap)(l1 l2:Addr):Heap:=(zM1 h l1).push {cls:=.type "tuple_iterator",data:=.fields #[.ref l2,.int 0 0]}
noncomputable abbrev zM3 (h:Heap)(l1 l2:Addr):Heap:=(zM2 h l1 l2).push {cls:=.type "tuple",data:=.seq #[.ref h.objs.size,.ref (zM1 h l1).objs.size]}
noncomputable abbrev zM4 (h:Heap)(l1 l2:Addr):Heap:=(zM3 h l1 l2).push {cls:=.type "tuple",data:=.seq #[.none,.none]}
noncomputable abbrev zM5 (h:Heap)(l1 l2:Addr):Heap:=(zM4 h l1 l2).push {cls:=.type "zip",data:=.fields #[.none,.bool false,.bool false,.ref (zM2 h l1 l2).objs.size,.ref (zM3 h l1 l2).objs.size]}
theorem A9d (l1 l2:Addr)(xs ys:Array Value):
  Meets (Builtin.«zip.__new__» ⟨[.type "zip",.ref l1,.ref l2],[]⟩) (fun _ R s=>s.heap.IsList l1 xs/\s.heap.IsTuple l2 ys/\R (.ok (.ret (.ref (zM4 s.heap l1 l2).objs.size))) {s with heap:=zM5 s.heap l1 l2}):=
 .of_wp fun prog w A R s h=>by
  obtain⟨hp,g,d,tk,os⟩:=s;obtain⟨p1,p2,h⟩:=h;have isz:=sub_zip;have q1:Heap.IsList (Shared.heap ⟨hp,g,d,tk,os⟩) l1 xs:=p1;have q2:Heap.IsTuple (Shared.heap ⟨hp.push {cls:=.type "list_iterator",data:=.fields #[.ref l1,.int 0 0]},g,d,tk,os⟩) l2 ys:=let ⟨o,ho,r⟩:=p2;⟨o,zjX _ ho,r⟩
  wp_walk using wpAny_pyIter_list q1,wpAny_pyIter_tuple q2
  exact⟨_,rfl,h⟩
section
theorem A7f (p1:s.heap.IsList l1 xs)(p2:s.heap.IsTuple l2 ys)
  (h:∀h',IsZip h' (s.heap.objs.size+4) (s.heap.objs.size+2) (s.heap.objs.size+3) .none->IsPair h' (s.heap.objs.size+2) (.ref s.heap.objs.size) (.ref (s.heap.objs.size+1))->
   IsPair h' (s.heap.objs.size+3) .none .none->h'.IsListIter s.heap.objs.size l1 0->h'.IsTupleIter (s.heap.objs.size+1) l2 0->h'.objs.size=s.heap.objs.size+5->
   (∀c o,s.heap.get? c=some o->h'.get? c=some o)->Q (.ref (s.heap.objs.size+4)) {s with heap:=h'}):
  wpAny (model prog w) A (call (.type "zip") [.ref l1,.ref l2]) Q E s:=by
 refine callType_new F.called_zip (by decide) (F.typeCall_zip_2 _ _) (F.newCall_zip_2 _ _) (fun obj=>F.args_object_init_3 obj _ _) F.entry_zip_new (A9d l1 l2 xs ys) ⟨p1,p2,?_⟩;have y1:(zM1 s.heap l1).objs.size=s.heap.objs.size+1:=size_push ..;have y2:(zM2 s.heap l1 l2).objs.size=s.heap.objs.size+2:=by rw [size_push,y1]
 have y3:(zM3 s.heap l1 l2).objs.size=s.heap.objs.size+3:=by rw [size_push,y2]
 have y4:(zM4 s.heap l1 l2).objs.size=s.heap.objs.size+4:=by rw [size_push,y3]
 have y5:(zM5 s.heap l1 l2).objs.size=s.heap.objs.size+5:=by rw [size_push,y4]
 have r5:(zM5 s.heap l1 l2).get? (zM4 s.heap l1 l2).objs.size=some _:=get?_push_size _ rfl;have r4:(zM5 s.heap l1 l2).get? (zM3 s.heap l1 l2).objs.size=some _:=zjX _ (get?_push_size _ rfl);have r3:(zM5 s.heap l1 l2).get? (zM2 s.heap l1 l2).objs.size=some _:=zjX _ (zjX _ (get?_push_size _ rfl));have r2:(zM5 s.heap l1 l2).get? (zM1 s.heap l1).objs.size=some _:=zjX _ (zjX _ (zjX _ (get?_push_size _ rfl)));have r1:(zM5 s.heap l1 l2).get? s.heap.objs.size=some _:=zjX _ (zjX _ (zjX _ (zjX _ (get?_push_size _ rfl))));show _/\_;rw [y2,y3,y4]at r5;rw [y1,y2]at r3;rw [y3]at r4;rw [y1]at r2;rw [y4];exact⟨⟨_,r5,rfl⟩,h _ r5 r3 r4 ⟨_,r1,rfl,rfl⟩ ⟨_,r2,rfl,rfl⟩ y5 fun c o x=>zjX _ (zjX _ (zjX _ (zjX _ (zjX _ x))))⟩
end
end PySem
namespace L2
open PySem PySem.Spec PyProof.Rows
noncomputable def A3n (K:W.Frag)(ta:TA):TI:=fun σ H R=>ta σ H fun vs H1=> ∃a b xs ys,vs=[.ref a,.ref b]/\SqL K H1 a xs/\SqT K H1 b ys/\R (Itz (fun H xs=>SqL K H a xs) fun H ys=>SqT K H b ys) H1
section
theorem A1u (hg:Gl X "zip")(hm:X.mg "zip" =none)(ha:PA X [a,b] ta)(hs:starEach [a,b] X.env=[(false,eval a X.env),(false,eval b X.env)]:=by rfl)(hs2:starEach [b] X.env=[(false,eval b X.env)]:=by rfl):
  PI X (.Tuple es x1 tpos) (.Call (.Name "zip" p) [a,b] [] pos) (A3n X.K ta):=by
 intro pins s σ H R I h;refine Call_ (gL I hg hm boot_zip (PyProof.Rows.callWith_type1 (thn (ha pos pins s σ H _ I h) fun us s1 ⟨vs,H1,I1,r1,q1⟩=> ?_) (by rw [hs,hs2]) (by rw [hs2];rfl)));obtain⟨a',b',xs,ys,e,q1,q2,q⟩:=q1;subst e;obtain⟨u,v,rfl,rx,ry⟩:=nU r1;cases rx;cases ry;obtain⟨its,rv,p1⟩:=kL_ok.get I1 q1;obtain⟨jts,rw',p2⟩:=kT_ok.get I1 q2;have l1:=kL_ok.lt p1;have l2:=kT_ok.lt p2;refine A7f p1 p2 fun h' a1 a2 a3 a4 a5 _ a7=> ?_;refine wpAny_pyIter_zip (s:={s1 with heap:=h'}) a1 ?_;have I2:Inv X pins σ H1 {s1 with heap:=h'}:=I1.kept (t':=s1.toks) a7;have far:=qJ s1.heap.objs.size a' b' l1 l2;refine⟨s1.heap.objs.size+4,[s1.heap.objs.size+4,s1.heap.objs.size+2,s1.heap.objs.size+3,s1.heap.objs.size,s1.heap.objs.size+1],_,_,H1,rfl,I2,wR kL_ok kT_ok _ _ _ _ _ a' b' far (ne_of_lt l1) (ne_of_lt (lt_succ_of_lt l2)),⟨a1,a2,⟨_,_,a3⟩,a4,a5⟩,fun c hc'=> ?_,q⟩;have hge:s1.heap.objs.size<=c:=by
  simp only [mem_cons,not_mem_nil,or_false]at hc';rcases hc' with rfl|rfl|rfl|rfl|rfl
  ·exact le_add_right _ 4
  ·exact le_add_right _ 2
  ·exact le_add_right _ 3
  ·exact zjQ _
  ·exact le_succ _
 exact I1.fpOk hge (I1.hok.fresh hge)
end
end L2
namespace M52
open PySem L2 PyProof.Rows Grd Wlk Cyc Srt Set4
noncomputable def bW (g:bD)(ks:List Int)(i:Int):List Pl:=(((aT pos g).zip ks).filter fun z=>decide (z.2=i)).map (·.1)
theorem vX (i:Int)(h:ks.length=(aT pos g).length):LandOf g (bW g ks i):=by have e1:(aT pos g)=((aT pos g).zip ks).map (·.1):=(List.map_fst_zip (by omega)).symm;have:(bW g ks i).Sublist (((aT pos g).zip ks).map (·.1)):=filter_sublist.map _;rw [←e1]at this;exact this
noncomputable def fT (g:bD)(cs:List Int)(cl:List C3)(od:Int)(ks:List Int):Bool:=(aU (bY cl)).all fun h:Nat=>dO g cs cl od (h:Int) (bW g ks (h:Int))
noncomputable def pQ:Sp:=fun vs H Q _=> ∃a t g w ks i,vs=[.ref a,.ref t,.int i]/\GridAt H a g/\cK g w/\H t=some (.tup ((ks:List Int).map V.int))/\ks.length=(aT pos g).length/\∀t' H',Same H H'->SqA H' t' (bW g ks i)->Q (.ref t') H'
structure ParA (H:Hp)(p t:Addr)(g:bD)(w:Nat)(cs:List Int)(cl:List C3)(od:Int)(ks:List Int):Prop where
 D:PleA H p g w cs cl od
 t:H t=some (.tup (ks.map V.int))
 l:ks.length=(aT pos g).length
 h:∀k∈ks,cG cl k=true
theorem ParA.same {H H':Hp}{p t:Addr}{g:bD}{w:Nat}{cs:List Int}{cl:List C3}{od:Int}{ks:List Int}(h:ParA H p t g w cs cl od ks)(s:Same H H'):ParA H' p t g w cs cl od ks:=⟨h.D.same s,s _ _ h.t,h.l,h.h⟩
theorem ParA.l10 {H:Hp}{p t:Addr}{g:bD}{w:Nat}{cs:List Int}{cl:List C3}{od:Int}{ks:List Int}(h:ParA H p t g w cs cl od ks):ks.length<=6:=by rw [h.l,eV];exact h.D.c6
noncomputable def kE:Sp:=fun vs H Q _=> ∃p t g w cs cl od ks,vs=[.ref p,.ref t]/\ParA H p t g w cs cl od ks/\∀H',Same H H'->Q (.bl (fT g cs cl od ks)) H'
noncomputable def vH:Sp:=fun vs H Q _=> ∃p t g w cs cl od ks,vs=[.ref p,.ref t]/\ParA H p t g w cs cl od ks/\fT g cs cl od ks=true/\∀H',Same H H'->Q .non H'
section
variable {P:Program}{w:World}{K:W.Frag}{mg:Str->Option Value}{base:Heap}
theorem zB:(["cell","number","holder"]:List Str).Nodup:=by decide +kernel
theorem A4q (F:D1 K mg "land_within" sLW ["mead","numbers","holder"])(T:Txt mg)(T2:dX mg)(a1:A1 P w K mg base 6 "cells_of" (eP pos)):A1 P w K mg base 7 "land_within" pQ:=by
 refine F.k ["mead","numbers","holder"] ?_;ac_nf
 ·obtain⟨a,n,g,w',ns,i,rfl,hA,G,hn,hl,q⟩:=h;refine⟨_,aQ (bA (fG gF rfl T.tuple boot_tuple (cP (bJ (bC sLW).names ["mead","numbers","holder"] ["cell","number"] [("holder",2)] rfl (A1u rfl T2.zip (cI (a1.c hr (aB (pv 0) aA)) (aB (pv 1) aA))) rfl rfl rfl (by decide +kernel)
   (fun Z=>bN rfl (aX (nm1 0 zB) (aX (nm1 1 zB) bM))) (fun Z=>dY (bX eW (pv 1) (pv 2) (nomark _))) (fun Z=>pv 0)) aA))),?_⟩
  have h10:(aT pos g).length<=10:=by rw [eV];exact G.c10
  refine⟨_,rfl,a,g,w',rfl,hA,G,fun H2 lc ps hlc s2 hlc2 hP=> ?_⟩;have hpl:ps.length=(aT pos g).length:=Paired.length hP;have hn2:=s2 _ _ hn;refine⟨_,rfl,lc,n,_,_,rfl,SqL.of hlc2,SqT.of hn2,fun Z l hl'=> ?_⟩;refine A01 (xs:=ps.map V.ref) (ys:=ns.map V.int) (by rw [length_map,length_map];omega)
   (fun j σ H'=>(∃o0 o1,σ=[o0,o1,some (.int i)])/\Same H2 H'/\∃qs,H' l=some (.lst ((qs:List Addr).map V.ref))/\PlAt H' qs (((((aT pos g).zip ns).take j).filter fun z=>decide (z.2=i)).map (·.1))/\qs.length<=j)
   ⟨⟨_,_,rfl⟩,aM hl',[],by rw [aG];rfl,.nil,zero_le _⟩ (fun j σ H' h=> ⟨SqL.of (h.2.1 _ _ hlc2),SqT.of (h.2.1 _ _ hn2)⟩) ?_ ?_
  ·rintro j x y pz σ H3 hx hy ⟨⟨o0,o1,rfl⟩,hs3,qs,hl3,hq3,hql⟩ hpz;obtain⟨b,hb,rfl⟩:=dW hx;obtain⟨c,hc,he⟩:=hP.at hb;obtain⟨m,hm,rfl⟩:∃m,ns[j]?=some m/\V.int m=y:=by
    rw [getElem?_map]at hy;cases e:ns[j]? with
    |none=>rw [e]at hy;cases hy
    |some m=>rw [e]at hy;exact⟨m,rfl,Option.some.inj hy⟩
   have s4:=aM (o:=.tup [.ref b,.int m]) hpz;have ez:((aT pos g).zip ns)[j]?=some (c,m):=getElem?_zip_eq_some.mpr ⟨hc,hm⟩;have hjl:j<(aT pos g).length:=(zjW.mp hc).1;have et:(((((aT pos g).zip ns).take (j+1)).filter fun z=>decide (z.2=i)).map (·.1))=(((((aT pos g).zip ns).take j).filter fun z=>decide (z.2=i)).map (·.1))++(if m=i then [c]else []):=by
    rw [take_succ,ez,filter_append,map_append]
    congr 1
    by_cases z:m=i
    ·simp [z]
    ·simp only [Option.toList,filter_cons,filter_nil,zjU z,if_neg z];rfl
   rw [et];have hl4:=s4 _ _ hl3;refine⟨pz,_,rfl,SqT.of aG,rfl,_,_,rfl,_,_,rfl,rfl,?_⟩;refine⟨_,rfl,_,rfl,rfl,_,rfl,dR (fun z=> ?_) fun z=> ?_⟩
   ·rw [if_pos (V.int.inj z)];refine⟨_,rfl,_,hl4,cA (by rw [length_map];omega),⟨_,_,rfl⟩,fun b' u e'=> ?_,qs++[b],?_,?_,?_⟩
    ·rw [aV (bG e' hl')];exact s4 _ _ (hs3 _ _ e')
    ·rw [aG,map_append];rfl
    ·exact PlAt.snoc (Paired.mapP hq3 fun _ _ z=>PlA.put hl4 (s4 _ _ z)) (PlA.put hl4 (s4 _ _ (hs3 _ _ he)))
    ·rw [length_append];show _+1<=_;omega
   ·rw [if_neg (fun y=>z (by rw [y])),append_nil];exact⟨⟨_,_,rfl⟩,hs3.trans s4,qs,hl4,hq3.same s4,by omega⟩
  ·rintro σ H3 ⟨⟨o0,o1,rfl⟩,hs3,qs,hl3,hq3,hql⟩;have el:(ns.map V.int).length=((aT pos g).zip ns).length:=by rw [length_map,length_zip];omega
   rw [el,take_of_length_le (zjQ _)]at hq3;refine⟨l,_,rfl,.inl ⟨SqL.of hl3,fun tt htt=> ?_⟩⟩;have s4:=aM (o:=.tup (qs.map V.ref)) htt;exact q tt _ ((s2.trans hs3).trans s4) ⟨qs,aG,hq3.same s4⟩
noncomputable abbrev nPa:List Str:=["plea","thing","mead","custom","claims","odd","many"]
theorem A5d:(["number","claims"]:List Str).Nodup:=by decide +kernel
theorem A9e:(["holder","plea","mead","thing"]:List Str).Nodup:=by decide +kernel
theorem A46 (F:D1 K mg "is_parting" lQ ["plea","thing"])(T:Txt mg)(a1:A1 P w K mg base 6 "check_plea" (jT .non))(a2:A1 P w K mg base 6 "cells_of" (eP pos))(a3:A1 P w K mg base 1 "is_tuple_within" gA)(a4:A1 P w K mg base 2 "is_holder" mB)(a5:A1 P w K mg base 6 "holders_of" sS)(a6:A1 P w K mg base 11 "is_fit" A0k)(a7:A1 P w K mg base 7 "land_within" pQ):A1 P w K mg base 12 "is_parting" kE:=by
 refine F.k nPa ?_;ac_nf
 ·obtain⟨p,t,g,w',cs,cl,od,ks,rfl,B,q⟩:=h;refine⟨_,aN (cF (a1.c hr (aB (pv 0) aA)))<|
   aN (dS (pv 0) (bN rfl (aX (aJ (i:=2) nd rfl (Or.inr rfl)) (aX (nm1 3 nd) (aX (aJ (i:=4) nd rfl (Or.inr rfl)) (aX (nm1 5 nd) bM))))))<|
   aN (bT (i:=6) nd rfl (Or.inl rfl) (bH fE rfl T.len PySem.boot_len (cI (a2.c hr (aB (pv 2) aA)) aA)))<|
   aN (bV (PW.pt (gW (cD (bQ (a3.c hr (aB (pv 1) (aB (pv 6) (aB (pv 6) aA)))))) (jK (cD (bQ (bH (fU rfl) rfl T.all boot_all (cP (bJ (bC lQ).names nPa ["number"] [("claims",4)] rfl (cQ (pv 1)) rfl rfl rfl (by decide +kernel)
    (fun Z=>nm1 0 A5d) (fun Z=>bZ) (fun Z=>a4.c hr (aB (pv 1) (aB (pv 0) aA)))) aA))))))) (aQ (bA eR)) bU)<|
   aQ (bA (bH (fU rfl) rfl T.all boot_all (cP (bJ (bC lQ).names nPa ["holder"] [("plea",0),("mead",2),("thing",1)] rfl (cU (a5.c hr (aB (pv 4) aA))) rfl rfl rfl (by decide +kernel)
    (fun Z=>nm1 0 A9e) (fun Z=>bZ) (fun Z=>a6.c hr (aB (pv 1) (aB (pv 0) (cI (a7.c hr (aB (pv 2) (aB (pv 3) (aB (pv 0) aA)))) aA))))) aA))),?_⟩
  refine⟨_,rfl,p,g,w',cs,cl,od,rfl,B.D,fun H1 s1=> ?_⟩;have B1:=B.same s1;obtain⟨m,c,a,hp,hm,hc,ha⟩:=B1.D.ex;refine⟨_,rfl,p,_,rfl,SqT.of hp,rfl,_,_,rfl,_,_,rfl,_,_,rfl,_,_,rfl,rfl,?_⟩;refine⟨_,rfl,m,g,w',rfl,hm,B.D.G,fun H2 lc pc hlc s2 elc hP=> ?_⟩;refine⟨lc,_,rfl,.inl (SqL.of elc),?_⟩;have hpl:pc.length=(aT pos g).length:=Paired.length hP;have B2:=B1.same s2;have hl6:=B.l10;rw [length_map,hpl,←B.l];have e4:cV H2 ks.length ks.length (.ref t)=true:=by unfold cV;rw [hW B2.t];simp
  have kt:Kn H2 1 (.ref t):=.inr (.inr ⟨_,B2.t,by rw [length_map];omega,fun _ _=>trivial⟩);refine⟨_,rfl,_,rfl,_,rfl,_,_,_,rfl,kt,_,rfl,?_⟩;rw [e4];refine bL ⟨_,rfl,t,rfl,⟨_,SqT.of B2.t⟩,fun Z l hl=> ?_⟩;refine gC (fun x=> .bl (gO cl x)) B2.t hl (by rw [length_map];omega) (fun x H' Q' hm' hs hq=> ?_) fun σ H3 s3 hl3=> ?_
  ·obtain⟨k,hk,rfl⟩:=mem_map.mp hm';exact⟨_,rfl,_,rfl,a,cl,_,rfl,(ha.ext s2.ext).ext hs.ext,B.D.ck.l12,trivial,fun H3 s3=>hq H3 s3⟩
  refine⟨l,ks.map fun k=>gO cl (.int k),rfl,SqL.of (by rw [hl3,map_map,map_map];rfl),_,rfl,?_⟩;have ea:(ks.map fun k=>gO cl (.int k)).all id=true:=by
   rw [all_map,all_eq_true];exact fun k hk=>B.h k hk
  rw [ea];refine bL ?_;have s13:=s2.trans s3;refine⟨_,rfl,a,cl,rfl,ha.ext s13.ext,B.D.ck,fun lh H4 hlh s4 elh=> ?_⟩;have s14:=s13.trans s4;have B4:=B1.same s14;refine⟨lh,rfl,⟨_,SqL.of elh⟩,fun Z r hr'=> ?_⟩;refine dQ (K:=K) (a:=lh) (xs:=(aU (bY cl)).map fun k:Nat=>V.int (k:Int)) (fun j σ H'=>(∃o,σ=[o,some (.ref p),some (.ref m),some (.ref t)])/\Same H4 H'/\H' r=some (.lst (((aU (bY cl)).take j).map fun k:Nat=>V.bl (dO g cs cl od (k:Int) (bW g ks (k:Int))))))
   ⟨⟨_,rfl⟩,aM hr',aG⟩ (fun j σ H' _ h=>SqL.of (h.2.1 _ _ elh)) ?_ ?_
  ·rintro j x σ H' hx ⟨⟨o,rfl⟩,hs,hl'⟩;rw [getElem?_map]at hx;cases hb:(aU (bY cl))[j]? with
   |none=>rw [hb]at hx;cases hx
   |some k=>
    rw [hb]at hx;cases hx;have hk:cG cl (k:Int)=true:=(mem_mem4.mp (mem_of_getElem? hb)).2;have hj:j<(aU (bY cl)).length:=(zjW.mp hb).1;have h4:(aU (bY cl)).length<=4:=by
     unfold aU;have key:∀b0 b1 b2 b3:Bool,(L b0 b1 b2 b3).length<=4:=by decide
     exact key _ _ _ _
    refine iP ?_;refine⟨_,rfl,_,rfl,_,rfl,_,rfl,_,rfl,m,t,g,w',ks,(k:Int),rfl,(hm.same s14).same hs,B.D.G,hs _ _ B4.t,B.l,fun tl H5 s5 hL=> ?_⟩;refine⟨p,g,w',cs,cl,od,(k:Int),tl,_,rfl,(B4.D.same hs).same s5,hk,hL,vX _ B.l,fun H6 s6=> ?_⟩;refine⟨_,s6 _ _ (s5 _ _ hl'),cA (by rw [length_map,length_take];omega),⟨_,rfl⟩,fun b' u e'=> ?_,?_⟩
    ·rw [aV (bG e' hr')];exact s6 _ _ (s5 _ _ (hs _ _ e'))
    ·rw [aG,take_succ,hb,map_append];rfl
  ·rintro σ H' ⟨_,hs,hl'⟩;rw [length_map,take_of_length_le (zjQ _)]at hl';refine⟨r,(aU (bY cl)).map fun k:Nat=>dO g cs cl od (k:Int) (bW g ks (k:Int)),rfl,SqL.of (by rw [hl',map_map];rfl),?_⟩;have e:((aU (bY cl)).map fun k:Nat=>dO g cs cl od (k:Int) (bW g ks (k:Int))).all id=fT g cs cl od ks:=by unfold fT;rw [all_map];rfl
   rw [e];exact q H' ((s1.trans s14).trans hs)
theorem A4a (F:D1 K mg "check_parting" A0r ["plea","parting"])(a1:A1 P w K mg base 12 "is_parting" kE):A1 P w K mg base 13 "check_parting" vH:=by
 refine F.k ["plea","parting"] ?_;ac_nf
 ·obtain⟨p,t,g,w',cs,cl,od,ks,rfl,B,hB,q⟩:=h;refine⟨_,aQ (bV (cD (bQ (a1.c hr (aB (pv 0) (aB (pv 1) aA))))) eY bU),?_⟩;refine⟨_,rfl,_,rfl,p,t,g,w',cs,cl,od,ks,rfl,B,fun H' hs=> ⟨_,rfl,?_⟩⟩;rw [hB];exact bL (q H' hs)
end
end M52
namespace PySem
open Sem (wp)
open AutoSeq1 (wpAny_loadPart')
end PySem
namespace L2
open PySem PySem.Spec PyProof.Rows
section
variable {X:Cx}
theorem A9u {ns:List Int}{its:List Value}(rv:Vals (ns.map V.int) its):∀(i:Nat)(v:Value),its.toArray[i]?=some v->∃t,v=Value.int ((ns[i]?).getD 0) t:=fun i v hP=>by
 have hlen:=rv.length;rw [length_map]at hlen;have hP':its[i]?=some v:=by simpa using hP
 have hi:i<ns.length:=by rw [hlen];exact(zjW.mp hP').1
 obtain⟨u,hu,ru⟩:=rv.get (i:=i) (x:=.int ns[i]) (by rw [getElem?_map];simp [hi]);rw [hP']at hu;cases hu;obtain⟨t,rfl⟩:=ru;exact⟨t,by simp [hi]⟩
theorem A5t (hc:X.calm=true):dZ X (.builtin "min") (fun xs H Q=> ∃(p:Addr)(ns:List Int),xs=[.ref p]/\SqL X.K H p (ns.map V.int)/\0<ns.length/\∀M,M∈ns->(∀a∈ns,M<=a)->Q (.int M) H):=by
 intro pins s σ H xs us Q I r h;obtain⟨p,ns,rfl,hq,hl,q⟩:=h;obtain⟨u,rfl,rx⟩:=eK r;cases rx;obtain⟨its,rv,pl,hz⟩:=I.list hq;have hlen:=rv.length;rw [length_map]at hlen;have pt:=pl.isList;have hlt:p<s.heap.objs.size:=by obtain⟨_,e,_⟩:=pt;exact zjT e
 refine call_min_walk (wpAny_pyIter_list pt ?_);have hv:=A9u rv;refine⟨s.heap.objs.size,[s.heap.objs.size,p],[s.heap.objs.size],its.toArray.size,_,_,_,rfl,Walks.list (A:=X.A.in1) (by simp [I.ok.hd hc]) _ p (ne_of_lt hlt) its.toArray,⟨⟨_,get?_push_size _ rfl,rfl,rfl⟩,pt.push _⟩,fun b hb=> ?_,by rw [size_toArray];omega,CmpOf.ints_lt (fun i=>(ns[i]?).getD 0) hv,fun v h' tk hP hk=> ?_⟩
 ·show b<(s.heap.push _).objs.size;rw [size_push];rcases mem_cons.mp hb with z|z
  ·rw [z];exact lt_succ_self _
  ·rw [mem_singleton.mp z];exact lt_succ_of_lt hlt
 ·obtain⟨b1,b2⟩:=argBest_lt (fun i=>(ns[i]?).getD 0) (its.toArray.size - 1);rw [size_toArray]at b1 b2 hP;obtain⟨t,rfl⟩:=hv _ _ hP;have hbl:argBest (fun i j=>decide ((ns[i]?).getD 0<(ns[j]?).getD 0)) (its.length - 1)<ns.length:=by omega
  refine⟨.int _,H,I.kept (h':=h') (t':=tk) (LSm.kept_iter hk),⟨_,rfl⟩,q _ ?_ fun a ha=> ?_⟩
  ·rw [show(ns[argBest (fun i j=>decide ((ns[i]?).getD 0<(ns[j]?).getD 0)) (its.length - 1)]?).getD 0=ns[argBest (fun i j=>decide ((ns[i]?).getD 0<(ns[j]?).getD 0)) (its.length - 1)] by simp [hbl]];exact getElem_mem _
  ·obtain⟨j,hj,e⟩:=getElem_of_mem ha;have:=b2 j (by omega);have ej:(ns[j]?).getD 0=a:=by simp [hj,e]
   rw [←ej];exact this
end
end L2
namespace M52
open PySem L2 PyProof.Rows Grd Wlk Cyc Srt Set4
structure TxH (mg:Str->Option Value):Prop where
 min:mg "min" =none
 max:mg "max" =none
 far:∃t,mg "FARTHEST_OUT" =some (.int 99 t)
theorem A7j:bootBuiltins "min" =some (.builtin "min"):=by decide +kernel
noncomputable def mn:List Int->Int
 | []=>0
 | [x]=>x
 |x::y::t=>if x<=mn (y::t)then x else mn (y::t)
noncomputable def mx:List Int->Int
 | []=>0
 | [x]=>x
 |x::y::t=>if mx (y::t)<=x then x else mx (y::t)
theorem lW:∀{l:List Int},l≠[]->mn l∈l/\∀a∈l,mn l<=a
 | [],h=>absurd rfl h
 | [x],_=> ⟨zjR,fun a ha=>by rw [mem_singleton.mp ha];exact Int.le_refl _⟩
 |x::y::t,_=>by
  obtain⟨h1,h2⟩:=lW (l:=y::t) (by simp);unfold mn
  split
  ·rename_i h;exact⟨zjR,fun a ha=>by rcases mem_cons.mp ha with e|e;{rw [e];exact Int.le_refl _};{exact Int.le_trans h (h2 a e)}⟩
  ·rename_i h;exact⟨zjS _ h1,fun a ha=>by rcases mem_cons.mp ha with e|e;{rw [e];omega};{exact h2 a e}⟩
theorem A1n (h1:M∈l)(h2:∀a∈l,M<=a):M=mn l:=by obtain⟨k1,k2⟩:=lW (l:=l) (fun z=>by rw [z]at h1;cases h1);exact Int.le_antisymm (h2 _ k1) (k2 _ h1)
noncomputable def gZ (c d:Pl):Int:=ab (c.1 - d.1)+ab (c.2 - d.2)
noncomputable def bP (g:bD)(hs:List Pl)(ks:List Int)(i:Int):Int:=mn ((bW g ks i).map (gZ (hs.getD i.toNat (0,0))))
structure nW (hs:List Pl):Prop where
 l:hs.length=4
 b:∀c∈hs,(-99<=c.1/\c.1<=99)/\-99<=c.2/\c.2<=99
noncomputable def zJ:Sp:=fun vs H Q _=> ∃p c,vs=[.ref p]/\PlA H p c/\((-99<=c.1/\c.1<=99)/\-99<=c.2/\c.2<=99)/\∀H',Same H H'->Q (.bl true) H'
noncomputable def mM (r:V):Sp:=fun vs H Q _=> ∃h hs,vs=[.ref h]/\SqA H h hs/\nW hs/\∀H',Same H H'->Q r H'
noncomputable def vL:Sp:=fun vs H Q _=> ∃p h g w cs cl od hs,vs=[.ref p,.ref h]/\PleA H p g w cs cl od/\SqA H h hs/\nW hs/\∀H',Same H H'->Q .non H'
noncomputable def uF:Sp:=fun vs H Q _=> ∃p q c d,vs=[.ref p,.ref q]/\PlA H p c/\PlA H q d/\Q (.int (gZ c d)) H
noncomputable def oT:Sp:=fun vs H Q _=> ∃a h t g w hs ks i,vs=[.ref a,.ref h,.ref t,.int i]/\GridAt H a g/\cK g w/\SqA H h hs/\hs.length=4/\H t=some (.tup ((ks:List Int).map V.int))/\ks.length=(aT pos g).length/\0<=i/\i<=3/\bW g ks i≠[]/\∀H',Same H H'->Q (.int (bP g hs ks i)) H'
structure PhA (H:Hp)(p h t:Addr)(g:bD)(w:Nat)(cs:List Int)(cl:List C3)(od:Int)(hs:List Pl)(ks:List Int):Prop where
 B:ParA H p t g w cs cl od ks
 b:fT g cs cl od ks=true
 h:SqA H h hs
 o:nW hs
theorem PhA.same {H H':Hp}{p h t:Addr}{g:bD}{w:Nat}{cs:List Int}{cl:List C3}{od:Int}{hs:List Pl}{ks:List Int}(x:PhA H p h t g w cs cl od hs ks)(s:Same H H'):PhA H' p h t g w cs cl od hs ks:=⟨x.B.same s,x.b,SqA.ext x.h s.ext,x.o⟩
theorem PhA.ne {H:Hp}{p h t:Addr}{g:bD}{w:Nat}{cs:List Int}{cl:List C3}{od:Int}{hs:List Pl}{ks:List Int}(x:PhA H p h t g w cs cl od hs ks){i:Int}(hi:cG cl i=true):0<=i/\i<=3/\bW g ks i≠[]:=by obtain⟨c,hc,e⟩:=any_eq_true.mp hi;have e:=of_decide_eq_true e;have hn:=(x.B.D.ck.num c hc).1;refine⟨by omega,by omega,fun z=> ?_⟩;obtain⟨n,rfl⟩:=Int.eq_ofNat_of_zero_le (show 0<=i by omega);have hm:n∈aU (bY cl):=mem_mem4.mpr ⟨by omega,hi⟩;have hb:=x.b;unfold fT at hb;have:=all_eq_true.mp hb n hm;rw [z]at this;unfold dO hV at this;simp at this
noncomputable def lR:Sp:=fun vs H Q _=> ∃p h t g w cs cl od hs ks,vs=[.ref p,.ref h,.ref t]/\PhA H p h t g w cs cl od hs ks/\∀H',Same H H'->Q .non H'
noncomputable def uV:Sp:=fun vs H Q _=> ∃p h t g w cs cl od hs ks i,vs=[.ref p,.ref h,.ref t,.int i]/\PhA H p h t g w cs cl od hs ks/\cG cl i=true/\∀H',Same H H'->Q (.int (bP g hs ks i)) H'
section
variable {P:Program}{w:World}{K:W.Frag}{mg:Str->Option Value}{base:Heap}
theorem A57:(["number"]:List Str).Nodup:=by decide +kernel
theorem B0c (F:D1 K mg "is_house" sW ["thing"])(T:Txt mg)(TH:TxH mg)(a1:A1 P w K mg base 1 "is_tuple_within" gA)(a2:A1 P w K mg base 2 "is_number_within" jS):A1 P w K mg base 3 "is_house" zJ:=by
 obtain⟨tf,mF⟩:=TH.far;refine F.k ["thing"] ?_;ac_nf
 ·obtain⟨p,c,rfl,hp,hb,q⟩:=h;refine⟨_,aN (bV (cD (bQ (a1.c hr (aB (pv 0) (cM aK (cM aK aA)))))) (aQ (bA eR)) bU)<|
   aQ (bA (bH (fU rfl) rfl T.all boot_all (cP (bJ (bC sW).names ["thing"] ["number"] [] rfl (cQ (pv 0)) rfl rfl rfl (by decide +kernel)
    (fun Z=>nm1 0 A57) (fun Z=>bZ) (fun Z=>a2.c hr (aB (pv 0) (oC (jR iY (eD (v:=.int 99) rfl mF ⟨_,rfl⟩)) (aB (eD (v:=.int 99) rfl mF ⟨_,rfl⟩) aA))))) aA))),?_⟩
  have e2:cV H 2 2 (.ref p)=true:=by unfold cV;rw [hW hp];rfl
  have kp:Kn H 1 (.ref p):=.inr (.inr ⟨_,hp,by show 2<=1000;decide,fun _ _=>trivial⟩);refine⟨_,rfl,_,2,2,rfl,kp,_,rfl,?_⟩;rw [e2];refine bL ⟨_,rfl,p,rfl,⟨_,SqT.of hp⟩,fun Z l hl=> ?_⟩;refine gC (fun x=> .bl (dG (-99) 99 x)) hp hl (by show 2<=1000;decide) (fun x H' Q' hm hs hq=> ?_) fun σ H2 s2 hl2=> ?_
  ·refine⟨_,rfl,_,rfl,_,-99,99,rfl,?_,hq _ (Same.refl _)⟩;simp only [mem_cons,not_mem_nil,or_false]at hm;rcases hm with rfl|rfl<;>trivial
  ·refine⟨l,[dG (-99) 99 (.int c.1),dG (-99) 99 (.int c.2)],rfl,SqL.of hl2,?_⟩;have e:[dG (-99) 99 (.int c.1),dG (-99) 99 (.int c.2)].all id=true:=by simp [dG,hb.1.1,hb.1.2,hb.2.1,hb.2.2]
   rw [e];exact q H2 s2
theorem A7s:(["house"]:List Str).Nodup:=by decide +kernel
theorem A49 (F:D1 K mg "are_houses" qM ["thing"])(T:Txt mg)(TC:TxC mg)(a1:A1 P w K mg base 1 "is_tuple_within" gA)(a2:A1 P w K mg base 3 "is_house" zJ):A1 P w K mg base 4 "are_houses" (mM (.bl true)):=by
 obtain⟨th,mH⟩:=TC.holders;refine F.k ["thing"] ?_;ac_nf
 ·obtain⟨h,hs,rfl,⟨bs,hh,hP⟩,O,q⟩:=h;have hl4:bs.length=hs.length:=Paired.length hP;have h4:=O.l;refine⟨_,aQ (bA (fQ (a1.c hr (aB (pv 0) (aB (eD (v:=.int 4) rfl mH ⟨_,rfl⟩) (aB (eD (v:=.int 4) rfl mH ⟨_,rfl⟩) aA)))) (fP (bH (fU rfl) rfl T.all boot_all (cP (bJ (bC qM).names ["thing"] ["house"] [] rfl (cQ (pv 0)) rfl rfl rfl (by decide +kernel)
    (fun Z=>nm1 0 A7s) (fun Z=>bZ) (fun Z=>a2.c hr (aB (pv 0) aA))) aA))))),?_⟩
  have e4:cV H 4 4 (.ref h)=true:=by unfold cV;rw [hW hh];simp [hl4,h4]
  have kp:Kn H 1 (.ref h):=.inr (.inr ⟨_,hh,by rw [length_map];omega,fun _ _=>trivial⟩);refine⟨_,rfl,_,4,4,rfl,kp,_,rfl,?_⟩;rw [e4];refine fR ⟨_,rfl,h,rfl,⟨_,SqT.of hh⟩,fun Z l hl=> ?_⟩;refine gC (fun _=> .bl true) hh hl (by rw [length_map];omega) (fun x H' Q' hm hs' hq=> ?_) fun σ H2 s2 hl2=> ?_
  ·obtain⟨b,hb,rfl⟩:=mem_map.mp hm;obtain⟨j,hj⟩:=mem_iff_getElem?.mp hb;obtain⟨c,hc,he⟩:=hP.at hj;exact⟨_,rfl,b,c,rfl,hs' _ _ he,O.b c (mem_of_getElem? hc),fun H3 s3=>hq H3 s3⟩
  ·refine⟨l,bs.map fun _=>true,rfl,SqL.of (by rw [hl2,map_map,map_map];rfl),?_⟩;have e:(bs.map fun _=>true).all id=true:=by simp
   rw [e];exact q H2 s2
theorem A5p (F:D1 K mg "check_houses" wM ["houses"])(a1:A1 P w K mg base 4 "are_houses" (mM (.bl true))):A1 P w K mg base 5 "check_houses" (mM .non):=by
 refine F.k ["houses"] ?_;ac_nf
 ·obtain⟨h,hs,rfl,hh,O,q⟩:=h;refine⟨_,aQ (bV (cD (bQ (a1.c hr (aB (pv 0) aA)))) eY bU),?_⟩;exact⟨_,rfl,h,hs,rfl,hh,O,fun H1 s1=> ⟨_,rfl,bL (q H1 s1)⟩⟩
theorem A50 (F:D1 K mg "check_plea_and_houses" wZ ["plea","houses"])(a1:A1 P w K mg base 6 "check_plea" (jT .non))(a2:A1 P w K mg base 5 "check_houses" (mM .non)):A1 P w K mg base 7 "check_plea_and_houses" vL:=by
 refine F.k ["plea","houses"] ?_;ac_nf
 ·obtain⟨p,h,g,w',cs,cl,od,hs,rfl,D,hh,O,q⟩:=h;refine⟨_,aN (cF (a1.c hr (aB (pv 0) aA)))<|aQ (cF (a2.c hr (aB (pv 1) aA))),?_⟩;exact⟨_,rfl,p,g,w',cs,cl,od,rfl,D,fun H1 s1=> ⟨_,rfl,h,hs,rfl,SqA.ext hh s1.ext,O,fun H2 s2=>q H2 (s1.trans s2)⟩⟩
theorem A10 (F:D1 K mg "far_between" yN ["place","other"])(T2:dX mg):A1 P w K mg base 1 "far_between" uF:=by
 refine F.k ["place","other"] ?_;ac_nf
 ·obtain⟨p,p2,c,d,rfl,hp,hp2,q⟩:=h;refine⟨_,aQ (bA (bF eO (bH iR rfl T2.abs iV (dE (bF fJ (bI cB (pv 0) aK (fun _ _=>rfl)) (bI cB (pv 1) aK (fun _ _=>rfl))) aA)) (bH iR rfl T2.abs iV (dE (bF fJ (bI cB (pv 0) aK (fun _ _=>rfl)) (bI cB (pv 1) aK (fun _ _=>rfl))) aA)))),?_⟩;refine⟨_,rfl,p,_,0,_,rfl,rfl,SqT.of hp,rfl,_,rfl,p2,_,0,_,rfl,rfl,SqT.of hp2,rfl,_,_,rfl,rfl,_,rfl,?_⟩;exact⟨_,rfl,p,_,1,_,rfl,rfl,SqT.of hp,rfl,_,rfl,p2,_,1,_,rfl,rfl,SqT.of hp2,rfl,_,_,rfl,rfl,_,rfl,_,_,rfl,rfl,q⟩
theorem A9c:(["cell","houses","holder"]:List Str).Nodup:=by decide +kernel
theorem A8i (F:D1 K mg "far_with" sP ["mead","houses","numbers","holder"])(TH:TxH mg)(a1:A1 P w K mg base 7 "land_within" pQ)(a2:A1 P w K mg base 1 "far_between" uF):A1 P w K mg base 8 "far_with" oT:=by
 refine F.k ["mead","houses","numbers","holder"] ?_;ac_nf
 ·obtain⟨a,h,t,g,w',hs,ks,i,rfl,hA,G,hh,h4,ht,hl,i0,i3,hne,q⟩:=h;refine⟨_,aQ (bA (bH (A5t rfl) rfl TH.min A7j (cP (bJ (bC sP).names ["mead","houses","numbers","holder"] ["cell"] [("houses",1),("holder",3)] rfl (cQ (a1.c hr (aB (pv 0) (aB (pv 2) (aB (pv 3) aA))))) rfl rfl rfl (by decide +kernel)
    (fun Z=>nm1 0 A9c) (fun Z=>bZ) (fun Z=>a2.c hr (eF (bI cB (pv 1) (pv 2) (fun _ _=>rfl)) (aB (pv 0) aA)))) aA))),?_⟩
  refine⟨_,rfl,_,rfl,_,rfl,a,t,g,w',ks,i,rfl,hA,G,ht,hl,fun tl H1 s1 hL=> ?_⟩;obtain⟨ps,et,hP⟩:=hL;obtain⟨bs,hb,hB⟩:=SqA.ext hh s1.ext;have hbl:bs.length=hs.length:=Paired.length hB;have hpl:ps.length=(bW g ks i).length:=Paired.length hP;have h10:=LandOf.len G (vX i hl);obtain⟨n,rfl⟩:=Int.eq_ofNat_of_zero_le i0;have hnb:bs[n]?=some (bs[n]'(by omega)):=getElem?_eq_getElem (by omega);obtain⟨hc,ehc,ehb⟩:=hB.at hnb;have eg:hs.getD ((n:Nat):Int).toNat (0,0)=hc:=by rw [Int.toNat_natCast,getD_eq_getElem?_getD,ehc];rfl
  refine⟨tl,rfl,⟨_,SqT.of et⟩,fun Z l hl=> ?_⟩;refine gM (K:=K) (a:=tl) (xs:=ps.map V.ref) (fun j σ H'=>(∃o,σ=[o,some (.ref h),some (.int (n:Int))])/\Same H1 H'/\H' l=some (.lst ((((bW g ks n).take j).map (gZ hc)).map V.int)))
   ⟨⟨_,rfl⟩,aM hl,aG⟩ (fun j σ H' _ h=>SqT.of (h.2.1 _ _ et)) ?_ ?_
  ·rintro j x σ H' hx ⟨⟨o,rfl⟩,hs',hl'⟩;obtain⟨b,hbj,rfl⟩:=dW hx;obtain⟨c,hc',he⟩:=hP.at hbj;have hj:j<(bW g ks n).length:=(zjW.mp hc').1;refine iP ?_;refine⟨_,rfl,_,rfl,h,_,(n:Int),.ref (bs[n]'(by omega)),rfl,rfl,SqT.of (hs' _ _ hb),bR (by rw [getElem?_map,hnb];rfl),_,rfl,_,b,hc,c,rfl,hs' _ _ ehb,hs' _ _ he,?_⟩;refine⟨_,hl',cA (by rw [length_map,length_map,length_take];omega),⟨_,rfl⟩,fun b' u e'=> ?_,?_⟩
   ·rw [aV (bG e' hl)];exact hs' _ _ e'
   ·rw [aG,take_succ,hc',map_append,map_append];rfl
  ·rintro σ H' ⟨_,hs',hl'⟩;rw [length_map,hpl,take_of_length_le (zjQ _)]at hl';refine⟨l,(bW g ks n).map (gZ hc),rfl,SqL.of hl',?_,fun M m1 m2=> ?_⟩
   ·rw [length_map];exact List.length_pos_iff.mpr hne
   ·have e:M=bP g hs ks n:=by unfold bP;rw [eg];exact A1n m1 m2
    rw [e];exact q H' (s1.trans hs')
theorem B1n (F:D1 K mg "check_parted" A1d ["plea","houses","parting"])(a1:A1 P w K mg base 7 "check_plea_and_houses" vL)(a2:A1 P w K mg base 13 "check_parting" vH):A1 P w K mg base 14 "check_parted" lR:=by
 refine F.k ["plea","houses","parting"] ?_;ac_nf
 ·obtain⟨p,h,t,g,w',cs,cl,od,hs,ks,rfl,B,q⟩:=h;refine⟨_,aN (cF (a1.c hr (aB (pv 0) (aB (pv 1) aA))))<|aQ (cF (a2.c hr (aB (pv 0) (aB (pv 2) aA)))),?_⟩;refine⟨_,rfl,_,rfl,p,h,g,w',cs,cl,od,hs,rfl,B.B.D,B.h,B.o,fun H1 s1=> ?_⟩;exact⟨_,rfl,_,rfl,p,t,g,w',cs,cl,od,ks,rfl,B.B.same s1,B.b,fun H2 s2=>q H2 (s1.trans s2)⟩
noncomputable abbrev nFo:List Str:=["plea","houses","parting","holder","mead","custom","claims","odd"]
theorem A3b (F:D1 K mg "far_of" A0b ["plea","houses","parting","holder"])(a1:A1 P w K mg base 14 "check_parted" lR)(a2:A1 P w K mg base 3 "check_holder" kQ)(a3:A1 P w K mg base 8 "far_with" oT):A1 P w K mg base 15 "far_of" uV:=by
 refine F.k nFo ?_;ac_nf
 ·obtain⟨p,h,t,g,w',cs,cl,od,hs,ks,i,rfl,B,hi,q⟩:=h;refine⟨_,aN (cF (a1.c hr (aB (pv 0) (aB (pv 1) (aB (pv 2) aA)))))<|
   aN (dS (pv 0) (bN rfl (aX (nm1 4 nd) (aX (nm1 5 nd) (aX (nm1 6 nd) (aX (nm1 7 nd) bM))))))<|
   aN (cF (a2.c hr (aB (pv 6) (aB (pv 3) aA))))<|
   aQ (bA (a3.c hr (aB (pv 4) (aB (pv 1) (aB (pv 2) (aB (pv 3) aA)))))),?_⟩
  refine⟨_,rfl,_,rfl,_,rfl,p,h,t,g,w',cs,cl,od,hs,ks,rfl,B,fun H1 s1=> ?_⟩;have B1:=B.same s1;obtain⟨m,c,a,hp,hm,hc,ha⟩:=B1.B.D.ex;obtain⟨i0,i3,hne⟩:=B.ne hi;refine⟨_,rfl,p,_,rfl,SqT.of hp,rfl,_,_,rfl,_,_,rfl,_,_,rfl,_,_,rfl,rfl,?_⟩;refine⟨_,rfl,_,rfl,a,cl,i,rfl,ha,B.B.D.ck.l12,hi,fun H2 s2=> ?_⟩;have B2:=B1.same s2;exact⟨_,rfl,_,rfl,_,rfl,_,rfl,m,h,t,g,w',hs,ks,i,rfl,hm.same s2,B.B.D.G,B2.h,B.o.l,B2.B.t,B.B.l,i0,i3,hne,fun H3 s3=>q H3 ((s1.trans s2).trans s3)⟩
end
end M52
namespace Wlk
open PySem PyProof.Rows Srt Cyc Grd L2
theorem Rch.stepN {land R N:List Pl}{s x:Pl}{k:Nat}(h:Rch land s R k)(hx:R[k]?=some x)(hn:N.Nodup)(hm:∀y,y∈N↔y∈beside x/\y∈land/\y∉R):Rch land s (R++N) (k+1):=by
 have hk:k<R.length:=(zjW.mp hx).1;refine⟨fun y hy=> ?_,?_,mem_append_left _ h.st,fun i y hi hy z hz hzl=> ?_,fun C hC y hy hyC=> ?_,by rw [length_append];omega⟩
 ·rcases mem_append.mp hy with e|e
  ·exact h.sub y e
  ·exact((hm y).mp e).2.1
 ·rw [nodup_append];refine⟨h.nd,hn,fun a ha b hb e=> ?_⟩;subst e;exact((hm a).mp hb).2.2 ha
 ·rw [getElem?_append_left (by omega)]at hy;by_cases e:z∈R
  ·exact mem_append_left _ e
  ·rcases lt_or_ge i k with u|u
   ·exact absurd (h.done i y u hy z hz hzl) e
   ·have:i=k:=by omega
    rw [this,hx]at hy;cases hy;exact mem_append_right _ ((hm z).mpr ⟨hz,hzl,e⟩)
 ·rcases mem_append.mp hy with e|e
  ·exact h.min C hC y e hyC
  ·have hxR:=mem_of_getElem? hx;exact h.min C hC x hxR (hC y hyC x (kP ((hm y).mp e).1) (h.sub x hxR))
end Wlk
namespace M52
open PySem L2 PyProof.Rows Grd Wlk Cyc Srt Set4
noncomputable def sL:Sp:=fun vs H Q _=> ∃p q c d,vs=[.ref p,.ref q]/\PlA H p c/\PlA H q d/\Q (.bl (fB c d)) H
noncomputable def zU:Sp:=fun vs H Q _=> ∃t p cs c,vs=[.ref t,.ref p]/\SqA H t cs/\cs.length<=10/\cs.Nodup/\PlA H p c/\c∈cs/\∀t' P H',Same H H'->SqA H' t' P->nB cs c P->Q (.ref t') H'
noncomputable def vR:Sp:=fun vs H Q _=> ∃a t g w ps cs,vs=[.ref a,.ref t]/\GridAt H a g/\cK g w/\(H t=some (.tup ((ps:List Addr).map V.ref))\/H t=some (.lst (ps.map V.ref)))/\PlAt H ps cs/\LandOf g cs/\∀H',Same H H'->Q (.int (eX g cs)) H'
section
variable {P:Program}{w:World}{K:W.Frag}{mg:Str->Option Value}{base:Heap}
theorem B05 (F:D1 K mg "_law_next" vF ["_law_one","_law_other"])(T2:dX mg):A1 P w K mg base 1 "_law_next" sL:=by
 refine F.k ["_law_one","_law_other"] ?_;ac_nf
 ·obtain⟨p,q,c,d,rfl,hp,hq,k⟩:=h;refine⟨_,aQ (bA (eL eW (bF eO (bH iR rfl T2.abs iV (dE (bF fJ (bI cB (pv 0) aK (fun _ _=>rfl)) (bI cB (pv 1) aK (fun _ _=>rfl))) aA)) (bH iR rfl T2.abs iV (dE (bF fJ (bI cB (pv 0) aK (fun _ _=>rfl)) (bI cB (pv 1) aK (fun _ _=>rfl))) aA))) aK (nomark _))),?_⟩;refine⟨_,rfl,p,_,0,_,rfl,rfl,SqT.of hp,bR (j:=0) rfl,_,rfl,q,_,0,_,rfl,rfl,SqT.of hq,bR (j:=0) rfl,_,_,rfl,rfl,_,rfl,?_⟩;refine⟨_,rfl,p,_,1,_,rfl,rfl,SqT.of hp,bR (j:=1) rfl,_,rfl,q,_,1,_,rfl,rfl,SqT.of hq,bR (j:=1) rfl,_,_,rfl,rfl,_,rfl,_,_,rfl,rfl,rfl,?_⟩;have e:decide (V.int ((if c.1 - d.1<0 then -(c.1 - d.1)else c.1 - d.1)+(if c.2 - d.2<0 then -(c.2 - d.2)else c.2 - d.2))=V.int 1)=fB c d:=by
   unfold fB;rw [decide_eq_decide];constructor
   ·intro z;have:=V.int.inj z;split at this<;>split at this<;>omega
   ·intro z;congr 1;split<;>split<;>omega
  rw [e];exact k
noncomputable abbrev nLR:List Str:=["_law_mead","_law_land","_law_row","_law_numbers","_law_column","_law_number","_law_near"]
theorem A8z:(["_law_place","_law_column","_law_row"]:List Str).Nodup:=by decide +kernel
theorem A7q (F:D1 K mg "_law_at_road" pE ["_law_mead","_law_land"])(T:Txt mg)(a1:A1 P w K mg base 1 "_law_next" sL):A1 P w K mg base 2 "_law_at_road" wA:=by
  refine F.k nLR ?_;ac_nf
  · obtain⟨a,t,g,w',cs,rfl,⟨bs,ha,hB⟩,G,⟨ps,ht,hP⟩,h10,q⟩:=h
    refine⟨_,aN (fF PassesOwn.never rfl (gS rfl rfl T.enumerate (aB (pv 0) aA)) (bN rfl (aX (aJ (i:=2) nd rfl (Or.inr rfl)) (aX (nm1 3 nd) bM)))
        (aQ (fF PassesOwn.never rfl (gS rfl rfl T.enumerate (aB (pv 3) aA)) (bN rfl (aX (aJ (i:=4) nd rfl (Or.inr rfl)) (aX (nm1 5 nd) bM)))
          (aN (pX (i:=6) (bC pE).names nLR ["_law_place"] [("_law_column",4),("_law_row",2)] rfl nd rfl rfl (cQ (pv 1)) rfl rfl rfl (by decide +kernel)
            (fun Z=>nm1 0 A8z) (fun Z=>dY (bQ (a1.c hr (aB (pv 0) (jF (dN (aB (pv 2) (aB (pv 1) aA))) aA))))) (fun Z=>pv 0))<|
           aQ (bV (PW.pt (pA (bX eW (pv 5) (jR iY aK) (nomark _)) (rH (bX (sO 1 (cX hr)) (pv 6) (cN aA) (nomark _))))) (aQ (bA eR)) bU)))))<|
      aQ (bA eR),?_⟩
    have hbl:bs.length=g.length:=Paired.length hB;have hpl:ps.length=cs.length:=Paired.length hP;refine⟨_,rfl,a,_,rfl,SqT.of ha,?_⟩;refine jJ (S:=fun H xs=>SqT K H a xs) (xs:=bs.map V.ref) (fun i σ H'=>Same H H'/\(∃o2 o3 o4 o5 o6,σ=[some (.ref a),some (.ref t),o2,o3,o4,o5,o6])/\(aT road (g.take i)).any (iO cs)=false)
      ⟨Same.refl _,⟨_,_,_,_,_,rfl⟩,rfl⟩ (fun i σ H' _ h=>SqT.of (h.1 _ _ ha)) ?_ ?_
    · rintro i x p σ H' hx ⟨hs,⟨o2,o3,o4,o5,o6,rfl⟩,hno⟩ hp
      obtain⟨b,hbi,rfl⟩:=dW hx;have hi:i<g.length:=by rw [←hbl];exact(zjW.mp hbi).1
      obtain⟨xs,hxs⟩:∃xs,g[i]?=some xs:=⟨g[i],getElem?_eq_getElem hi⟩;obtain⟨b',hb',eb⟩:=hB.get hxs;rw [hbi]at hb';cases hb';have u1:=aM (o:=.tup [.int (i:Int),.ref b]) hp;refine⟨p,_,rfl,SqT.of aG,rfl,_,_,rfl,_,_,rfl,rfl,?_⟩;generalize upd H' p (.tup [.int (i:Int),.ref b])=H1 at u1⊢;have s1:=hs.trans u1;refine⟨_,rfl,b,_,rfl,SqT.of (s1 _ _ eb),?_⟩;refine jJ (S:=fun H xs=>SqT K H b xs) (xs:=xs.map V.int) (fun j σ H2=>Same H1 H2/\(∃o4 o5 o6,σ=[some (.ref a),some (.ref t),some (.int (i:Int)),some (.ref b),o4,o5,o6])/\(eJ road i (xs.take j)).any (iO cs)=false)
        ⟨Same.refl _,⟨_,_,_,rfl⟩,rfl⟩ (fun j σ H2 _ h=>SqT.of (h.1 _ _ (s1 _ _ eb))) ?_ ?_
      · rintro j y p2 σ H2 hy ⟨hs2,⟨o4,o5,o6,rfl⟩,hno2⟩ hp2
        rw [getElem?_map]at hy;cases hn:xs[j]? with
        |none=>rw [hn]at hy;cases hy
        |some n=>
          rw [hn]at hy;cases hy;have u2:=aM (o:=.tup [.int (j:Int),.int n]) hp2;refine⟨p2,_,rfl,SqT.of aG,rfl,_,_,rfl,_,_,rfl,rfl,?_⟩;generalize upd H2 p2 (.tup [.int (j:Int),.int n])=H3 at u2⊢;have s3:=(s1.trans hs2).trans u2;refine⟨_,rfl,t,rfl,⟨_,SqT.of (s3 _ _ ht)⟩,fun Z l hl=> ?_⟩;refine lO (R:=fun H q c=>PlA H q c) (fun e h=>e.tup _ _ h) (rest:=[some (.int (j:Int)),some (.int (i:Int))]) (fun c=>fB c ((i:Int),(j:Int))) gH (fun H' hs'=>SqT.of (hs' _ _ (s3 _ _ ht))) (hP.same s3) hl (by omega) (fun b2 c2 H4 Q2 hc2 hb2 hs4 k2=> ?_) fun σ H4 q4 hs4 el4 hP4=> ?_
          · refine⟨_,rfl,_,rfl,_,rfl,by show 2<=sizeLine;decide,fun tp htp=> ?_⟩
            have u4:=aM (o:=.tup [.int (i:Int),.int (j:Int)]) htp;exact⟨b2,tp,c2,((i:Int),(j:Int)),rfl,u4 _ _ hb2,aG,_,rfl,k2 _ u4⟩
          · have et:=rowF_succ road (i:Int) xs j n hn
            have hq4:q4.length=_:=Paired.length hP4;have s4:=hs2.trans (u2.trans hs4);have ed:decide (V.int n=V.int (-1))=road n:=decide_eq_decide.mpr ⟨fun z=>V.int.inj z,fun z=>by rw [z]⟩;refine⟨_,rfl,1,rfl,rfl,_,rfl,?_⟩;rw [ed];refine dC (fun z=> ?_) fun z=> ?_
            · rw [if_pos z]at et
              refine⟨_,rfl,by show 0<=sizeLine;decide,fun l0 hl0=> ?_⟩;have u6:=aM (o:=.lst []) hl0;refine⟨l,l0,_,[],rfl,rfl,u6 _ _ el4,aG,?_⟩;by_cases ze:cs.filter (fun c=>fB c ((i:Int),(j:Int)))=[]
              · right
                rw [ze]at hq4;have:q4=[]:=eq_nil_of_length_eq_zero hq4;subst this;have ea:iO cs ((i:Int),(j:Int))=false:=by
                  unfold iO;rw [List.any_eq_false];intro o ho z;have:o∈cs.filter (fun c=>fB c ((i:Int),(j:Int))):=mem_filter.mpr ⟨ho,z⟩;rw [ze]at this;cases this
                refine⟨[],trivial,_,rfl,bL ⟨s4.trans u6,⟨_,_,_,rfl⟩,?_⟩⟩;rw [et,List.any_append,hno2,any_cons,ea];rfl
              · left
                have ea:iO cs ((i:Int),(j:Int))=true:=by
                  obtain⟨o,os,eo⟩:=exists_cons_of_ne_nil ze;have:o∈cs.filter (fun c=>fB c ((i:Int),(j:Int))):=by rw [eo];exact zjR
                  exact any_eq_true.mpr ⟨o,(mem_filter.mp this).1,(mem_filter.mp this).2⟩
                refine⟨?_,_,rfl,fR ?_⟩
                · rw [length_map,hq4]
                  intro z0;exact ze (eq_nil_of_length_eq_zero z0)
                · have hby:iX g cs=true:=by
                    unfold iX;refine any_eq_true.mpr ⟨((i:Int),(j:Int)),mem_gridF.mpr ⟨i,j,xs,n,rfl,hxs,hn,z⟩,ea⟩
                  have:=q _ (((s1.trans s4)).trans u6);rw [hby]at this;exact this
            · rw [if_neg (by rw [z];decide),append_nil]at et
              exact⟨s4,⟨_,_,_,rfl⟩,by rw [et];exact hno2⟩
      · rintro σ H2 ⟨hs2,⟨o4,o5,o6,rfl⟩,hno2⟩
        rw [length_map,take_of_length_le (zjQ _)]at hno2;refine⟨s1.trans hs2,⟨_,_,_,_,_,rfl⟩,?_⟩;rw [gridF_succ road g i xs hxs,List.any_append,hno,hno2];rfl
    · rintro σ H' ⟨hs,_,hno⟩
      rw [length_map,hbl,take_of_length_le (zjQ _)]at hno;have:=q H' hs;unfold iX at this;rw [hno]at this;exact this
noncomputable abbrev nLC:List Str:=["_law_mead","_law_found","_law_row","_law_numbers"]
theorem A0j:(["_law_column","_law_number","_law_row"]:List Str).Nodup:=by decide +kernel
theorem A1j (F:D1 K mg "_law_cells" rO ["_law_mead"])(T:Txt mg):A1 P w K mg base 1 "_law_cells" (eP pos):=by
 refine F.k nLC ?_;ac_nf
 ·obtain⟨a,g,w',rfl,⟨bs,ha,hG⟩,G,q⟩:=h;refine⟨_,aN (bT (i:=1) nd rfl (Or.inl rfl) (cN aA))<|
   aN (fF PassesOwn.never rfl (gS rfl rfl T.enumerate (aB (pv 0) aA)) (bN rfl (aX (aJ (i:=2) nd rfl (Or.inr rfl)) (aX (nm1 3 nd) bM)))
    (aQ (cF (iK PySem.F.plainAttrs_list PySem.F.slot_list_extend PySem.F.type_list_extend pP (pv 1) (cP (bJ (bC rO).names nLC ["_law_column","_law_number"] [("_law_row",2)] rfl (gS rfl rfl T.enumerate (aB (pv 3) aA)) rfl rfl rfl (by decide +kernel)
     (fun Z=>bN rfl (aX (nm1 0 A0j) (aX (nm1 1 A0j) bM))) (fun Z=>dY (bX rX (pv 1) aK (nomark _))) (fun Z=>dN (aB (pv 2) (aB (pv 0) aA)))) aA)))))<|
   aQ (bA (pv 1)),?_⟩
  refine⟨by show 0<=sizeLine;decide,fun l hl=> ?_⟩;have s0:=aM (o:=.lst []) hl;have hbs:bs.length=g.length:=Paired.length hG;refine⟨_,rfl,a,_,rfl,SqT.of (s0 _ _ ha),?_⟩;refine jJ (xs:=bs.map V.ref) (fun i σ H'=>(∃o2 o3,σ=[some (.ref a),some (.ref l),o2,o3])/\Same H H'/\∃ps,H' l=some (.lst (ps.map V.ref))/\PlAt H' ps (aT pos (g.take i))/\ps.length<=6*i) ⟨⟨_,_,rfl⟩,s0,[],by rw [aG];rfl,.nil,zero_le _⟩ (fun i σ H' _ h=>SqT.of (h.2.1 _ _ ha)) ?_ ?_
  ·rintro i r p σ H' hx ⟨⟨o2,o3,rfl⟩,hs,ps,hl',hP,hn⟩ hp;obtain⟨b,hbi,rfl⟩:∃b,bs[i]?=some b/\V.ref b=r:=by
    rw [getElem?_map]at hx;cases e:bs[i]? with
    |none=>rw [e]at hx;cases hx
    |some b=>rw [e]at hx;exact⟨b,rfl,Option.some.inj hx⟩
   obtain⟨xs,hgi,hb⟩:=hG.row hbi;have hx5:xs.length<=5:=by have:=G.len xs (mem_of_getElem? hgi);have:=G.w5;omega
   have h4:=G.h4;have hi4:i<4:=lt_of_lt_of_le (zjW.mp hgi).1 h4;have s1:Same H' (upd H' p (.tup [.int i,.ref b])):=aM hp;refine⟨p,_,rfl,SqT.of aG,rfl,_,_,rfl,_,_,rfl,rfl,?_⟩;refine⟨_,rfl,.inl ⟨rfl,_,SqL.of (s1 _ _ hl')⟩,_,rfl,b,xs.map V.int,rfl,SqT.of (s1 _ _ (hs _ _ hb)),fun Z l2 hl2=> ?_⟩;have sA:=hs.trans s1;refine jJ (xs:=xs.map V.int) (fun j σ H2=>(∃y1 y2,σ=[y1,y2,some (.int i)])/\Same (upd H' p (.tup [.int i,.ref b])) H2/\∃zs,H2 l2=some (.lst (zs.map V.ref))/\PlAt H2 zs (eJ pos i (xs.take j))/\zs.length<=j) ⟨⟨_,_,rfl⟩,aM hl2,[],by rw [aG];rfl,.nil,zero_le _⟩ (fun j σ H2 _ h=>SqT.of (h.2.1 _ _ (sA _ _ hb))) ?_ ?_
   ·rintro j x p2 σ H2 hxj ⟨⟨y1,y2,rfl⟩,hs2,zs,hl2',hP2,hn2⟩ hp2;obtain⟨z,hzj,rfl⟩:∃z,xs[j]?=some z/\V.int z=x:=by
     rw [getElem?_map]at hxj;cases e:xs[j]? with
     |none=>rw [e]at hxj;cases hxj
     |some z=>rw [e]at hxj;exact⟨z,rfl,Option.some.inj hxj⟩
    have hj:j<5:=lt_of_lt_of_le (zjW.mp hzj).1 hx5;have s2:Same H2 (upd H2 p2 (.tup [.int j,.int z])):=aM hp2;refine⟨p2,_,rfl,SqT.of aG,rfl,_,_,rfl,_,_,rfl,rfl,?_⟩;refine⟨_,rfl,_,_,rfl,rfl,_,rfl,dC (fun e=> ?_) fun e=> ?_⟩
    ·refine⟨_,rfl,_,rfl,(by show 2<=sizeLine;decide),fun q3 hq3=> ?_⟩;have s3:=aM (o:=.tup [.int i,.int j]) hq3;have hlq:l2≠q3:=bG (s2 _ _ hl2') hq3;refine⟨_,s3 _ _ (s2 _ _ hl2'),cA (by rw [length_map];omega),⟨_,_,rfl⟩,fun b' u e'=> ?_,zs++[q3],?_,?_,?_⟩
     ·rw [aV (bG e' hl2)];exact s3 _ _ (s2 _ _ (hs2 _ _ e'))
     ·rw [aG,map_append];rfl
     ·have hne:∀b' u,(upd (upd H2 p2 (.tup [.int j,.int z])) q3 (.tup [.int i,.int j])) b'=some (.tup u)->(upd (upd (upd H2 p2 (.tup [.int j,.int z])) q3 (.tup [.int i,.int j])) l2 (.lst (zs.map V.ref++[.ref q3]))) b'=some (.tup u):=fun b' u e'=>by
       rw [aV (fun z'=> ?_)];exact e';rw [z',aV hlq,s2 _ _ hl2']at e';cases e'
      rw [Grd.rowF_succ pos i xs j _ hzj,if_pos (show pos z=true from e)];exact PlAt.snoc (Paired.mapP ((hP2.same s2).same s3) fun _ _ e'=>hne _ _ e') (hne _ _ aG)
     ·rw [length_append];show zs.length+1<=_;omega
    ·refine⟨⟨_,_,rfl⟩,hs2.trans s2,zs,s2 _ _ hl2',?_,by omega⟩;rw [Grd.rowF_succ pos i xs j _ hzj,if_neg (by rw [show pos z=false from e];decide),append_nil];exact hP2.same s2
   ·rintro σ H2 ⟨⟨y1,y2,rfl⟩,hs2,zs,hl2',hP2,hn2⟩;rw [length_map]at hP2 hn2;rw [take_of_length_le (zjQ _)]at hP2;have hlH2:=hs2 _ _ (s1 _ _ hl');have hll:l2≠l:=fun z=>by rw [z,s1 _ _ hl']at hl2;cases hl2
    refine⟨l,l2,_,_,rfl,rfl,hlH2,hl2',by rw [length_map,length_map,sizeLine_eq];omega,?_⟩;have keepT:∀b' u,H2 b'=some (.tup u)->(upd H2 l (.lst (ps.map V.ref++zs.map V.ref))) b'=some (.tup u):=fun b' u e'=>by
     rw [aV (fun z'=> ?_)];exact e';rw [z',hlH2]at e';cases e'
    refine⟨⟨_,_,rfl⟩,fun b' u e'=> ?_,ps++zs,by rw [aG,map_append],?_,by rw [length_append];omega⟩
    ·rw [aV (bG e' hl)];exact hs2 _ _ (s1 _ _ (hs _ _ e'))
    ·rw [Grd.gridF_succ pos g i _ hgi];have app:∀{as bs:List Addr}{cs ds:List (Int×Int)},PlAt (upd H2 l (.lst (ps.map V.ref++zs.map V.ref))) as cs->PlAt (upd H2 l (.lst (ps.map V.ref++zs.map V.ref))) bs ds->PlAt (upd H2 l (.lst (ps.map V.ref++zs.map V.ref))) (as++bs) (cs++ds):=by
      intro as bs cs ds h1 h2
      induction h1 with
      |nil=>exact h2
      |cons r t ih=>exact .cons r ih
     exact app (Paired.mapP ((hP.same s1).same hs2) fun _ _ e'=>keepT _ _ e') (Paired.mapP hP2 fun _ _ e'=>keepT _ _ e')
  ·rintro σ H' ⟨⟨o2,o3,rfl⟩,hs,ps,hl',hP,_⟩;rw [length_map,hbs,take_of_length_le (zjQ _)]at hP;exact⟨_,rfl,q H' l ps hl hs hl' hP⟩
noncomputable abbrev nLP:List Str:=["_law_land","_law_place","_law_line","_law_at"]
theorem A8h:(["_law_one","_law_line","_law_at"]:List Str).Nodup:=by decide +kernel
theorem A6v (F:D1 K mg "_law_piece" nA ["_law_land","_law_place"])(T:Txt mg)(T2:dX mg)(a1:A1 P w K mg base 1 "_law_next" sL):A1 P w K mg base 2 "_law_piece" zU:=by
  refine F.k nLP ?_;ac_nf
  · obtain⟨t,pa,cs,c,rfl,hT,h10,hnd,hp,hc,q⟩:=h
    refine⟨_,aN (dS (dN (lS (cN (aB (pv 1) aA)) (cM aK aA))) (bN rfl (aX (aJ (i:=2) nd rfl (Or.inr rfl)) (aX (aJ (i:=3) nd rfl (Or.inr rfl)) bM))))<|
      aN (kF PassesOwn.never (bX jG (pv 3) (bH fE rfl T.len PySem.boot_len (aB (pv 2) aA)) (nomark _))
        (aN (cF (iK PySem.F.plainAttrs_list PySem.F.slot_list_extend PySem.F.type_list_extend pP (pv 2) (cP (bJ (bC nA).names nLP ["_law_one"] [("_law_line",2),("_law_at",3)] rfl (cQ (pv 0)) rfl rfl rfl (by decide +kernel)
            (fun Z=>nm1 0 A8h) (fun Z=>dY (PW.pt (pA (bX (xM 1 (cX hr)) (pv 0) (pv 1) rfl) (rH (bQ (a1.c hr (aB (pv 0) (eF (bI dM (pv 1) (pv 2) (fun _ _=>rfl)) aA)))))))) (fun Z=>pv 0)) aA)))<|
         aQ (bT (i:=3) nd rfl (Or.inr rfl) (bF eO (pv 3) aK))))<|
      aQ (bA (fG gF rfl T.tuple boot_tuple (cI (bH zQ rfl T2.sorted boot_sorted (aB (pv 2) aA)) aA))),?_⟩
    obtain⟨ts,ht,hP⟩:=hT;have hts:ts.length=cs.length:=Paired.length hP;refine⟨_,rfl,by show 1<=sizeLine;decide,fun lr hlr=> ?_⟩;have s0:=aM (o:=.lst [.ref pa]) hlr;refine⟨by show 2<=sizeLine;decide,fun tp htp=> ?_⟩;have s00:=aM (o:=.tup [.ref lr,.int 0]) htp;refine⟨tp,_,rfl,SqT.of aG,rfl,_,_,rfl,_,_,rfl,rfl,?_⟩;have sA:=s0.trans s00;refine⟨fun m σ H'=> ∃k qs R,m+k=10/\σ=[some (.ref t),some (.ref pa),some (.ref lr),some (.int (k:Nat))]/\Same H H'/\H' lr=some (.lst ((qs:List Addr).map V.ref))/\PlAt H' qs R/\Rch cs c R k,
      ⟨10,0,[pa],[c],rfl,rfl,sA,s00 _ _ aG,.cons (sA _ _ hp) .nil,Rch.start hc⟩,?_⟩
    rintro m σ H' ⟨k,qs,R,hm,rfl,hs,hlr',hR,rc⟩;have hqR:qs.length=R.length:=Paired.length hR;have hRl:=rc.len;refine⟨_,rfl,_,rfl,lr,_,rfl,.inl (SqL.of hlr'),_,_,rfl,rfl,_,rfl,dR (fun z=> ?_) fun z=> ?_⟩
    · rw [length_map,hqR]at z
      have hk:k<R.length:=by omega
      have hkq:k<qs.length:=by omega
      have hqk:qs[k]?=some (qs[k]):=getElem?_eq_getElem hkq;obtain⟨x,hx,he⟩:=hR.at hqk;have hnn:(nb2 cs R x).Nodup:=hnd.sublist filter_sublist;refine⟨fun σ' H2=> ∃qs',σ'=[some (.ref t),some (.ref pa),some (.ref lr),some (.int ((k+1:Nat):Int))]/\Same H H2/\H2 lr=some (.lst ((qs':List Addr).map V.ref))/\PlAt H2 qs' (R++nb2 cs R x),
        fun σ' H2 ⟨qs',h1,h2,h3,h4⟩=> ⟨m - 1,by omega,k+1,qs',_,by omega,h1,h2,h3,h4,rc.stepN hx hnn fun y=>A9g⟩,?_⟩
      refine⟨_,rfl,.inl ⟨rfl,_,SqL.of hlr'⟩,?_⟩;have ht':=hs _ _ ht;have hP':=hP.same hs;refine⟨_,rfl,t,rfl,⟨_,SqT.of ht'⟩,fun Z ln hln=> ?_⟩;refine gM (K:=K) (a:=t) (xs:=ts.map V.ref) (fun j σ H3=>(∃o,σ=[o,some (.ref lr),some (.int (k:Nat))])/\Same H' H3/\∃ns,H3 ln=some (.lst ((ns:List Addr).map V.ref))/\PlAt H3 ns (nb2 (cs.take j) R x))
        ⟨⟨_,rfl⟩,aM hln,[],by rw [aG];rfl,.nil⟩ (fun j σ H3 _ h=>SqT.of (h.2.1 _ _ ht')) ?_ ?_
      · rintro j y σ H3 hy ⟨⟨o',rfl⟩,hs3,ns,hn,hN⟩
        obtain⟨b,hbj,rfl⟩:=dW hy;obtain⟨d,hd,hbd⟩:=hP'.at hbj;have hj:j<cs.length:=(zjW.mp hd).1;have hbd3:=hs3 _ _ hbd;have hnl:ns.length<=10:=by
          have h1:ns.length=(nb2 (cs.take j) R x).length:=Paired.length hN;have h2:(nb2 (cs.take j) R x).length<=(cs.take j).length:=length_filter_le _ _;rw [length_take]at h2;omega
        have et:nb2 (cs.take (j+1)) R x=nb2 (cs.take j) R x++(if (!decide (d∈R)&&fB d x)=true then [d]else []):=by
          unfold nb2;rw [take_succ,hd,filter_append]
          congr 1
          cases e:(!decide (d∈R)&&fB d x)
          · simp [e]
          · simp [e]
        rw [et];show cL _ _ _ [some (.ref b),some (.ref lr),some (.int (k:Nat))] H3;refine⟨_,rfl,_,rfl,lr,_,_,rfl,.inr (hs3 _ _ hlr'),iW hbd3 (hR.same hs3),_,rfl,?_⟩;rw [qZ];refine dC (fun z1'=> ?_) fun z1'=> ?_
        · have z1:d∉R:=by simpa using z1'
          rw [zjU z1];refine⟨_,rfl,_,rfl,_,rfl,lr,_,_,_,rfl,rfl,SqL.of (hs3 _ _ hlr'),bR (v:=V.ref qs[k]) (by rw [getElem?_map,hqk];rfl),?_⟩;refine⟨b,qs[k],d,x,rfl,hbd3,hs3 _ _ he,_,rfl,?_⟩;refine dC (fun z2=> ?_) fun z2=> ?_
          · rw [if_pos (by rw [z2];rfl)]
            refine⟨_,rfl,_,hn,cA (by rw [length_map];omega),⟨_,rfl⟩,fun b' u e'=> ?_,ns++[b],?_,?_⟩
            · rw [aV (bG e' hln)];exact hs3 _ _ e'
            · rw [aG,map_append];rfl
            · exact PlAt.snoc (Paired.mapP hN fun _ _ z=>PlA.put hn z) (PlA.put hn hbd3)
          · rw [if_neg (by rw [z2];decide),append_nil]
            exact⟨⟨_,rfl⟩,hs3,ns,hn,hN⟩
        · have z1:d∈R:=by simpa using z1'
          rw [if_neg (by rw [zjV z1];simp),append_nil];exact⟨⟨_,rfl⟩,hs3,ns,hn,hN⟩
      · rintro σ H3 ⟨⟨o',rfl⟩,hs3,ns,hn,hN⟩
        rw [length_map,hts,take_of_length_le (zjQ _)]at hN;have hnl:ns.length<=10:=by
          have h1:ns.length=(nb2 cs R x).length:=Paired.length hN;have h2:(nb2 cs R x).length<=cs.length:=length_filter_le _ _;omega
        have hlr3:=hs3 _ _ hlr';refine⟨lr,ln,_,_,rfl,rfl,hlr3,hn,by rw [length_map,length_map,sizeLine_eq];omega,?_⟩;refine⟨_,rfl,_,_,rfl,rfl,⟨qs++ns,rfl,fun b' u e'=> ?_,by rw [aG,map_append],?_⟩⟩
        · rw [aV (bG e' hlr)];exact hs3 _ _ (hs _ _ e')
        · exact yK (Paired.mapP (hR.same hs3) fun _ _ z=>PlA.put hlr3 z) (Paired.mapP hN fun _ _ z=>PlA.put hlr3 z)
    · rw [length_map,hqR]at z
      refine⟨_,rfl,?_⟩;refine A0p (X:=(fH CX0 P w K mg base nLP (Str.ofString "_law_piece") (bC nA) f cdv A outer s H E).nox) (Q:=fun v H1=> ∃p ys,[v]=[V.ref p]/\((SqL K H1 p ys/\∀l,H1 l=none->Q (.ref l) (upd H1 l (.tup ys)))\/(SqT K H1 p ys/\Q (.ref p) H1))) hlr' hR (by omega) fun l9 qs' R' H9 h9 s9 hl9 hR9 pm up=> ?_;refine⟨l9,_,rfl,.inl ⟨SqL.of hl9,fun t' ht'=> ?_⟩⟩;have s10:=aM (o:=.tup (qs'.map V.ref)) ht';exact q t' R' _ ((hs.trans s9).trans s10) ⟨qs',aG,hR9.same s10⟩ (rc.fin (by omega) pm up)
end
end M52
namespace L2
open PySem PyProof.Rows Wlk
theorem A1w {K:PySem.W.Frag}{J:It}{S:Hp->Prop}{l:Addr}{bs:List Addr}{cl:List C3}{te:TE}{tt:TT}{H0:Hp}{rest:St}{Q:St->Hp->Prop}(W:Wk J (bs.map V.ref) S)(hS:∀H',Same H0 H'->S H')(hC:ClP H0 bs cl)(hl:H0 l=none)(hz:bs.length<=999)(p:C3->Bool)(f:C3->V)
  (tst:∀c H' Q',c∈cl->Same H0 H'->Q' (p c) H'->tt (some (.int c.1)::some (.int c.2.1)::some (.int c.2.2)::rest) H' Q')
  (turn:∀c H' Q',c∈cl->Same H0 H'->(∀H2,Same H' H2->Q' (f c) H2)->te (some (.int c.1)::some (.int c.2.1)::some (.int c.2.2)::rest) H' Q')(hQ:∀σ H',Same H0 H'->H' l=some (.lst ((cl.filter p).map f))->Q σ H'):
  dI J (iA K 3 (dU (cO 0) (dU (cO 1) (dU (cO 2) gT)))) (cL tt (dL l te)) (eC Q) (none::none::none::rest) (upd H0 l (.lst [])):=by
 have hlen:bs.length=cl.length:=Paired.length hC;refine W (fun i σ H'=>(∃x y z,σ=x::y::z::rest)/\Same H0 H'/\H' l=some (.lst (((cl.take i).filter p).map f))) ⟨⟨_,_,_,rfl⟩,aM hl,by rw [aG];rfl⟩ (fun i σ H' _ h=>hS _ h.2.1) ?_ ?_
 ·rintro i x σ H' hx ⟨⟨x0,y0,z0,rfl⟩,hs,hl'⟩;rw [getElem?_map]at hx;cases hb:bs[i]? with
  |none=>rw [hb]at hx;cases hx
  |some b=>
   rw [hb]at hx;cases hx;obtain⟨c,hc,he⟩:=hC.get hb;have hi:i<bs.length:=(zjW.mp hb).1;have et:(cl.take (i+1)).filter p=(cl.take i).filter p++(if p c=true then [c]else []):=by
    rw [take_succ,hc,filter_append]
    congr 1
    by_cases z:p c=true
    ·simp [z]
    ·simp [z]
   have hfl:=length_filter_le p (cl.take i);rw [length_take]at hfl;refine⟨b,_,rfl,SqT.of (hs _ _ he),rfl,_,_,rfl,_,_,rfl,_,_,rfl,rfl,?_⟩;refine tst c H' _ (mem_of_getElem? hc) hs ?_;refine dC (fun hz'=> ?_) fun hz'=> ?_
   ·refine turn c H' _ (mem_of_getElem? hc) hs fun H2 h2=> ?_;refine⟨_,h2 _ _ hl',cA (by rw [length_map];omega),⟨_,_,_,rfl⟩,fun b u e=> ?_,?_⟩
    ·rw [aV (bG e hl)];exact h2 _ _ (hs _ _ e)
    ·rw [aG,et,if_pos hz',map_append];rfl
   ·refine⟨⟨_,_,_,rfl⟩,hs,?_⟩;rw [et,if_neg (by rw [hz'];decide),append_nil];exact hl'
 ·rintro σ H' ⟨_,hs,hl'⟩;rw [length_map,hlen,take_of_length_le (zjQ _)]at hl';exact hQ σ H' hs hl'
end L2
namespace M52
open PySem L2 PyProof.Rows Grd Wlk Cyc Srt Set4
theorem zG {g:bD}{L:List Pl}(hin:∀c∈L,c∈aT pos g):iX g L=L.any fun c=>decide (c∈(aT pos g).filter (fI g)):=by
 unfold iX iO fI;rw [Bool.eq_iff_iff,any_eq_true,any_eq_true];constructor
 ·rintro⟨d,hd,h⟩;obtain⟨c,hc,hn⟩:=any_eq_true.mp h;refine⟨c,hc,zjV (mem_filter.mpr ⟨hin c hc,any_eq_true.mpr ⟨d,kP (next_iff.mp hn),zjV hd⟩⟩)⟩
 ·rintro⟨c,hc,h⟩;have h1:=(mem_filter.mp (of_decide_eq_true h)).2;obtain⟨d,hd,he⟩:=any_eq_true.mp h1;exact⟨d,of_decide_eq_true he,any_eq_true.mpr ⟨c,hc,next_iff.mpr (kP hd)⟩⟩
theorem tX:ab x<=k↔ -k<=x/\x<=k:=by
 unfold ab
 split<;>constructor<;>intro h<;>(try constructor)<;>omega
theorem gP {b x y:Int}(hb:1<=b):b*x<=b*y↔x<=y:=
 ⟨fun h=>Int.le_of_mul_le_mul_left h (by omega),fun h=>Int.mul_le_mul_of_nonneg_left h (by omega)⟩
theorem A7n {W b t N D od:Int}(hb:1<=b)(hN:1<=N)(e:t*N=D*b):ab (W*b - t)<=od*b↔ab (W*N - D)<=od*N:=by
 rw [tX,tX];have k1:N*(W*b - t)=b*(W*N - D):=by
  rw [Int.mul_sub,Int.mul_sub,Int.mul_comm N t,e,Int.mul_comm D b]
  congr 1
  rw [←Int.mul_assoc,Int.mul_comm N W,Int.mul_comm (W*N) b]
 have k2:N*(od*b)=b*(od*N):=by rw [←Int.mul_assoc,Int.mul_comm N od,Int.mul_comm (od*N) b]
 have k3:N* -(od*b)=b* -(od*N):=by rw [Int.mul_neg,Int.mul_neg,k2]
 constructor
 ·rintro⟨h1,h2⟩;have h1':=(gP hN).mpr h1;have h2':=(gP hN).mpr h2;rw [k3,k1]at h1';rw [k1,k2]at h2';exact⟨(gP hb).mp h1',(gP hb).mp h2'⟩
 ·rintro⟨h1,h2⟩;have h1':=(gP hb).mpr h1;have h2':=(gP hb).mpr h2;rw [←k3,←k1]at h1';rw [←k1,←k2]at h2';exact⟨(gP hN).mp h1',(gP hN).mp h2'⟩
theorem B1p (hT:0<=bO g)(hC:0<=cJ cs cl i)(hN:1<=bK cs cl):1<=jC g cs cl i/\lT g cs cl i*bK cs cl=(bO g*cJ cs cl i)*jC g cs cl i:=by
 obtain⟨s0,s1,_,_,s4⟩:=oJ hC hN;have hs0:0<=bO g*frTop (cJ cs cl i) (bK cs cl):=Int.mul_nonneg hT s0;obtain⟨d0,d1,_,_,d4⟩:=oJ hs0 s1;refine⟨d1,?_⟩;show frTop (bO g*frTop (cJ cs cl i) (bK cs cl)) (frBot (cJ cs cl i) (bK cs cl))*bK cs cl=bO g*cJ cs cl i*frBot (bO g*frTop (cJ cs cl i) (bK cs cl)) (frBot (cJ cs cl i) (bK cs cl));generalize frTop (cJ cs cl i) (bK cs cl)=sT at*;generalize frBot (cJ cs cl i) (bK cs cl)=sB at*;generalize frTop (bO g*sT) sB=dT at*;generalize frBot (bO g*sT) sB=dB at*;have hne:sB≠0:=by omega
 refine Int.eq_of_mul_eq_mul_left hne ?_
 calc sB*(dT*bK cs cl)=dT*sB*bK cs cl:=by rw [←Int.mul_assoc,Int.mul_comm sB dT]
  _=bO g*sT*dB*bK cs cl:=by rw [d4]
  _=bO g*(sT*bK cs cl)*dB:=by rw [Int.mul_assoc (bO g*sT) dB,Int.mul_comm dB,←Int.mul_assoc,Int.mul_assoc (bO g)]
  _=bO g*(cJ cs cl i*sB)*dB:=by rw [s4]
  _=sB*(bO g*cJ cs cl i*dB):=by rw [←Int.mul_assoc (bO g),Int.mul_comm _ sB,Int.mul_assoc sB]
theorem A3l {g:bD}{cs:List Int}{cl:List C3}{od i:Int}{L:List Pl}(hT:0<=bO g)(hC:0<=cJ cs cl i)(hN:1<=bK cs cl):gU g cs cl od i L= !decide (od*bK cs cl<ab (eX g L*bK cs cl - bO g*cJ cs cl i)):=by obtain⟨h1,h2⟩:=B1p (g:=g) hT hC hN;have:=A7n (W:=eX g L) (od:=od) h1 hN h2;unfold gU;rw [Bool.eq_iff_iff,decide_eq_true_eq,this];simp
theorem A43 (g:bD):eX g (aT pos g)=bO g:=wI g
noncomputable def A0e:Sp:=fun vs H Q _=> ∃p t g w cs cl od i L,vs=[.ref p,.int i,.ref t]/\PleA H p g w cs cl od/\SqA H t L/\LandOf g L/\∀H',Same H H'->Q (.bl (dO g cs cl od i L)) H'
noncomputable def oQ:Sp:=fun vs H Q _=> ∃p g w cs cl od i,vs=[.ref p,.int i]/\PleA H p g w cs cl od/\∀l qs H',H l=none->Same H H'->H' l=some (.lst ((qs:List Addr).map V.ref))->LansAt H' qs ((llG (aT pos g)).filter (dO g cs cl od i))->Q (.ref l) H'
section
variable {P:Program}{w:World}{K:W.Frag}{mg:Str->Option Value}{base:Heap}
theorem vI {K:PySem.W.Frag}{J:It}{S:Hp->Prop}{a l:Addr}{g:bD}{w':Nat}{cs:List Pl}{ps:List Addr}{H:Hp}{Q:VK}(W:Wk J (ps.map V.ref) S)(hS:∀H',Same H H'->S H')(hA:GridAt H a g)(G:cK g w')(hP:PlAt H ps cs)(hL:LandOf g cs)(hl:H l=none)(q:∀H',Same H H'->Q (.int (eX g cs)) H'):
  dI J (iA K 2 (dU (cO 0) (dU (cO 1) gT))) (cL fX (dL l (tOp (iI K) (tOp (iI K) (dP 2) (dP 0)) (dP 1)))) (eC fun _ H'=> ∃(p:Addr)(ns:List Int),[V.ref l]=[.ref p]/\SqL K H' p (ns.map V.int)/\ns.length<=1000/\(∀n∈ns,-1000<=n/\n<=1000)/\Q (.int ns.sum) H') [none,none,some (.ref a)] (upd H l (.lst [])):=by
 have hpl:ps.length=cs.length:=Paired.length hP;have h10:=LandOf.len G hL;refine W (fun i σ H'=>(∃o1 o2,σ=[o1,o2,some (.ref a)])/\Same H H'/\H' l=some (.lst (((cs.take i).map (atG g)).map V.int))) ⟨⟨_,_,rfl⟩,aM hl,by rw [aG];rfl⟩ (fun i σ H' _ h=>hS _ h.2.1) ?_ ?_
 ·rintro i x σ H' hi ⟨⟨o1,o2,rfl⟩,hs,hl'⟩;obtain⟨p,hpi,rfl⟩:=dW hi;obtain⟨cc,hci,hpc⟩:=hP.at hpi;have hil:i<cs.length:=(zjW.mp hci).1;obtain⟨i',j',xs,n,rfl,hg,hx,hf⟩:=mem_gridF.mp (hL.subset (mem_of_getElem? hci));obtain⟨bs,b,h1,h2,h3,h4⟩:=(hA.same hs).ix hg hx;refine⟨p,_,rfl,SqT.of (hs _ _ hpc),rfl,_,_,rfl,_,_,rfl,rfl,?_⟩;refine hZ ?_;refine⟨_,rfl,_,rfl,a,_,_,_,rfl,rfl,SqT.of h1,h2,_,rfl,b,_,_,_,rfl,rfl,SqT.of h3,h4,?_⟩;refine⟨_,hl',cA (by rw [length_map,length_map,length_take];omega),⟨_,_,rfl⟩,fun b' u e'=> ?_,?_⟩
  ·rw [aV (bG e' hl)];exact hs _ _ e'
  ·rw [aG,take_succ,hci,map_append,map_append];show some (HO.lst (_++[V.int n]))=some (HO.lst (_++[V.int (atG g ((i':Int),(j':Int)))]));rw [iQ hg hx]
 ·rintro σ H' ⟨_,hs,hl'⟩;rw [length_map,hpl,take_of_length_le (zjQ _)]at hl';refine⟨l,_,rfl,SqL.of hl',by rw [length_map];omega,fun n hn=> ?_,q H' hs⟩;obtain⟨c,hc,rfl⟩:=mem_map.mp hn;obtain⟨i',j',xs,n,rfl,hg,hx,hf⟩:=mem_gridF.mp (hL.subset hc);rw [iQ hg hx];have:=G.num xs (mem_of_getElem? hg) n (mem_of_getElem? hx);omega
theorem A0i:(["_law_row","_law_column","_law_mead"]:List Str).Nodup:=by decide +kernel
theorem A6u (F:D1 K mg "_law_worth" sY ["_law_mead","_law_land"])(T2:dX mg):A1 P w K mg base 1 "_law_worth" vR:=by
 refine F.k ["_law_mead","_law_land"] ?_;ac_nf
 ·obtain⟨a,t,g,w',ps,cs,rfl,hA,G,ht,hP,hL,q⟩:=h;refine⟨_,aQ (bA (bH (lB rfl) rfl T2.sum boot_sum (cP (bJ (bC sY).names ["_law_mead","_law_land"] ["_law_row","_law_column"] [("_law_mead",0)] rfl (PI.or (cQ (pv 1)) (cU (pv 1))) rfl rfl rfl (by decide +kernel)
    (fun Z=>bN rfl (aX (nm1 0 A0i) (aX (nm1 1 A0i) bM))) (fun Z=>bZ) (fun Z=>bI cB (bI cB (pv 2) (pv 0) (fun _ _=>rfl)) (pv 1) (fun _ _=>rfl))) aA))),?_⟩
  rcases ht with ht|ht
  ·exact .inl ⟨_,rfl,t,rfl,⟨_,SqT.of ht⟩,fun Z l hl=>vI gH (fun H' hs=>SqT.of (hs _ _ ht)) hA G hP hL hl q⟩
  ·exact .inr ⟨_,rfl,t,rfl,⟨_,SqL.of ht⟩,fun Z l hl=>vI lA (fun H' hs=>SqL.of (hs _ _ ht)) hA G hP hL hl q⟩
noncomputable abbrev nFi:List Str:=["_law_plea","_law_holder","_law_land","_law_mead","_law_custom","_law_claims","_law_odd","_law_own","_law_every","_law_total"]
theorem qC:(["_law_who","_law_sort","_law_many","_law_custom","_law_holder"]:List Str).Nodup:=by decide +kernel
theorem rQ:(["_law_who","_law_sort","_law_many","_law_custom"]:List Str).Nodup:=by decide +kernel
theorem B02 (F:D1 K mg "_law_fits" lD ["_law_plea","_law_holder","_law_land"])(TC:TxC mg)(T2:dX mg)(aW:A1 P w K mg base 1 "_law_worth" vR)(aC:A1 P w K mg base 1 "_law_cells" (eP pos))(aR:A1 P w K mg base 2 "_law_at_road" wA)(aP:A1 P w K mg base 2 "_law_piece" zU):A1 P w K mg base 3 "_law_fits" A0e:=by
 refine F.k nFi ?_;ac_nf
 ·obtain⟨p,t,g,w',cs,cl,od,i,L,rfl,D,hT,hL,q⟩:=h;obtain⟨m,c,a,hp,hm,hc,bs,ha,hC⟩:=D.ex;refine⟨_,aN (dS (pv 0) (bN rfl (aX (nm1 3 nd) (aX (aJ (i:=4) nd rfl (Or.inr rfl)) (aX (nm1 5 nd) (aX (nm1 6 nd) bM))))))<|
   aN (bT (i:=7) nd rfl (Or.inl rfl) (bH (rE rfl) rfl TC.sum boot_sum (cP (bJ (bC lD).names nFi ["_law_who","_law_sort","_law_many"] [("_law_custom",4),("_law_holder",1)] rfl (cQ (pv 5)) rfl rfl rfl (by decide +kernel)
    (fun Z=>bN rfl (aX (nm1 0 qC) (aX (nm1 1 qC) (aX (nm1 2 qC) bM)))) (fun Z=>dY (bX eW (pv 0) (pv 4) (nomark _))) (fun Z=>bF fO (bI cB (pv 3) (pv 1) (fun _ _=>rfl)) (pv 2))) aA)))<|
   aN (bT (i:=8) nd rfl (Or.inl rfl) (bH (rE rfl) rfl TC.sum boot_sum (cP (bJ (bC lD).names nFi ["_law_who","_law_sort","_law_many"] [("_law_custom",4)] rfl (cQ (pv 5)) rfl rfl rfl (by decide +kernel)
    (fun Z=>bN rfl (aX (nm1 0 rQ) (aX (nm1 1 rQ) (aX (nm1 2 rQ) bM)))) (fun Z=>bZ) (fun Z=>bF fO (bI cB (pv 3) (pv 1) (fun _ _=>rfl)) (pv 2))) aA)))<|
   aN (bT (i:=9) nd rfl (Or.inl rfl) (aW.c hr (aB (pv 3) (cI (aC.c hr (aB (pv 3) aA)) aA))))<|
   aN (bV (PW.pt (gW (bX (pV (cX hr)) (pv 2) (dN aA) (nomark _)) (jK (bX nI (bH iR rfl T2.abs iV (dE (bF fJ (bF fO (aW.c hr (aB (pv 3) (aB (pv 2) aA))) (pv 8)) (bF fO (pv 9) (pv 7))) aA)) (bF fO (pv 6) (pv 8)) (nomark _))))) (aQ (bA eR)) bU)<|
   aQ (bA (fQ (aR.c hr (aB (pv 3) (aB (pv 2) aA))) (fP (eL (pV (cX hr)) (aP.c hr (aB (pv 2) (eF (bI cB (pv 2) aK (fun _ _=>rfl)) aA))) (pv 2) (nomark _))))),?_⟩
  have hf:=lX D.ck D.un;have h12:=D.ck.l12;have hbl:bs.length=cl.length:=Paired.length hC;have hb:=nZ D.cu D.ck D.un i;have tb:=xN D.G D.c6;have h10:=LandOf.len D.G hL;have wb:=uX D.G (fun c hc=>hL.subset hc) h10;have turn:∀{rest:L2.St}(x:C3)(H':Hp)(Q':VK),x∈cl->Same H H'->(∀H2,Same H' H2->Q' (.int (cw cs x)) H2)->tOp (rI CMul fun i j=> .int (i*j)) (tOp (iI K) (dP 3) (dP 1)) (dP 2) (some (.int x.1)::some (.int x.2.1)::some (.int x.2.2)::some (.ref c)::rest) H' Q':=fun x H' Q' hm hs hq=>by
   have hx:=hf.2 x hm;have hsm:=jB D.cu hx;exact⟨_,rfl,_,rfl,c,_,x.2.1,.int (cs.getD x.2.1.toNat 0),rfl,rfl,SqT.of (hs _ _ hc),kI hx.1 hx.2.1,_,rfl,_,_,rfl,rfl,.inl ⟨by omega,by omega⟩,hq _ (Same.refl _)⟩
  refine⟨_,rfl,p,_,rfl,SqT.of hp,rfl,_,_,rfl,_,_,rfl,_,_,rfl,_,_,rfl,rfl,?_⟩;refine⟨_,rfl,a,rfl,⟨_,SqT.of ha⟩,fun Z l1 hl1=> ?_⟩;refine A1w (rest:=[some (.ref c),some (.int i)]) gH (fun H' hs=>SqT.of (hs _ _ ha)) hC hl1 (by omega) (fun y=>decide (y.1=i)) (fun x=> .int (cw cs x)) (fun y H' Q' _ _ hq=> ?_) turn fun σ H1 s1 hl1'=> ?_
  ·refine⟨_,rfl,_,rfl,rfl,_,rfl,?_⟩;have ed:decide (V.int y.1=V.int i)=decide (y.1=i):=decide_eq_decide.mpr ⟨fun z=>V.int.inj z,fun z=>by rw [z]⟩;rw [ed];exact hq
  refine⟨l1,(ofH cl i).map (cw cs),rfl,SqL.of (by rw [hl1',map_map];rfl),by rw [length_map];have:=(hf.sub i).1;omega,fun n hn=> ?_,?_⟩
  ·obtain⟨x,hx,rfl⟩:=mem_map.mp hn;have:=jB D.cu ((hf.sub i).2 x hx);omega
  have hC1:ClP H1 bs cl:=Paired.mapP hC fun _ _ e=>s1 _ _ e;refine⟨_,rfl,a,rfl,⟨_,SqT.of (s1 _ _ ha)⟩,fun Z l2 hl2=> ?_⟩;refine jV (rest:=[some (.ref c)]) gH (fun H' hs=>SqT.of (hs _ _ (s1 _ _ ha))) hC1 hl2 (by omega) (fun x=> .int (cw cs x)) (fun x H' Q' hm hs hq=>turn x H' Q' hm (s1.trans hs) hq) fun σ H2 s2 hl2'=> ?_;refine⟨l2,cl.map (cw cs),rfl,SqL.of (by rw [hl2',map_map];rfl),by rw [length_map];omega,fun n hn=> ?_,?_⟩
  ·obtain⟨x,hx,rfl⟩:=mem_map.mp hn;have:=jB D.cu (hf.2 x hx);omega
  have s12:=s1.trans s2;refine⟨_,rfl,_,rfl,m,g,w',rfl,hm.same s12,D.G,fun H3 lc pc hlc s3 elc hPc=> ?_⟩;have s13:=s12.trans s3;refine⟨m,lc,g,w',pc,aT pos g,rfl,hm.same s13,D.G,.inr elc,hPc,List.Sublist.refl _,fun H4 s4=> ?_⟩;have s14:=s13.trans s4;rw [A43];obtain⟨pt,ht,hpt⟩:=id hT;refine⟨_,rfl,by show 0<=sizeLine;decide,fun z0 hz0=> ?_⟩;have u0:=aM (o:=.tup []) hz0;have s15:=s14.trans u0;refine⟨t,z0,L,[],rfl,rfl,SqA.ext hT s15.ext,⟨[],aG,.nil⟩,_,rfl,?_⟩;have fin:∀H',Same H H'->dO g cs cl od i L=false->Q (.bl false) H':=fun H' hs e=>by have:=q H' hs;rw [e]at this;exact this
  refine dR (fun e0=> ?_) fun e0=> ?_
  ·refine fin _ s15 ?_;rw [e0];unfold dO hV;rfl
  refine⟨_,rfl,_,rfl,m,t,g,w',pt,L,rfl,hm.same s15,D.G,.inl (s15 _ _ ht),hpt.same s15,hL,fun H6 s6=> ?_⟩;have s16:=s15.trans s6;have hd:=A3l (g:=g) (cs:=cs) (cl:=cl) (od:=od) (i:=i) (L:=L) tb.1 hb.1.1 hb.2.1;refine⟨_,rfl,_,_,rfl,rfl,.inl ⟨by omega,by have:=hb.2;omega⟩,_,rfl,_,rfl,_,_,rfl,rfl,.inl ⟨by omega,by have:=hb.1;omega⟩,_,_,rfl,rfl,_,rfl,_,rfl,_,rfl,_,_,rfl,rfl,.inl ⟨by have:=D.o9;omega,by have:=D.o9;omega⟩,_,_,rfl,rfl,_,rfl,?_⟩;refine dR (fun e1=> ?_) fun e1=> ?_
  ·refine fin _ s16 ?_;unfold dO;rw [hd,zjV (show od*bK cs cl<ab (eX g L*bK cs cl - bO g*cJ cs cl i)from e1)];simp
  ·rw [zjU (show¬od*bK cs cl<ab (eX g L*bK cs cl - bO g*cJ cs cl i)from e1)]at hd;refine⟨_,rfl,_,rfl,m,t,g,w',L,rfl,hm.same s16,D.G,SqA.ext hT s16.ext,h10,fun H7 s7=> ⟨_,rfl,dC (fun e=> ?_) fun e=> ?_⟩⟩
   ·have s17:=s16.trans s7;obtain⟨c0,tl,ec⟩:=exists_cons_of_ne_nil e0;have hnd:L.Nodup:=(LandOf.up hL).imp fun{x y} z e=>by
     have z:HT.lexLt [x.1,x.2] [y.1,y.2]=true:=z;rw [e,iH]at z;cases z
    rw [ec]at hpt;cases hpt with
    |cons r0 t0=>
     rename_i p0 ps0;refine⟨_,rfl,_,rfl,t,_,0,.ref p0,rfl,rfl,SqT.of (s17 _ _ ht),bR (j:=0) rfl,?_⟩;refine⟨t,p0,L,c0,rfl,SqA.ext hT s17.ext,h10,hnd,s17 _ _ r0,by rw [ec];exact zjR,fun t' P0 H8 s8 hP0 pc=> ?_⟩;refine⟨_,rfl,t',t,P0,L,rfl,rfl,hP0,SqA.ext hT (s17.trans s8).ext,?_⟩;have hh:=tT (LandOf.up hL) (b:=decide (P0=L)) (.inr ⟨c0,tl,P0,ec,pc,rfl⟩);have:=q H8 (s17.trans s8);unfold dO hV at this;rw [←zG (fun c hc=>hL.subset hc),e,hd,←hh,Bool.true_and]at this;simpa using this
   ·refine fin _ (s16.trans s7) ?_;unfold dO hV;rw [←zG (fun c hc=>hL.subset hc),e];rfl
end
section
variable {P:Program}{w:World}{K:W.Frag}{mg:Str->Option Value}{base:Heap}
noncomputable abbrev nFL:List Str:=["_law_plea","_law_holder","_law_lands","_law_cell_here"]
theorem A4y:(["_law_land","_law_cell_here"]:List Str).Nodup:=by decide +kernel
theorem A5q:(["_law_land","_law_plea","_law_holder"]:List Str).Nodup:=by decide +kernel
theorem A3r (F:D1 K mg "_law_fit_lands" lE ["_law_plea","_law_holder"])(a1:A1 P w K mg base 1 "_law_cells" (eP pos))(a2:A1 P w K mg base 3 "_law_fits" A0e):A1 P w K mg base 4 "_law_fit_lands" oQ:=by
 refine F.k nFL ?_;ac_nf
 ·obtain⟨p,g,w',cs,cl,od,i,rfl,D,q⟩:=h;obtain⟨m,c,a,hp,hm,hc,ha⟩:=D.ex;have c6:=D.c6;refine⟨_,aN (bT (i:=2) nd rfl (Or.inl rfl) (cN (jF (dN aA) aA)))<|
   aN (fF PassesOwn.never rfl (cU (a1.c hr (eF (bI cB (pv 0) aK (fun _ _=>rfl)) aA))) (aJ (i:=3) nd rfl (Or.inr rfl))
    (aQ (bT (i:=2) nd rfl (Or.inl rfl) (bF nM (pv 2) (bJ (bC lE).names nFL ["_law_land"] [("_law_cell_here",3)] rfl (cU (pv 2)) rfl rfl rfl (by decide +kernel)
     (fun Z=>nm1 0 A4y) (fun Z=>bZ) (fun Z=>bF A4s (pv 0) (dN (aB (pv 1) aA))))))))<|
   aQ (bA (bJ (bC lE).names nFL ["_law_land"] [("_law_plea",0),("_law_holder",1)] rfl (cU (pv 2)) rfl rfl rfl (by decide +kernel)
    (fun Z=>nm1 0 A5q) (fun Z=>dY (bQ (a2.c hr (aB (pv 1) (aB (pv 2) (aB (pv 0) aA)))))) (fun Z=>pv 0))),?_⟩
  refine⟨by show 0<=sizeLine;decide,fun t0 ht0=> ⟨by show 1<=sizeLine;decide,fun l0 hl0=> ?_⟩⟩;have s0:=aM (o:=.tup []) ht0;have s1:=aM (o:=.lst [.ref t0]) hl0;have s01:=s0.trans s1;have el0:(upd (upd H t0 (.tup [])) l0 (.lst [.ref t0])) l0=some (.lst [.ref t0]):=aG;have et0:(upd (upd H t0 (.tup [])) l0 (.lst [.ref t0])) t0=some (.tup []):=s1 _ _ aG;have n0:H l0=none:=s0.free hl0;generalize upd (upd H t0 (.tup [])) l0 (.lst [.ref t0])=H1 at s01 el0 et0⊢;refine⟨_,rfl,p,_,0,_,rfl,rfl,SqT.of (s01 _ _ hp),rfl,m,g,w',rfl,hm.same s01,D.G,fun H2 lc pc hlc s2 elc hP=> ?_⟩;have hpl:pc.length=(aT pos g).length:=Paired.length hP;have h6:pc.length<=6:=by rw [hpl,eV];exact c6
  refine⟨lc,rfl,⟨_,SqL.of elc⟩,?_⟩;refine dQ (K:=K) (a:=lc) (xs:=pc.map V.ref) (fun j σ H'=>Same H2 H'/\∃lt qs o,σ=[some (.ref p),some (.int i),some (.ref lt),o]/\H lt=none/\H' lt=some (.lst ((qs:List Addr).map V.ref))/\TusAt H' qs (llG ((pc.map V.ref).take j)))
   ⟨Same.refl _,l0,[t0],_,rfl,n0,s2 _ _ el0,.cons (s2 _ _ et0) .nil⟩ (fun j σ H' _ h=>SqL.of (h.1 _ _ elc)) ?_ ?_
  ·rintro j x σ H' hx ⟨hs,lt,qs,o,rfl,nlt,elt,hT⟩;have hj:j<pc.length:=by
    have:=(zjW.mp hx).1;rw [length_map]at this;exact this
   have et:(pc.map V.ref).take (j+1)=(pc.map V.ref).take j++[x]:=by rw [take_succ,hx];rfl
   have hql:qs.length=_:=Paired.length hT;have hq64:qs.length<=64:=by
    rw [hql,nD,length_take,length_map];exact le_trans (pow_le_pow_right (by decide) (show min j pc.length<=6 by omega)) (by decide)
   rw [et,qY];show kD _ _ _ [some (.ref p),some (.int i),some (.ref lt),some x] H';refine⟨_,rfl,_,rfl,lt,rfl,⟨_,SqL.of elt⟩,fun Z l hl=> ?_⟩;refine A1o (rest:=[some x]) (fun ys=>ys++[x]) lA (fun H3 s3=>SqL.of (s3 _ _ elt)) hT hl (by omega) (fun qq ys H3 Q' hy hq s3 k=> ?_) fun σ3 H3 qs' s3 hc3 hT3=> ?_
   ·refine⟨_,rfl,_,rfl,by show 1<=sizeLine;decide,fun tx htx=> ?_⟩;have v1:=aM (o:=.tup [x]) htx;refine⟨qq,tx,_,_,rfl,rfl,v1 _ _ hq,aG,?_,fun c H5 s5 e5=>k c H5 (v1.trans s5) e5⟩;have:=A21 hy;rw [length_take,length_map]at this;rw [sizeLine_eq];show _+1<=_;omega
   ·have hq3:qs'.length=_:=Paired.length hT3;rw [length_map]at hq3;refine⟨lt,l,_,_,rfl,rfl,s3 _ _ elt,hc3,?_,fun la hla=> ?_⟩
    ·rw [length_map,length_map,sizeLine_eq];omega
    have v1:=aM (o:=.lst (qs.map V.ref++qs'.map V.ref)) hla;refine⟨(hs.trans s3).trans v1,la,qs++qs',_,rfl,?_,?_,?_⟩
    ·exact((s01.trans s2).trans (hs.trans s3)).free hla
    ·rw [aG,map_append]
    ·exact qE ((hT.same s3).same v1) (hT3.same v1)
  ·rintro σ H' ⟨hs,lt,qs,o,rfl,nlt,elt,hT⟩;rw [take_of_length_le (zjQ _)]at hT;have hL:=A3i hT (hP.same hs);have hql:qs.length=_:=Paired.length hL;have h64:qs.length<=64:=by
    rw [hql,nD,eV];exact le_trans (pow_le_pow_right (by decide) c6) (by decide)
   have sA:=(s01.trans s2).trans hs;refine⟨_,rfl,lt,rfl,⟨_,SqL.of elt⟩,fun Z l hl=> ?_⟩;refine lO (R:=fun H q cs=>SqA H q cs) (fun e h=>SqA.ext h e) (rest:=[some (.ref p),some (.int i)]) (dO g cs cl od i) lA (fun H' hs=>SqL.of (hs _ _ elt)) hL hl (by omega) (fun b L H3 Q' hc hb hs3 k=> ?_) fun σ H3 qs' hs3 el' hP'=> ?_
   ·exact⟨_,rfl,_,rfl,_,rfl,p,b,g,w',cs,cl,od,i,L,rfl,(D.same sA).same hs3,hb,(kR _ rfl).mp hc,fun H4 s4=> ⟨_,rfl,k H4 s4⟩⟩
   ·exact q l qs' H3 (sA.free hl) (sA.trans hs3) el' hP'
end
end M52
namespace PySem
open PyProof.Rows
section
variable {prog:Program}{w:World}{K:Type} [DecidableEq K]{knd:KeyKind prog w K}{A:Around}{E:Value->Shared->Prop}{s:Shared}
theorem A9h {l:List Int}(h:l.Nodup)(a:Int):(l.filter (fun y=>y==a)).length<=1:=by
 have n:=h.sublist (filter_sublist (p:=fun y=>y==a) (l:=l));have m:∀x∈l.filter (fun y=>y==a),x=a:=fun x hx=>by simpa using (mem_filter.mp hx).2
 generalize l.filter (fun y=>y==a)=k at n m
 match k,n,m with
 | [],_,_=>simp
 | [x],_,_=>simp
 |x::y::t,n,m=>
  have hx:=m x zjR;have hy:=m y (zjS _ zjR);rw [hx,hy]at n;exact absurd zjR (nodup_cons.mp n).1
theorem A36 {id:String}{d:Addr}{o:Obj}{es ep}{xs:List (List K×Addr×Value)}{Q:Array DictEntry->Shared->Prop}(ho:s.heap.get? d=some o)(hd:o.data= .dict es ep)(he:es.toList=xs.map (entryOfKey (tupleKind knd)))(hk:∀x∈xs,IsTupleKey knd s.heap x.1 x.2.1)
  (hh:(xs.map fun x=>tupleKeyHash knd x.1).Nodup)(h:Q es s):wpAny (model prog w) A (Builtin.Dict.entriesForEmpty id d) Q E s:=by
 unfold Builtin.Dict.entriesForEmpty;refine zjZ (wpAny_dictEntries ho hd ?_);refine zjZ (wpAny_mono (MeetsSeq2.wpAny_forIn_array _ (fun rest _ s'=>s'=s/\∀e∈rest,e∈es.toList) (fun _ s'=>s'=s) ?_ (fun b s' q=>q.1) es _ ⟨rfl,fun e he=>he⟩) ?_ fun _ _ e=>e)
 ·rintro e rest b s' ⟨rfl,hm⟩;have hme:=hm e zjR;rw [he]at hme;obtain⟨x,hx,rfl⟩:=mem_map.mp hme;have hT:=(hk x hx).typeIs;show wpAny _ _ (Builtin.Dict.quietEq (.ref x.2.1)>>=_) _ _ _;unfold Builtin.Dict.quietEq;refine zjZ (zjZ (wpAny_specialOf hT F.slot_tuple_eq.lookup (zjY ?_)));have hone:¬(es.filter (fun y=>y.hash==(entryOfKey (tupleKind knd) x).hash)).size>1:=by
   have e1:(es.filter (fun y=>y.hash==(entryOfKey (tupleKind knd) x).hash)).size=((xs.map fun x=>tupleKeyHash knd x.1).filter (fun y=>y==tupleKeyHash knd x.1)).length:=by
    rw [←Array.length_toList,Array.toList_filter,he,filter_map,length_map,filter_map,length_map];rfl
   rw [e1];have e2:((xs.map fun x=>tupleKeyHash knd x.1).filter (fun y=>y==tupleKeyHash knd x.1)).length<=1:=by
    exact A9h hh _
   omega
  split
  ·exact zjY ⟨rfl,fun e he=>hm e (zjS _ he)⟩
  ·exact zjY ⟨rfl,fun e he=>hm e (zjS _ he)⟩
 ·rintro b s' rfl;exact zjY h
theorem A71 {o:Addr}{xs:List (List K×Addr×Value)}{Q:Value->Shared->Prop}(hoS:(o==sysModules)=false)(ho:s.heap.DictOfH (tupleKind knd) o xs)(hsz:xs.length<=sizeLine)(hh:(xs.map fun x=>tupleKeyHash knd x.1).Nodup)
  (h:∀h',h'.DictOfH (tupleKind knd) s.heap.objs.size xs->Heap.SameBut s.heap.objs.size (s.heap.push {cls:=.type "dict",data:=.dict #[]}) h'->Q (.ref s.heap.objs.size) {s with heap:=h'}):
  wpAny (model prog w) A (call (.type "dict") [.ref o]) Q E s:=by
 refine callType_codes (Q₁:=fun obj s₁=>obj= .ref s.heap.objs.size/\s₁={s with heap:=s.heap.push {cls:=.type "dict",data:=.dict #[]}}) F.kt_called_dict (F.kt_typeCall_dict_1 _) F.entry_dict_init (kt_code_dict_new _ ⟨rfl,rfl⟩) ?_;rintro obj s₁ ⟨rfl,rfl⟩;obtain⟨oo,eso,epo,hoo,hco,hdo',heo,hko,hno⟩:=ho;have hnew:(s.heap.push {cls:=.type "dict",data:=.dict #[]}).DictOfH (tupleKind knd) s.heap.objs.size []:=Heap.DictOfH.new s.heap;have hoo':=zjX (h:=s.heap) {cls:=.type "dict",data:=.dict #[]} hoo;have hdo:s.heap.objs.size≠o:=fun e=>absurd (zjT hoo) (by rw [e];exact lt_irrefl _);have hTo:Shared.TypeIs {s with heap:=s.heap.push {cls:=.type "dict",data:=.dict #[]}} (.ref o) "dict":=⟨oo,hoo',hco.1⟩;have hkp:∀x∈xs,IsTupleKey knd (s.heap.push {cls:=.type "dict",data:=.dict #[]}) x.1 x.2.1:=fun x hx=>by
  obtain⟨oq,it,n,h1,h2,h3,h4⟩:=hko x hx;exact⟨oq,it,n,zjX _ h1,h2,h3,h4⟩
 refine⟨hnew.typeIs,F.args_dict_init_2 _ _,?_⟩;unfold Builtin.«dict.__init__»;refine zjZ ?_;unfold Builtin.Dict.selfAndRest;refine zjZ (wpAny_notOrdered_dict hnew.typeIs ?_);show wpAny _ _ (pure (s.heap.objs.size,[Value.ref o])) _ _ _;refine zjY ?_;show wpAny _ _ (Builtin.Dict.updateFrom "dict.__init__" s.heap.objs.size (.ref o) [] .none) _ _ _;unfold Builtin.Dict.updateFrom;refine zjZ (wpAny_typeOf hTo ?_);rw [if_neg (by decide)];refine zjZ ?_;unfold Builtin.Dict.merge;refine zjZ ?_;unfold Builtin.Dict.readDirectly;refine zjZ (wpAny_isInstance hTo isSubtype_dict_dict ?_);simp only [Bool.not_true,Bool.false_eq_true,if_false];refine zjZ (wpAny_specialOf hTo F.slot_dict_iter.lookup (zjY ?_));simp only [beq_self_eq_true,if_true];refine zjZ (zjY ?_);unfold Builtin.Dict.mergeDict;rw [if_neg (by simpa using hdo)];unfold Builtin.Dict.showsAll;rw [if_neg (by rw [hoS];exact Bool.false_ne_true)];refine zjZ (zjY ?_);refine zjZ (wpAny_dictEntries hoo' hdo' ?_);dsimp only
 by_cases hx:xs=[]
 ·subst hx;have h0:eso= #[]:=by cases eso;simpa using heo
  subst h0;rw [if_neg (by simp)];refine zjZ (wpAny_dictEpoch hoo' hdo' ?_);refine zjZ (wpAny_dictEntries hoo' hdo' ?_);rw [Std.Legacy.Range.forIn_eq_forIn_range'];refine zjZ (zjY (zjY ?_));exact zjZ (zjY (zjY ⟨rfl,h _ hnew (Heap.SameBut.refl _ _)⟩))
 ·obtain⟨x0,xt,ex⟩:=exists_cons_of_ne_nil hx;have hall:(eso.all fun e=>(keyPart e.key).isSome)=false:=by
   rw [←Array.all_toList,heo,ex];rfl
  have hemp:eso.isEmpty=false:=by
   cases h:eso.isEmpty with
   |false=>rfl
   |true=>
    have h0:eso= #[]:=Array.isEmpty_iff.mp h;rw [h0,ex]at heo;cases heo
  rw [hall,Bool.and_false,if_pos (by rfl)];obtain⟨on,esn,epn,hon,hcn,hdn,hen,_,_⟩:=id hnew;have he0:esn= #[]:=by cases esn;simpa using hen
  subst he0;refine zjZ (wpAny_dictEntries hon hdn ?_);rw [if_pos (by rfl)];refine zjZ (A36 hoo' hdo' heo hkp hh ?_);rw [hemp,if_pos (by rfl)];have hes:eso.size<=sizeLine+1:=by rw [size_of_entries heo];omega
  refine zjZ (wpAny_updateDictKeysTo hon hdn (zjY ?_) hes);exact zjZ (zjY (zjY ⟨rfl,h _ ⟨_,_,epn+1,get?_update_self _ hon (Obj.isFreed_of_dict (Obj.data_mapDictKeys hdn _)),hcn.mapDictKeys _,Obj.data_mapDictKeys hdn _,heo,fun x hx=>(tupleKind knd).keeps (hkp x hx) hon hdn (Heap.SameBut.update ..),hno⟩ (Heap.SameBut.update ..)⟩))
theorem A58 (hd:(d==sysModules)=false):
  MeetsIn prog w (Builtin.«dict.__len__» ⟨[.ref d],[]⟩) (fun _ R s=> ∃o es ep,s.heap.get? d=some o/\o.data= .dict es ep/\R (.ok (.ret (.int es.size s.toks))) {s with toks:=s.toks+1}):=
 .of_wp fun A R s ⟨o,es,ep,ho,hdat,h⟩=>by
  show wpAny _ _ (dictSize d>>=_) _ _ s;unfold dictSize;refine zjZ (zjZ (wpAny_dictEntries ho hdat (zjY ?_)));show wpAny _ _ (Builtin.Dict.pendingCount d>>=_) _ _ s;refine zjZ (wpAny_pendingCount_other hd ?_);refine wpAny_ret_mkInt ?_;rw [Nat.add_zero];exact h
theorem A3e (hd:(d==sysModules)=false)(ho:s.heap.get? d=some o)(hx:o.ExactDict)(hdt:o.data= .dict es ep)(hfit:(es.size:Int)<2^63)
  (h:Q (.int es.size (s.toks+1)) {s with toks:=s.toks+1+1}):wpAny (model prog w) A (call (.builtin "len") [.ref d]) Q E s:=by
 have hT:s.TypeIs (.ref d) "dict":=⟨o,ho,hx.1⟩;refine Calls.call_function_entry kind_len plain_len entry_len (args_len1 _) ?_;unfold Builtin.«len»;refine zjZ (m:=oneArg "len" _) (zjY ?_);refine zjZ (m:=callSpecial? (.ref d) (Str.ofString "__len__")) (wpAny_callSpecial?_slot (name:=Str.ofString "__len__") hT F.slot_dict_len (call_meetsIn F.slot_dict_len hT F.entry_dict_len (F.args_dict_len_1 _) (A58 hd) ⟨o,es,ep,ho,hdt,?_⟩));show wpAny _ _ _ _ _ {s with toks:=s.toks+1};refine zjZ (wpAny_holding (zjY ?_));refine zjZ (wpAny_letGo ?_);show wpAny _ _ (if ((es.size:Nat):Int)<0 then _ else _) _ _ _;rw [if_neg (by omega)];show wpAny _ _ (if ((es.size:Nat):Int)≥2^63 then _ else _) _ _ _;rw [if_neg (by omega)];exact zjZ (wpAny_mkInt (zjY ⟨_,rfl,h⟩))
end
end PySem
namespace L2
open PySem PySem.Spec PyProof.Rows
section
theorem A82 (z:kvs.length<=sizeLine)(hd:(a==sysModules)=false)(rel:KT H' kvs xs)(dd:h'.DictOfH (tupleKind (cH P w)) a xs):ObjOk P w H' h' a (.dT kvs):=by obtain⟨o,es,ep,h1,h2,h3,h4,_,h5⟩:=dd;exact⟨z,hd,xs,rel,o,es,ep,h1,h2,h3,h4,h5⟩
theorem KT.hash (r:KT H kvs xs):xs.map (·.1)=kvs.map (·.1):=by
 induction r with
 |nil=>rfl
 |cons h t ih=>rw [map_cons,map_cons,ih,h.1]
theorem A2e (I:Inv X pins σ H s)(e:H a=some (.dT kvs))(hh:(kvs.map fun k=>tupleKeyHash (cH X.prog X.w) k.1).Nodup)(h:∀p s',H p=none->Inv X pins σ (upd H p (.dT kvs)) s'->Q (.ref p) s'):wpAny (model X.prog X.w) A (call (.type "dict") [.ref a]) Q E s:=by
 obtain⟨z,hd,xs,rel,dd⟩:=oW I.hok e;have hk:=rel.hash;have hl:xs.length=kvs.length:=by have:=congrArg List.length hk;simpa using this
 refine A71 hd dd (by rw [hl];exact z) ?_ fun h' dd' hs=> ?_
 ·have e1:(xs.map fun x=>tupleKeyHash (cH X.prog X.w) x.1)=(xs.map (·.1)).map (tupleKeyHash (cH X.prog X.w)):=by rw [map_map];rfl
  rw [e1,hk,map_map];exact hh
 ·have hn:H s.heap.objs.size=none:=I.hok.fresh (zjQ _);refine h _ _ hn (I.laid (a:=s.heap.objs.size) (o:=.dT kvs) (t':=s.toks) (fun b q hq=> ?_) (zjQ _) (A82 z (beq_eq_false_iff_ne.mpr (Ne.symm (ne_of_lt I.big))) (rel.keeps fun b ys hb=> ?_) dd'))
  ·exact(hs.2 b (ne_of_lt (zjT hq))).trans (zjX _ hq)
  ·rw [aV (bG hb hn)];exact hb
theorem A6c:dZ X (.type "dict") (fun xs H Q=> ∃a kvs,xs=[.ref a]/\H a=some (.dT kvs)/\(kvs.map fun k=>tupleKeyHash (cH X.prog X.w) k.1).Nodup/\∀p,H p=none->Q (.ref p) (upd H p (.dT kvs))):=by intro pins s σ H xs us Q I r h;obtain⟨a,kvs,rfl,e,hh,q⟩:=h;obtain⟨u,rfl,rx⟩:=eK r;cases rx;exact A2e I e hh fun p s' hp I'=> ⟨.ref p,_,I',rfl,q p hp⟩
theorem A23:dZ X (.builtin "len") (fun xs H Q=> ∃a kvs,xs=[.ref a]/\H a=some (.dT kvs)/\Q (.int kvs.length) H):=by
 intro pins s σ H xs us Q I r h;obtain⟨a,kvs,rfl,e,q⟩:=h;obtain⟨u,rfl,rx⟩:=eK r;cases rx;obtain⟨z,hd,xs,rel,dd⟩:=oW I.hok e;have hl:xs.length=kvs.length:=by have:=congrArg List.length rel.hash;simpa using this
 obtain⟨o,es,ep,h1,h2,h3,h4,_,_⟩:=dd;have hs:es.size=kvs.length:=(size_of_entries h4).trans hl;refine A3e hd h1 h2 h3 (by rw [hs];rw [sizeLine_eq]at z;omega) ?_;rw [hs];exact⟨.int _,H,I.tok _,⟨_,rfl⟩,q⟩
end
end L2
namespace M52
open PySem L2 PyProof.Rows Grd Wlk Cyc Srt Set4
noncomputable def djB (L:List Pl)(q:List (List Pl)):Bool:=L.all fun c=> !decide (c∈q.flatten)
noncomputable def eQ (Ls:List (List Pl))(cs:List (List (List Pl))):List (List (List Pl)):=Ls.flatMap fun L=>(cs.filter (djB L)).map (· ++[L])
theorem xG (h:q∈eQ Ls cs):∃q0 L,q=q0++[L]/\q0∈cs/\L∈Ls/\djB L q0=true:=by obtain⟨L,hL,hq⟩:=List.mem_flatMap.mp h;obtain⟨q0,h0,rfl⟩:=mem_map.mp hq;exact⟨q0,L,rfl,(mem_filter.mp h0).1,hL,(mem_filter.mp h0).2⟩
theorem pF:∀(Ls:List (List Pl))(cs:List (List (List Pl))),(eQ Ls cs).length<=Ls.length*cs.length
 | [],cs=>zero_le _
 |L::Ls,cs=>by
  have ih:=pF Ls cs;have e:eQ (L::Ls) cs=(cs.filter (djB L)).map (· ++[L])++eQ Ls cs:=rfl;have h:=length_filter_le (djB L) cs;rw [e,length_append,length_map,length_cons,Nat.succ_mul];omega
theorem tO:∀{Ls:List (List Pl)}{cs:List (List (List Pl))},Ls.Nodup->cs.Nodup->(eQ Ls cs).Nodup
 | [],cs,_,_=>nodup_nil
 |L::Ls,cs,h1,h2=>by
  rw [nodup_cons]at h1;have ih:=tO h1.2 h2;have e:eQ (L::Ls) cs=(cs.filter (djB L)).map (· ++[L])++eQ Ls cs:=rfl;rw [e,nodup_append];refine⟨?_,ih,fun a ha b hb e=> ?_⟩
  ·rw [nodup_iff_pairwise_ne,pairwise_map];exact(nodup_iff_pairwise_ne.mp (h2.sublist filter_sublist)).imp fun{a b} z e=>z (List.append_cancel_right e)
  ·obtain⟨q0,_,rfl⟩:=mem_map.mp ha;obtain⟨q1,L1,rfl,_,hL,_⟩:=xG hb;have:=List.append_inj_right' e (by rfl);injection this with this _
   exact h1.1 (this▸hL)
structure Ln (Lfs:List (List (List Pl)))(q:List (List Pl)):Prop where
 p:Paired (fun L Ls=>L∈Ls) q Lfs
 nd:q.flatten.Nodup
noncomputable def eG (Lfs:List (List (List Pl))):List (List (List Pl)):=Lfs.foldl (fun cs Ls=>eQ Ls cs) [[]]
theorem nE (Lfs:List (List (List Pl)))(Ls:List (List Pl)):eG (Lfs++[Ls])=eQ Ls (eG Lfs):=by unfold eG;rw [List.foldl_append];rfl
theorem uL:∀(n:Nat){Lfs:List (List (List Pl))},Lfs.length=n->(∀Ls∈Lfs,∀L∈Ls,L.Nodup)->∀q∈eG Lfs,Ln Lfs q
 |0,Lfs,h,_,q,hq=>by
  have:Lfs=[]:=eq_nil_of_length_eq_zero h;subst this;rw [mem_singleton.mp hq];exact⟨.nil,nodup_nil⟩
 |n+1,Lfs,h,hn,q,hq=>by
  rcases eq_nil_or_concat Lfs with e| ⟨Ms,Ls,e⟩
  ·rw [e]at h;cases h
  ·rw [concat_eq_append]at e;subst e;rw [length_append,length_singleton]at h;rw [nE]at hq;obtain⟨q0,L,rfl,h0,hL,hd⟩:=xG hq;have ih:=uL n (Lfs:=Ms) (by omega) (fun Ls h=>hn Ls (mem_append_left _ h)) q0 h0;refine⟨Paired.snoc ih.p hL,?_⟩;rw [List.flatten_append,nodup_append];refine⟨ih.nd,?_,fun a ha b hb e=> ?_⟩
   ·rw [List.flatten_singleton];exact hn Ls (mem_append_right _ zjR) L hL
   ·rw [List.flatten_singleton]at hb;have:=all_eq_true.mp hd b hb;rw [←e]at this;simp [ha]at this
theorem xW:∀(n:Nat){Lfs:List (List (List Pl))},Lfs.length=n->(∀Ls∈Lfs,Ls.Nodup)->(eG Lfs).Nodup
 |0,Lfs,h,_=>by
  have:Lfs=[]:=eq_nil_of_length_eq_zero h;subst this;exact nodup_cons.mpr ⟨by simp,nodup_nil⟩
 |n+1,Lfs,h,hn=>by
  rcases eq_nil_or_concat Lfs with e| ⟨Ms,Ls,e⟩
  ·rw [e]at h;cases h
  ·rw [concat_eq_append]at e;subst e;rw [length_append,length_singleton]at h;rw [nE];exact tO (hn Ls (mem_append_right _ zjR)) (xW n (by omega) fun Ls h=>hn Ls (mem_append_left _ h))
theorem vM:∀(n:Nat){Lfs:List (List (List Pl))},Lfs.length=n->(∀Ls∈Lfs,Ls.length<=64)->(eG Lfs).length<=64^n
 |0,Lfs,h,_=>by
  have:Lfs=[]:=eq_nil_of_length_eq_zero h;subst this;exact zjQ _
 |n+1,Lfs,h,hn=>by
  rcases eq_nil_or_concat Lfs with e| ⟨Ms,Ls,e⟩
  ·rw [e]at h;cases h
  ·rw [concat_eq_append]at e;subst e;rw [length_append,length_singleton]at h;have ih:=vM n (Lfs:=Ms) (by omega) fun Ls h=>hn Ls (mem_append_left _ h);rw [nE];refine le_trans (pF _ _) ?_;rw [Nat.pow_succ,mul_comm (64^n)];exact Nat.mul_le_mul (hn Ls (mem_append_right _ zjR)) ih
noncomputable abbrev kp (c:Pl):List Key:=[Sum.inl c.1,Sum.inl c.2]
noncomputable def ents (hs:List Int)(q:List (List Pl)):List (List Key×V):=(hs.zip q).flatMap fun z=>z.2.map fun c=>(kp c,V.int z.1)
noncomputable def own (hs:List Int)(q:List (List Pl))(c:Pl):Option Int:=((hs.zip q).find? fun z=>decide (c∈z.2)).map (·.1)
theorem vT (h:kp c=kp d):c=d:=by injection h with h1 h2;injection h2 with h2 _;exact Prod.ext (Sum.inl.inj h1) (Sum.inl.inj h2)
theorem tV (k:List Key):cS (l++m) k=(cS l k).or (cS m k):=by unfold cS;rw [List.find?_append];cases l.find? fun kv=>decide (kv.1=k)<;>rfl
theorem uD {L:List Pl}{h:Int}{c:Pl}:cS (L.map fun c=>(kp c,V.int h)) (kp c)=if c∈L then some (.int h)else none:=by
 induction L with
 |nil=>rfl
 |cons d L ih=>
  rw [map_cons];by_cases e:d=c
  ·rw [nJ (by rw [e]),if_pos (by rw [e];exact zjR)]
  ·rw [mV (fun z=>e (vT z)),ih];by_cases hc:c∈L
   ·rw [if_pos hc,if_pos (zjS _ hc)]
   ·rw [if_neg hc,if_neg (fun z=>(mem_cons.mp z).elim (fun z=>e z.symm) hc)]
theorem kO:∀(hs:List Int)(q:List (List Pl))(c:Pl),cS (ents hs q) (kp c)=(own hs q c).map V.int
 | [],q,c=>by simp [ents,own,cS]
 |h::hs,[],c=>by simp [ents,own,cS]
 |h::hs,L::q,c=>by
  have ih:=kO hs q c;have e:ents (h::hs) (L::q)=(L.map fun c=>(kp c,V.int h))++ents hs q:=rfl;rw [e,tV,uD,ih];unfold own;rw [zip_cons_cons];by_cases hc:c∈L
  ·rw [if_pos hc,List.find?_cons_of_pos (by simpa using hc)];rfl
  ·rw [if_neg hc,List.find?_cons_of_neg (by simpa using hc)];rfl
theorem lI:∀(hs:List Int)(q:List (List Pl)),hs.length=q.length->(ents hs q).map (·.1)=q.flatten.map kp
 | [],[],_=>rfl
 | [],_::_,h=>by cases h
 |_::_,[],h=>by cases h
 |h::hs,L::q,hl=>by
  have ih:=lI hs q (by simpa using hl);have e:ents (h::hs) (L::q)=(L.map fun c=>(kp c,V.int h))++ents hs q:=rfl;rw [e,map_append,ih,flatten_cons,map_append,map_map];rfl
theorem tJ (h:hs.length=q.length):(ents hs q).length=q.flatten.length:=by
 have:=congrArg List.length (lI hs q h)
 rwa [length_map,length_map]at this
theorem mY (hl:hs.length=q.length):(own hs q c).isSome=decide (c∈q.flatten):=by
 have h1:=congrArg Option.isSome (kO hs q c);rw [Option.isSome_map]at h1;rw [←h1,←nR,Bool.eq_iff_iff,any_eq_true,decide_eq_true_eq];have hk:=lI hs q hl;constructor
 ·rintro⟨kv,hkv,e⟩;have e:=of_decide_eq_true e;have:kv.1∈(ents hs q).map (·.1):=mem_map.mpr ⟨kv,hkv,rfl⟩;rw [hk,e]at this;obtain⟨d,hd,ed⟩:=mem_map.mp this;rw [←vT ed];exact hd
 ·intro hc;have:kp c∈(ents hs q).map (·.1):=by rw [hk];exact mem_map.mpr ⟨c,hc,rfl⟩
  obtain⟨kv,hkv,e⟩:=mem_map.mp this;exact⟨kv,hkv,zjV e⟩
theorem B0o {hs:List Int}{q:List (List Pl)}{h:Int}{L:List Pl}(hl:hs.length=q.length):ents (hs++[h]) (q++[L])=ents hs q++L.map fun c=>(kp c,V.int h):=by unfold ents;rw [List.zip_append hl,List.flatMap_append];simp
noncomputable def fN (A:List Pl)(hs:List Int)(q:List (List Pl)):List Int:=A.map fun c=>(own hs q c).getD 0
theorem A3m {A L:List Pl}(hA:A.Nodup)(h:L.Sublist A):A.filter (fun c=>decide (c∈L))=L:=by
 induction h with
 |slnil=>rfl
 |cons a h ih=>
  rw [nodup_cons]at hA;rw [filter_cons_of_neg (by simpa using fun z=>hA.1 (h.subset z))];exact ih hA.2
 |cons_cons a h ih=>
  rename_i L A;rw [nodup_cons]at hA;rw [filter_cons_of_pos (by simp)]
  congr 1
  rw [←ih hA.2];refine List.filter_congr fun c hc=> ?_;rw [Bool.eq_iff_iff,decide_eq_true_eq,decide_eq_true_eq,ih hA.2];exact⟨fun z=>(mem_cons.mp z).elim (fun e=>absurd hc (e▸hA.1)) id,fun z=>zjS _ z⟩
theorem vE:∀{hs:List Int}{q:List (List Pl)}{c:Pl},hs.Nodup->q.flatten.Nodup->hs.length=q.length->∀{h:Int}{L:List Pl}{j:Nat},hs[j]?=some h->q[j]?=some L->(own hs q c=some h↔c∈L)
 | [],_,c,_,_,_,h,L,j,e1,_=>by simp at e1
 |h0::hs,[],c,_,_,hl,_,_,_,_,_=>by cases hl
 |h0::hs,L0::q,c,n1,n2,hl,h,L,j,e1,e2=>by
  rw [nodup_cons]at n1;rw [flatten_cons,nodup_append]at n2;have hl':hs.length=q.length:=by simpa using hl
  unfold own;rw [zip_cons_cons];cases j with
  |zero=>
   cases e1;cases e2;by_cases hc:c∈L0
   ·rw [List.find?_cons_of_pos (by simpa using hc)];exact⟨fun _=>hc,fun _=>rfl⟩
   ·rw [List.find?_cons_of_neg (by simpa using hc)];refine⟨fun z=> ?_,fun z=>absurd z hc⟩;have hm:h0∈hs:=by
     cases e:(hs.zip q).find? fun z=>decide (c∈z.2)with
     |none=>rw [e]at z;cases z
     |some y=>
      rw [e]at z;have:y.1=h0:=Option.some.inj z;rw [←this];exact(of_mem_zip (List.mem_of_find?_eq_some e)).1
    exact absurd hm n1.1
  |succ j=>
   have e1':hs[j]?=some h:=by simpa using e1
   have e2':q[j]?=some L:=by simpa using e2
   have hLq:∀c∈L,c∈q.flatten:=fun c hc=>mem_flatten.mpr ⟨L,mem_of_getElem? e2',hc⟩;by_cases hc:c∈L0
   ·rw [List.find?_cons_of_pos (by simpa using hc)];refine⟨fun z=> ?_,fun z=>absurd rfl (n2.2.2 c hc c (hLq c z))⟩;have:h0=h:=Option.some.inj z;exact absurd (mem_of_getElem? e1') (this▸n1.1)
   ·rw [List.find?_cons_of_neg (by simpa using hc)];exact vE n1.2 n2.2.1 hl' e1' e2'
theorem A0u (f:Pl->Int):∀A:List Pl,A.zip (A.map f)=A.map fun c=>(c,f c)
 | []=>rfl
 |c::A=>by rw [map_cons,zip_cons_cons,A0u f A];rfl
theorem B03 {g:bD}{hs:List Int}{q:List (List Pl)}(hn:hs.Nodup)(nd:q.flatten.Nodup)(hl:hs.length=q.length)(hsub:∀L∈q,L.Sublist (aT pos g))(hall:q.flatten.length=(aT pos g).length):q=hs.map (bW g (fN (aT pos g) hs q)):=by
 have hA:=(lF pos g).imp (S:=(· ≠ ·)) fun{a b} z e=>by
  have z:HT.lexLt [a.1,a.2] [b.1,b.2]=true:=z;rw [e,iH]at z;cases z
 have hA:(aT pos g).Nodup:=hA;have hin:∀c∈aT pos g,c∈q.flatten:=by
  have hs':∀c∈q.flatten,c∈aT pos g:=fun c hc=>by
   obtain⟨L,hL,h⟩:=mem_flatten.mp hc;exact(hsub L hL).subset h
  intro c hc;by_cases z:c∈q.flatten
  ·exact z
  ·have:=jA (nodup_cons.mpr ⟨z,nd⟩) (fun d hd=>(mem_cons.mp hd).elim (fun e=>e▸hc) (hs' d));rw [length_cons]at this;omega
 have key:∀(j:Nat)(h:Int)(L:List Pl),hs[j]?=some h->q[j]?=some L->bW g (fN (aT pos g) hs q) h=L:=fun j h L e1 e2=>by
  unfold bW fN;rw [A0u,filter_map,map_map];have ef:(filter ((fun z:Pl×Int=>decide (z.2=h))∘fun c=>(c,(own hs q c).getD 0)) (aT pos g))=(aT pos g).filter fun c=>decide (c∈L):=by
   refine List.filter_congr fun c hc=> ?_;have hi:=mY (c:=c) hl;rw [zjV (hin c hc)]at hi;obtain⟨h',eh⟩:=Option.isSome_iff_exists.mp hi;show decide ((own hs q c).getD 0=h)=_;rw [eh];rw [Bool.eq_iff_iff,decide_eq_true_eq,decide_eq_true_eq,←vE hn nd hl e1 e2,eh];exact⟨fun z=>by rw [←z];rfl,fun z=>Option.some.inj z⟩
  rw [ef,A3m hA (hsub _ (mem_of_getElem? e2))];show List.map id _=_;rw [map_id]
 refine ext_getElem (by rw [length_map,hl]) fun j h1 h2=> ?_;rw [List.getElem_map];exact(key j _ _ (getElem?_eq_getElem (by omega)) (getElem?_eq_getElem h1)).symm
noncomputable def hp2 (c:Pl):Int:=reduceHash (Builtin.Tuple.tupleHashOf [hashInt c.1,hashInt c.2])
theorem A4h:∀r r':Fin 4,∀c c':Fin 5,hp2 ((r:Nat),(c:Nat))=hp2 ((r':Nat),(c':Nat))->r=r'/\c=c':=by decide +kernel
theorem A8w {P:Program}{w:World}{C:List Pl}(nd:C.Nodup)(hb:∀c∈C,0<=c.1/\c.1<4/\0<=c.2/\c.2<5):(C.map fun c=>tupleKeyHash (cH P w) (kp c)).Nodup:=by rw [nodup_iff_pairwise_ne,pairwise_map];refine(List.Pairwise.and_mem.mp (nodup_iff_pairwise_ne.mp nd)).imp fun{a b} z e=>z.2.2 ?_;have ha:=hb a z.1;have hb':=hb b z.2.1;have e:hp2 a=hp2 b:=e;obtain⟨a1,a2⟩:=a;obtain⟨b1,b2⟩:=b;obtain⟨r,rfl⟩:=Int.eq_ofNat_of_zero_le ha.1;obtain⟨c,rfl⟩:=Int.eq_ofNat_of_zero_le ha.2.2.1;obtain⟨r',rfl⟩:=Int.eq_ofNat_of_zero_le hb'.1;obtain⟨c',rfl⟩:=Int.eq_ofNat_of_zero_le hb'.2.2.1;simp only at ha hb';have:=A4h ⟨r,by omega⟩ ⟨r',by omega⟩ ⟨c,by omega⟩ ⟨c',by omega⟩ e;have h1:=congrArg Fin.val this.1;have h2:=congrArg Fin.val this.2;simp only at h1 h2;rw [h1,h2]
theorem A5f {P:Program}{w:World}{hs:List Int}{q:List (List Pl)}(hl:hs.length=q.length)(nd:q.flatten.Nodup)(hb:∀c∈q.flatten,0<=c.1/\c.1<4/\0<=c.2/\c.2<5):((ents hs q).map fun k=>tupleKeyHash (cH P w) k.1).Nodup:=by
 have e:((ents hs q).map fun k=>tupleKeyHash (cH P w) k.1)=q.flatten.map fun c=>tupleKeyHash (cH P w) (kp c):=by
  have:((ents hs q).map fun k=>tupleKeyHash (cH P w) k.1)=((ents hs q).map (·.1)).map (tupleKeyHash (cH P w)):=by rw [map_map];rfl
  rw [this,lI hs q hl,map_map];rfl
 rw [e];exact A8w nd hb
theorem rK (G:cK g w)(g3:g.length<=3)(w4:w<=4)(h:c∈aT pos g):0<=c.1/\c.1<4/\0<=c.2/\c.2<5:=by obtain⟨i,j,xs,n,rfl,hg,hx,hf⟩:=mem_gridF.mp h;have hi:=(zjW.mp hg).1;have hj:=(zjW.mp hx).1;have:=G.len xs (mem_of_getElem? hg);show 0<=(i:Int)/\(i:Int)<4/\0<=(j:Int)/\(j:Int)<5;omega
noncomputable def Sb (l:Addr)(H H':Hp):Prop:=∀b u,b≠l->H b=some u->H' b=some u
theorem Sb.refl (l:Addr)(H:Hp):Sb l H H:=fun _ _ _ e=>e
theorem Sb.trans (a:Sb l H H1)(b:Sb l H1 H2):Sb l H H2:=fun c u n e=>b c u n (a c u n e)
theorem Sb.of (a:Same H H1):Sb l H H1:=fun c u _ e=>a c u e
theorem Sb.ext (a:Sb l H H1)(e:H l=some (.lst xs))(e1:H1 l=some (.lst ys)):Ext H H1:=by
 have ne:∀{b u},H b=some u->(∀zs,u≠ .lst zs)->b≠l:=fun h n z=>by rw [z,e]at h;exact n _ (Option.some.inj h).symm
 refine⟨fun b zs h=>a b _ (ne h fun _ z=>by cases z) h,fun b zs h=> ?_,fun b kvs h=>a b _ (ne h fun _ z=>by cases z) h⟩;by_cases z:b=l
 ·exact⟨ys,by rw [z];exact e1⟩
 ·exact⟨zs,a b _ z h⟩
noncomputable abbrev nPs:List Str:=["_law_plea","_law_cells_here","_law_lines","_law_holder","_law_later","_law_land","_law_owners","_law_cell_here","_law_more","_law_found"]
theorem scPs:gK nPs ["_law_plea"] (bC gN):=by ac_rfl
noncomputable abbrev XP (P:Program)(w:World)(K:W.Frag)(mg:Str->Option Value)(base:Heap)(f:Addr)(cdv:Value)(A:Around)(outer:List Env)(s:Shared)(H0:Hp)(E:XK):Cx:=(fH CX0 P w K mg base nPs "_law_partings" (bC gN) f cdv A outer s H0 E).nox
noncomputable abbrev pNo:Stmt:=.Pass ⟨0,0,0,0⟩
noncomputable abbrev bHold:List Stmt:=jH ((cR gN).getD 1 pNo)
noncomputable abbrev bLand:List Stmt:=jH (bHold.getD 1 pNo)
noncomputable abbrev B1k:List Stmt:=jH (bLand.getD 0 pNo)
section
variable {P:Program}{w:World}{K:W.Frag}{mg:Str->Option Value}{base:Heap}
theorem wQ:(["_law_cell_here","_law_owners"]:List Str).Nodup:=by decide +kernel
theorem A5r:bootBuiltins "dict" =some (.type "dict"):=by decide +kernel
variable {f:Addr}{cdv:Value}{A:Around}{outer:List Env}{s:Shared}{H0:Hp}{E:XK}
theorem A8l (T2:dX mg)(hr:Room 4 (XP P w K mg base f cdv A outer s H0 E).A):∃tt,PSs (XP P w K mg base f cdv A outer s H0 E) B1k tt/\
    ∀(D:cY)(o0 o1 o2 o7 o8 o9:Option V)(lt t d:Addr)(h:Int)(hs:List Int)(q:List (List Pl))(L:List Pl)(es:List Addr)(H:Hp),SqA H t L->L.Nodup->L.length<=10->H d=some (.dT (ents hs q))->hs.length=q.length->q.flatten.Nodup->q.flatten.length<=10->(∀c∈q.flatten,0<=c.1/\c.1<4/\0<=c.2/\c.2<5)->H lt=some (.lst (es.map V.ref))->es.length<16777216->
      (∀o7' o8' H',Same H H'->djB L q=false->D.nx [o0,o1,o2,some (.int h),some (.ref lt),some (.ref t),some (.ref d),o7',o8',o9] H')->
      (∀o7' o8' dn H',Sb lt H H'->H' lt=some (.lst (es.map V.ref++[.ref dn]))->H' dn=some (.dT (ents (hs++[h]) (q++[L])))->djB L q=true->D.nx [o0,o1,o2,some (.int h),some (.ref lt),some (.ref t),some (.ref d),o7',o8',o9] H')->
      tt D [o0,o1,o2,some (.int h),some (.ref lt),some (.ref t),some (.ref d),o7,o8,o9] H:=by
  have nd:=scPs.nd;refine⟨_,aQ (bV (bX (pC 1 (cX hr)) (bJ (bC gN).names nPs ["_law_cell_here"] [("_law_owners",6)] rfl (cQ (pv 5)) rfl rfl rfl (by decide +kernel)
      (fun Z=>nm1 0 wQ) (fun Z=>dY (A73 (B01 (lt_of_succ_lt (cX hr)) (pv 0) (pv 1)) rfl)) (fun Z=>pv 0)) (cN aA) (nomark _))
    (aN (bT (i:=8) nd rfl (Or.inl rfl) (fG A6c rfl T2.dict A5r (aB (pv 6) aA)))<|
     aN (fF PassesOwn.never rfl (cQ (pv 5)) (nm1 7 nd) (aQ (A6j (lt_of_succ_lt (cX hr)) (pv 8) (pv 7) (pv 3) rfl)))<|
     aQ (cF (iK PySem.F.plainAttrs_list PySem.F.slot_list_append PySem.F.type_list_append kJ (pv 4) (aB (pv 8) aA)))) bU),?_⟩
  intro D o0 o1 o2 o7 o8 o9 lt t d h hs q L es H hT hLn hL10 hd hl hqn hq10 hqb elt hes k0 k1;obtain⟨ps,ht,hP⟩:=id hT;have hpl:ps.length=L.length:=Paired.length hP;have neD:d≠lt:=fun z=>by rw [z,elt]at hd;cases hd
  have neT:∀{b:Addr}{c:Pl},PlA H b c->b≠lt:=fun h z=>by
    have h:H _=some (.tup _):=h;rw [z,elt]at h;cases h
  refine⟨_,rfl,t,rfl,⟨_,SqT.of ht⟩,fun Z lr hlr=> ?_⟩;refine lO (R:=fun H b c=>PlA H b c) (fun e h=>e.tup _ _ h) (rest:=[some (.ref d)]) (fun c=>decide (c∈q.flatten)) gH (fun H' hs=>SqT.of (hs _ _ ht)) hP hlr (by omega) (fun b c H' Q' hc hb hs' k=> ?_) fun σ H1 qs s1 el1 hP1=> ?_
  · refine⟨_,rfl,_,rfl,d,_,rfl,DGet.t (k:=kp c) (hs' _ _ hd) hb,_,rfl,?_⟩
    rw [kO,Option.isSome_map,mY hl];exact k H' (Same.refl _)
  refine⟨by show 0<=sizeLine;decide,fun l0 hl0=> ?_⟩;have u0:=aM (o:=.lst []) hl0;have s2:=s1.trans u0;refine⟨lr,l0,_,[],rfl,rfl,u0 _ _ el1,aG,?_⟩;generalize upd H1 l0 (.lst [])=H2 at u0 s2⊢;have hq:qs.length=_:=Paired.length hP1;cases hdj:djB L q with
  |false=>
    left
    have hne:L.filter (fun c=>decide (c∈q.flatten))≠[]:=fun z=>by
      have:djB L q=true:=all_eq_true.mpr fun c hc=>by
        have:=List.filter_eq_nil_iff.mp z c hc;simpa using this
      rw [this]at hdj;cases hdj
    refine⟨fun z=>hne (eq_nil_of_length_eq_zero ?_),_,rfl,bL (k0 _ _ H2 s2 hdj)⟩;rw [length_map]at z;rw [←hq,z];rfl
  |true=>
    right
    have hnil:L.filter (fun c=>decide (c∈q.flatten))=[]:=List.filter_eq_nil_iff.mpr fun c hc=>by
      have:=all_eq_true.mp hdj c hc;simpa using this
    rw [hnil]at hq;have:qs=[]:=eq_nil_of_length_eq_zero hq;subst this;refine⟨[],trivial,_,rfl,fR ?_⟩;refine⟨_,rfl,d,_,rfl,s2 _ _ hd,A5f hl hqn hqb,fun dn hdn=> ?_⟩;refine⟨_,rfl,t,rfl,⟨_,SqT.of (aM hdn _ _ (s2 _ _ ht))⟩,?_⟩;refine gM (K:=K) (a:=t) (xs:=ps.map V.ref) (fun j σ H'=>(∃o7,σ=[o0,o1,o2,some (.int h),some (.ref lt),some (.ref t),some (.ref d),o7,some (.ref dn),o9])/\Same H2 H'/\H' dn=some (.dT (ents hs q++(L.take j).map fun c=>(kp c,V.int h))))
      ⟨⟨_,rfl⟩,aM hdn,by rw [aG,take_zero,map_nil,append_nil]⟩ (fun j σ H' _ h=>SqT.of (h.2.1 _ _ (s2 _ _ ht))) ?_ ?_
    · rintro j x σ H' hx ⟨⟨o7',rfl⟩,hs',hd'⟩
      obtain⟨b,hbj,rfl⟩:=dW hx;obtain⟨c,hc,he⟩:=hP.at hbj;have hj:j<L.length:=(zjW.mp hc).1;have hb':H' b=some (.tup ((kp c).map kV)):=hs' _ _ (s2 _ _ he);have hv:cS (ents hs q++(L.take j).map fun c=>(kp c,V.int h)) (kp c)=none:=by
        rw [tV,kO,uD];have h1:own hs q c=none:=by
          have:=mY (c:=c) hl;have hn:c∉q.flatten:=by
            have:=all_eq_true.mp hdj c (mem_of_getElem? hc);simpa using this
          rw [zjU hn]at this;cases e:own hs q c with
          |none=>rfl
          |some _=>rw [e]at this;cases this
        have h2:c∉L.take j:=fun z=>by
          obtain⟨i,hi,e⟩:=mem_iff_getElem.mp z;rw [length_take]at hi;rw [getElem_take]at e;have hc':L[j]=c:=(zjW.mp hc).2;have:=pairwise_iff_getElem.mp (nodup_iff_pairwise_ne.mp hLn) i j (by omega) hj (by omega);exact this (by rw [e,hc'])
        rw [h1,if_neg h2];rfl
      refine⟨_,rfl,_,rfl,_,rfl,dn,_,rfl,DPut.t (k:=kp c) hd' hb' ?_,⟨_,rfl⟩,fun b' u e'=> ?_,?_⟩
      · rw [length_append,tJ hl,length_map,length_take,sizeLine_eq];omega
      · rw [aV (bG e' hdn)];exact hs' _ _ e'
      · rw [aG,A3d _ hv,take_succ,hc,map_append,append_assoc];rfl
    · rintro σ H' ⟨⟨o7',rfl⟩,hs',hd'⟩
      rw [length_map,hpl,take_of_length_le (zjQ _),←B0o hl]at hd';have sA:=s2.trans hs';have elt':=sA _ _ elt;have hne:dn≠lt:=fun z=>by rw [z,elt']at hd';cases hd'
      refine⟨_,rfl,.inl ⟨rfl,_,SqL.of elt'⟩,_,rfl,lt,_,_,rfl,rfl,elt',by rw [length_map,sizeLine_eq];exact hes,?_⟩;refine k1 _ _ dn _ (fun b u n e=> ?_) aG ?_ hdj
      · rw [aV n];exact sA _ _ e
      · rw [aV hne];exact hd'
end
noncomputable def DlA (H:Hp)(hs:List Int)(ds:List Addr)(CS:List (List (List Pl))):Prop:=Paired (fun d q=>H d=some (.dT (ents hs q))) ds CS
theorem DlA.same (h:DlA H hs ds CS)(s:Same H H'):DlA H' hs ds CS:=Paired.mapP h fun _ _ e=>s _ _ e
theorem DlA.sb (h:DlA H hs ds CS)(s:Sb l H H')(e:H l=some (.lst xs)):DlA H' hs ds CS:=Paired.mapP h fun _ _ z=>s _ _ (fun y=>by rw [y,e]at z;cases z) z
structure LnO (hs:List Int)(q:List (List Pl)):Prop where
 l:hs.length=q.length
 n:q.flatten.Nodup
 t:q.flatten.length<=10
 b:∀c∈q.flatten,0<=c.1/\c.1<4/\0<=c.2/\c.2<5
theorem A89 (Ls:List (List Pl))(L:List Pl)(cs:List (List (List Pl))):eQ (Ls++[L]) cs=eQ Ls cs++(cs.filter (djB L)).map (· ++[L]):=by unfold eQ;rw [List.flatMap_append];simp
section
variable {P:Program}{w:World}{K:W.Frag}{mg:Str->Option Value}{base:Heap}
variable {f:Addr}{cdv:Value}{A:Around}{outer:List Env}{s:Shared}{H0:Hp}{E:XK}
theorem A2y (T2:dX mg)(hr:Room 4 (XP P w K mg base f cdv A outer s H0 E).A):∃tt,PSs (XP P w K mg base f cdv A outer s H0 E) bLand tt/\
  ∀(D:cY)(o0 o1 o6 o7 o8 o9:Option V)(ln lt t:Addr)(h:Int)(hs:List Int)(L:List Pl)(ds es:List Addr)(CS Ac:List (List (List Pl)))(H:Hp),SqA H t L->L.Nodup->L.length<=10->H ln=some (.lst (ds.map V.ref))->ln≠lt->DlA H hs ds CS->(∀q∈CS,LnO hs q)->H lt=some (.lst (es.map V.ref))->DlA H (hs++[h]) es Ac->Ac.length+CS.length<16777216->
   (∀o6' o7' o8' es' H',Sb lt H H'->H' lt=some (.lst ((es':List Addr).map V.ref))->DlA H' (hs++[h]) es' (Ac++(CS.filter (djB L)).map (· ++[L]))->D.nx [o0,o1,some (.ref ln),some (.int h),some (.ref lt),some (.ref t),o6',o7',o8',o9] H')->
   tt D [o0,o1,some (.ref ln),some (.int h),some (.ref lt),some (.ref t),o6,o7,o8,o9] H:=by
 have nd:=scPs.nd;obtain⟨tb,hb,rb⟩:=A8l (P:=P) (w:=w) (K:=K) (mg:=mg) (base:=base) (f:=f) (cdv:=cdv) (A:=A) (outer:=outer) (s:=s) (H0:=H0) (E:=E) T2 hr;refine⟨_,aQ (fF PassesOwn.never rfl (cU (pv 2)) (aJ (i:=6) nd rfl (Or.inr rfl)) hb),?_⟩;intro D o0 o1 o6 o7 o8 o9 ln lt t h hs L ds es CS Ac H hT hLn hL10 eln nl hD hO elt hE hz k;have hdl:ds.length=CS.length:=Paired.length hD;refine⟨_,rfl,ln,rfl,⟨_,SqL.of eln⟩,?_⟩;refine dQ (K:=K) (a:=ln) (xs:=ds.map V.ref) (fun j σ H'=>(∃o6 o7 o8,σ=[o0,o1,some (.ref ln),some (.int h),some (.ref lt),some (.ref t),o6,o7,o8,o9])/\Sb lt H H'/\∃es':List Addr,H' lt=some (.lst (es'.map V.ref))/\DlA H' (hs++[h]) es' (Ac++((CS.take j).filter (djB L)).map (· ++[L])))
  ⟨⟨_,_,_,rfl⟩,Sb.refl _ _,es,elt,by rw [take_zero];simpa using hE⟩ (fun j σ H' _ h=>SqL.of (h.2.1 _ _ nl eln)) ?_ ?_
 ·rintro j x σ H' hx ⟨⟨o6',o7',o8',rfl⟩,hs',es',elt',hE'⟩;obtain⟨d,hdj,rfl⟩:=dW hx;obtain⟨q,hq,ed⟩:=fS hD hdj;have hj:j<CS.length:=(zjW.mp hq).1;have O:=hO q (mem_of_getElem? hq);have nd':d≠lt:=fun z=>by rw [z,elt]at ed;cases ed
  have hel:es'.length=_:=Paired.length hE';have hfl:=length_filter_le (djB L) (CS.take j);rw [length_take]at hfl;rw [length_append,length_map]at hel;have et:(CS.take (j+1)).filter (djB L)=(CS.take j).filter (djB L)++(if djB L q=true then [q]else []):=by
   rw [take_succ,hq,filter_append]
   congr 1
   by_cases z:djB L q=true
   ·simp [z]
   ·simp [z]
  refine rb _ o0 o1 (some (.ref ln)) o7' o8' o9 lt t d h hs q L es' H' (SqA.ext hT (hs'.ext elt elt')) hLn hL10 (hs' _ _ nd' ed) O.l O.n O.t O.b elt' (by omega) (fun o7'' o8'' H2 s2 hz'=> ?_) fun o7'' o8'' dn H2 s2 e2 en hz'=> ?_
  ·refine⟨⟨_,_,_,rfl⟩,hs'.trans (Sb.of s2),es',s2 _ _ elt',?_⟩;rw [et,if_neg (by rw [hz'];decide),append_nil];exact hE'.same s2
  ·refine⟨⟨_,_,_,rfl⟩,hs'.trans s2,es'++[dn],by rw [e2,map_append];rfl,?_⟩;rw [et,if_pos hz',map_append,←append_assoc];exact Paired.snoc (hE'.sb s2 elt') en
 ·rintro σ H' ⟨⟨o6',o7',o8',rfl⟩,hs',es',elt',hE'⟩;rw [length_map,hdl,take_of_length_le (zjQ _)]at hE';exact k _ _ _ es' H' hs' elt' hE'
theorem A60 (T2:dX mg)(hr:Room 4 (XP P w K mg base f cdv A outer s H0 E).A)(aF:A1 P w K mg base 4 "_law_fit_lands" oQ):∃tt,PSs (XP P w K mg base f cdv A outer s H0 E) bHold tt/\
  ∀(D:cY)(o1 o4 o5 o6 o7 o8 o9:Option V)(p ln:Addr)(g:bD)(w:Nat)(cs:List Int)(cl:List C3)(od h:Int)(hs:List Int)(ds:List Addr)(CS:List (List (List Pl)))(H:Hp),PleA H p g w cs cl od->H ln=some (.lst (ds.map V.ref))->DlA H hs ds CS->(∀q∈CS,LnO hs q)->65*CS.length<16777216->
   (∀o4' o5' o6' o7' o8' ln' ds' H',Same H H'->H' ln'=some (.lst ((ds':List Addr).map V.ref))->DlA H' (hs++[h]) ds' (eQ ((llG (aT pos g)).filter (dO g cs cl od h)) CS)->D.nx [some (.ref p),o1,some (.ref ln'),some (.int h),o4',o5',o6',o7',o8',o9] H')->
   tt D [some (.ref p),o1,some (.ref ln),some (.int h),o4,o5,o6,o7,o8,o9] H:=by
 have nd:=scPs.nd;obtain⟨tb,hb,rb⟩:=A2y (P:=P) (w:=w) (K:=K) (mg:=mg) (base:=base) (f:=f) (cdv:=cdv) (A:=A) (outer:=outer) (s:=s) (H0:=H0) (E:=E) T2 hr;refine⟨_,aN (bT (i:=4) nd rfl (Or.inl rfl) (cN aA))<|
  aN (fF PassesOwn.never rfl (cU (aF.c hr (aB (pv 0) (aB (pv 3) aA)))) (nm1 5 nd) hb)<|
  aQ (bT (i:=2) nd rfl (Or.inl rfl) (pv 4)),?_⟩
 intro D o1 o4 o5 o6 o7 o8 o9 p ln g w' cs cl od h hs ds CS H hP eln hD hO hz k;have hdl:ds.length=CS.length:=Paired.length hD;refine⟨by show 0<=sizeLine;decide,fun lt hlt=> ?_⟩;have u1:=aM (o:=.lst []) hlt;refine⟨_,rfl,_,rfl,p,g,w',cs,cl,od,h,rfl,hP.same u1,fun lf qs H2 hlf s2 elf hL=> ?_⟩;have elt2:=s2 _ _ (aG (H:=H) (a:=lt) (o:=.lst []));have s12:=u1.trans s2;have nlf:lf≠lt:=fun z=>by rw [z,aG]at hlf;cases hlf
 have nln:ln≠lt:=fun z=>by rw [z,hlt]at eln;cases eln
 generalize hLs:(llG (aT pos g)).filter (dO g cs cl od h)=Ls at hL k;have hql:qs.length=Ls.length:=Paired.length hL;have h64:Ls.length<=64:=by
  rw [←hLs];refine le_trans (length_filter_le _ _) ?_;rw [nD,eV];exact le_trans (pow_le_pow_right (by decide) hP.c6) (by decide)
 have hsub:∀L∈Ls,L.Sublist (aT pos g):=fun L hL=>by rw [←hLs]at hL;exact(kR _ rfl).mp (mem_filter.mp hL).1
 refine⟨lf,rfl,⟨_,SqL.of elf⟩,?_⟩;refine dQ (K:=K) (a:=lf) (xs:=qs.map V.ref) (fun j σ H'=>(∃o5 o6 o7 o8,σ=[some (.ref p),o1,some (.ref ln),some (.int h),some (.ref lt),o5,o6,o7,o8,o9])/\Sb lt H2 H'/\∃es:List Addr,H' lt=some (.lst (es.map V.ref))/\DlA H' (hs++[h]) es (eQ (Ls.take j) CS))
  ⟨⟨_,_,_,_,rfl⟩,Sb.refl _ _,[],elt2,.nil⟩ (fun j σ H' _ h=>SqL.of (h.2.1 _ _ nlf elf)) ?_ ?_
 ·rintro j x σ H' hx ⟨⟨o5',o6',o7',o8',rfl⟩,hs',es,elt',hE⟩;obtain⟨t,htj,rfl⟩:=dW hx;obtain⟨L,hLj,hT⟩:=fS hL htj;have hj:j<Ls.length:=(zjW.mp hLj).1;have hLs':=hsub L (mem_of_getElem? hLj);have hsl:=pF (Ls.take j) CS;have hsl2:(Ls.take j).length*CS.length<=64*CS.length:=Nat.mul_le_mul_right _ (by rw [length_take];omega);have hLn:L.Nodup:=((lF pos g).sublist hLs').imp fun{a b} z e=>by
   have z:HT.lexLt [a.1,a.2] [b.1,b.2]=true:=z;rw [e,iH]at z;cases z
  refine rb _ (some (.ref p)) o1 o6' o7' o8' o9 ln lt t h hs L ds es CS (eQ (Ls.take j) CS) H' (SqA.ext hT (hs'.ext elt2 elt')) hLn (LandOf.len hP.G hLs') (hs' _ _ nln (s12 _ _ eln)) nln ((hD.same s12).sb hs' elt2) hO elt' hE (by omega) fun o6'' o7'' o8'' es' H3 s3 e3 hE3=> ?_;refine⟨⟨_,_,_,_,rfl⟩,hs'.trans s3,es',e3,?_⟩;have et:Ls.take (j+1)=Ls.take j++[L]:=by rw [take_succ,hLj];rfl
  rw [et,A89];exact hE3
 ·rintro σ H' ⟨⟨o5',o6',o7',o8',rfl⟩,hs',es,elt',hE⟩;rw [length_map,hql,take_of_length_le (zjQ _)]at hE;exact⟨_,rfl,k _ _ _ _ _ lt es H' (fun b u e=>hs' b u (bG e hlt) (s12 _ _ e)) elt' hE⟩
end
theorem A91 (S:Nat->Bool):(aU S).Nodup:=by
 unfold aU;have key:∀b0 b1 b2 b3:Bool,(L b0 b1 b2 b3).Nodup:=by decide
 exact key _ _ _ _
noncomputable def hI (cl:List C3):List Int:=(aU (bY cl)).map fun k:Nat=>(k:Int)
theorem wF (cl:List C3):(hI cl).Nodup:=by unfold hI;rw [nodup_iff_pairwise_ne,pairwise_map];exact(nodup_iff_pairwise_ne.mp (A91 _)).imp fun{a b} z e=>z (by omega)
theorem gB (hm:h∈hI cl):cG cl h=true:=by obtain⟨k,hk,rfl⟩:=mem_map.mp hm;exact(mem_mem4.mp hk).2
theorem A2m (cl:List C3):(hI cl).length<=cl.length:=by
 have:=jA (ys:=cl.map (·.1)) (wF cl) fun h hm=>by
  obtain⟨c,hc,e⟩:=any_eq_true.mp (gB hm);exact mem_map.mpr ⟨c,hc,of_decide_eq_true e⟩
 rwa [length_map]at this
noncomputable def lfs (g:bD)(cs:List Int)(cl:List C3)(od:Int)(hs:List Int):List (List (List Pl)):=hs.map fun h=>(llG (aT pos g)).filter (dO g cs cl od h)
structure PkO (g:bD)(cs:List Int)(cl:List C3)(od:Int)(ks:List Int):Prop where
 l:ks.length=(aT pos g).length
 h:∀k∈ks,cG cl k=true
 b:fT g cs cl od ks=true
theorem vD (h:Ls∈lfs g cs cl od hs):∀L∈Ls,L.Sublist (aT pos g):=fun L hL=>by
 obtain⟨h',_,rfl⟩:=mem_map.mp h;exact(kR _ rfl).mp (mem_filter.mp hL).1
theorem A0y (g:bD):(aT pos g).Nodup:=(lF pos g).imp fun{a b} z e=>by
 have z:HT.lexLt [a.1,a.2] [b.1,b.2]=true:=z;rw [e,iH]at z;cases z
theorem zF:∀(n:Nat){xs:List Pl},xs.length=n->xs.Nodup->(llG xs).Nodup
 |0,xs,h,_=>by
  have:xs=[]:=eq_nil_of_length_eq_zero h;subst this;exact nodup_cons.mpr ⟨by simp,nodup_nil⟩
 |n+1,xs,h,hn=>by
  rcases eq_nil_or_concat xs with e| ⟨zs,x,e⟩
  ·rw [e]at h;cases h
  ·rw [concat_eq_append]at e;subst e;rw [length_append,length_singleton]at h;rw [nodup_append]at hn;have ih:=zF n (xs:=zs) (by omega) hn.1;rw [qY,nodup_append];refine⟨ih,?_,fun a ha b hb e=> ?_⟩
   ·rw [nodup_iff_pairwise_ne,pairwise_map];exact(nodup_iff_pairwise_ne.mp ih).imp fun{a b} z e=>z (List.append_cancel_right e)
   ·obtain⟨c,_,rfl⟩:=mem_map.mp hb;have hx:x∈a:=by rw [e];exact mem_append_right _ zjR
    exact hn.2.2 x (((kR _ rfl).mp ha).subset hx) x zjR rfl
section
theorem sU (G:cK g w)(g3:g.length<=3)(w4:w<=4)(hq:q∈eG (lfs g cs cl od hs)):Ln (lfs g cs cl od hs) q/\LnO hs q/\∀L∈q,L.Sublist (aT pos g):=by
 have ln:=uL _ rfl (fun Ls hLs L hL=>(A0y g).sublist (vD hLs L hL)) q hq;have hsub:∀L∈q,L.Sublist (aT pos g):=fun L hL=>by
  obtain⟨i,hi⟩:=mem_iff_getElem?.mp hL;obtain⟨Ls,hLs,hm⟩:=fS ln.p hi;exact vD (mem_of_getElem? hLs) L hm
 have hin:∀c∈q.flatten,c∈aT pos g:=fun c hc=>by
  obtain⟨M,hM,h⟩:=mem_flatten.mp hc;exact(hsub M hM).subset h
 have hl:q.length=(lfs g cs cl od hs).length:=Paired.length ln.p;have h10:=jA ln.nd hin;rw [eV]at h10;have:=G.c10;refine⟨ln,⟨?_,ln.nd,by omega,fun c hc=>rK G g3 w4 (hin c hc)⟩,hsub⟩;unfold lfs at hl;rw [length_map]at hl;exact hl.symm
theorem nO (G:cK g w)(g3:g.length<=3)(w4:w<=4)(hq:q∈eG (lfs g cs cl od (hI cl)))(hf:q.flatten.length=(aT pos g).length):PkO g cs cl od (fN (aT pos g) (hI cl) q)/\q=(hI cl).map (bW g (fN (aT pos g) (hI cl) q))/\∀c∈aT pos g,∃h,own (hI cl) q c=some h:=by
 obtain⟨ln,O,hsub⟩:=sU G g3 w4 hq;have e:=B03 (wF cl) O.n O.l hsub hf;have hin:∀c∈aT pos g,c∈q.flatten:=by
  intro c hc;by_cases z:c∈q.flatten
  ·exact z
  ·have:=jA (ys:=aT pos g) (nodup_cons.mpr ⟨z,O.n⟩) (fun d hd=>(mem_cons.mp hd).elim (fun e=>e▸hc) fun hd=>by
    obtain⟨M,hM,h⟩:=mem_flatten.mp hd;exact(hsub M hM).subset h)
   rw [length_cons]at this;omega
 have how:∀c∈aT pos g,∃h,own (hI cl) q c=some h:=fun c hc=>by
  have hi:=mY (c:=c) O.l;rw [zjV (hin c hc)]at hi;exact Option.isSome_iff_exists.mp hi
 refine⟨⟨by unfold fN;rw [length_map],fun k hk=> ?_,?_⟩,e,how⟩
 ·obtain⟨c,hc,rfl⟩:=mem_map.mp hk;obtain⟨h,eh⟩:=how c hc;rw [eh];refine gB ?_;unfold own at eh;cases ef:((hI cl).zip q).find? fun z=>decide (c∈z.2)with
  |none=>rw [ef]at eh;cases eh
  |some y=>
   rw [ef]at eh;have:y.1=h:=Option.some.inj eh;show h∈hI cl;rw [←this];exact(of_mem_zip (List.mem_of_find?_eq_some ef)).1
 ·unfold fT;rw [all_eq_true];intro k hk;have hm:(k:Int)∈hI cl:=mem_map.mpr ⟨k,hk,rfl⟩;obtain⟨j,hj⟩:=mem_iff_getElem?.mp hm;have hqj:q[j]?=some (bW g (fN (aT pos g) (hI cl) q) k):=by
   conv=>lhs;rw [e]
   rw [getElem?_map,hj];rfl
  obtain⟨Ls,hLs,hmem⟩:=fS ln.p hqj;unfold lfs at hLs;rw [getElem?_map,hj]at hLs;cases hLs;exact(mem_filter.mp hmem).2
theorem A02 (h3:hs.length<=3)(c6:cT g<=6):(eG (lfs g cs cl od hs)).length<=64^hs.length:=by
 have:=vM hs.length (Lfs:=lfs g cs cl od hs) (by unfold lfs;rw [length_map]) fun Ls hLs=>by
  obtain⟨h',_,rfl⟩:=mem_map.mp hLs;refine le_trans (length_filter_le _ _) ?_;rw [nD,eV];exact le_trans (pow_le_pow_right (by decide) c6) (by decide)
 exact this
theorem A6a:(eG (lfs g cs cl od hs)).Nodup:=xW _ rfl fun Ls hLs=>by
 obtain⟨h',_,rfl⟩:=mem_map.mp hLs;exact(zF _ rfl (A0y g)).sublist filter_sublist
theorem A75 (G:cK g w)(g3:g.length<=3)(w4:w<=4):(((eG (lfs g cs cl od (hI cl))).filter fun q=>decide (q.flatten.length=(aT pos g).length)).map (fN (aT pos g) (hI cl))).Pairwise (· ≠ ·):=by rw [pairwise_map];refine(List.Pairwise.and_mem.mp ((nodup_iff_pairwise_ne.mp (A6a (g:=g) (cs:=cs) (cl:=cl) (od:=od) (hs:=hI cl))).sublist filter_sublist)).imp fun{a b} z e=>z.2.2 ?_;obtain⟨ha,hb⟩:=mem_filter.mp z.1;obtain⟨ha',hb'⟩:=mem_filter.mp z.2.1;rw [(nO G g3 w4 ha (of_decide_eq_true hb)).2.1,(nO G g3 w4 ha' (of_decide_eq_true hb')).2.1,e]
end
noncomputable def nX:Sp:=fun vs H Q _=> ∃p g w cs cl od,vs=[.ref p]/\PleA H p g w cs cl od/\cl.length<=3/\∀l zs H',H l=none->Same H H'->H' l=some (.lst ((zs:List (Addr×List Int)).map fun z=>V.ref z.1))->zs.length<=262144->(∀z∈zs,H' z.1=some (.tup (z.2.map V.int))/\PkO g cs cl od z.2)->Q (.ref l) H'
noncomputable abbrev A9y:List Stmt:=jH ((cR gN).getD 3 pNo)
section
variable {P:Program}{w:World}{K:W.Frag}{mg:Str->Option Value}{base:Heap}
section
variable {f:Addr}{cdv:Value}{A:Around}{outer:List Env}{s:Shared}{H0:Hp}{E:XK}
theorem B0d (T:Txt mg)(hr:Room 4 (XP P w K mg base f cdv A outer s H0 E).A):∃tt,PSs (XP P w K mg base f cdv A outer s H0 E) A9y tt/\
  ∀(D:cY)(o0 o2 o3 o4 o5 o7 o8:Option V)(lc lf d:Addr)(hs:List Int)(q:List (List Pl))(C:List Pl)(pc:List Addr)(xs:List V)(H:Hp),H lc=some (.lst (pc.map V.ref))->PlAt H pc C->C.length<=10->H d=some (.dT (ents hs q))->hs.length=q.length->(q.flatten.length=C.length->∀c∈C,∃h,own hs q c=some h)->H lf=some (.lst xs)->lc≠lf->xs.length<16777216->
   (q.flatten.length≠C.length->D.nx [o0,some (.ref lc),o2,o3,o4,o5,some (.ref d),o7,o8,some (.ref lf)] H)->
   (∀t H',q.flatten.length=C.length->Sb lf H H'->H' lf=some (.lst (xs++[.ref t]))->H' t=some (.tup ((fN C hs q).map V.int))->D.nx [o0,some (.ref lc),o2,o3,o4,o5,some (.ref d),o7,o8,some (.ref lf)] H')->
   tt D [o0,some (.ref lc),o2,o3,o4,o5,some (.ref d),o7,o8,some (.ref lf)] H:=by
 have nd:=scPs.nd;refine⟨_,aQ (bV (bX eW (bH A23 rfl T.len PySem.boot_len (aB (pv 6) aA)) (bH fE rfl T.len PySem.boot_len (aB (pv 1) aA)) (nomark _))
  (aQ (cF (iK PySem.F.plainAttrs_list PySem.F.slot_list_append PySem.F.type_list_append kJ (pv 9) (cI (fG gF rfl T.tuple boot_tuple (cP (bJ (bC gN).names nPs ["_law_cell_here"] [("_law_owners",6)] rfl (cU (pv 1)) rfl rfl rfl (by decide +kernel)
   (fun Z=>nm1 0 wQ) (fun Z=>bZ) (fun Z=>A2z (lt_of_succ_lt (cX hr)) (pv 1) (pv 0) (fun _ _=>rfl))) aA)) aA)))) bU),?_⟩
 intro D o0 o2 o3 o4 o5 o7 o8 lc lf d hs q C pc xs H elc hPc hC10 hd hl how elf nlc hz k0 k1;have hpl:pc.length=C.length:=Paired.length hPc;refine⟨_,rfl,d,_,rfl,hd,_,rfl,lc,_,rfl,.inl (SqL.of elc),rfl,_,rfl,?_⟩;have ed:decide (V.int ((ents hs q).length:Int)=V.int ((pc.map V.ref).length:Int))=decide (q.flatten.length=C.length):=by
  rw [tJ hl,length_map,hpl];exact decide_eq_decide.mpr ⟨fun z=>by have:=V.int.inj z;omega,fun z=>by rw [z]⟩
 rw [ed];refine dR (fun e=> ?_) fun e=>k0 e;have how:=how e;refine⟨_,rfl,.inl ⟨rfl,_,SqL.of elf⟩,_,rfl,lc,rfl,⟨_,SqL.of elc⟩,fun Z l hl'=> ?_⟩;refine dQ (K:=K) (a:=lc) (xs:=pc.map V.ref) (fun j σ H'=>(∃o,σ=[o,some (.ref d)])/\Same H H'/\H' l=some (.lst (((C.take j).map fun c=>(own hs q c).getD 0).map V.int)))
  ⟨⟨_,rfl⟩,aM hl',aG⟩ (fun j σ H' _ h=>SqL.of (h.2.1 _ _ elc)) ?_ ?_
 ·rintro j x σ H' hx ⟨⟨o,rfl⟩,hs',hl2⟩;obtain⟨b,hbj,rfl⟩:=dW hx;obtain⟨c,hc,he⟩:=hPc.at hbj;have hj:j<C.length:=(zjW.mp hc).1;obtain⟨h,eh⟩:=how c (mem_of_getElem? hc);have hv:cS (ents hs q) (kp c)=some (.int h):=by rw [kO,eh];rfl
  have hb':H' b=some (.tup ((kp c).map kV)):=hs' _ _ he;have dg:DGet H' d (.ref b) (some (.int h)):=by rw [←hv];exact DGet.t (hs' _ _ hd) hb'
  refine iP ?_;refine⟨_,rfl,_,rfl,d,.int h,rfl,dg,?_⟩;refine⟨_,hl2,cA (by rw [length_map,length_map,length_take];omega),⟨_,rfl⟩,fun b' u e'=> ?_,?_⟩
  ·rw [aV (bG e' hl')];exact hs' _ _ e'
  ·rw [aG,take_succ,hc,map_append,map_append];show some (HO.lst (_++[V.int h]))=some (HO.lst (_++[V.int ((own hs q c).getD 0)]));rw [eh];rfl
 ·rintro σ H' ⟨_,hs',hl2⟩;rw [length_map,hpl,take_of_length_le (zjQ _)]at hl2;refine⟨l,_,rfl,.inl ⟨SqL.of hl2,fun t ht=> ?_⟩⟩;have u:=aM (o:=.tup ((fN C hs q).map V.int)) ht;have sA:=hs'.trans u;have ntl:t≠lf:=fun z=>by rw [z,hs' _ _ elf]at ht;cases ht
  refine⟨lf,_,_,rfl,rfl,sA _ _ elf,by rw [sizeLine_eq];exact hz,?_⟩;refine k1 t _ e (fun b u' n e'=> ?_) aG ?_
  ·rw [aV n];exact sA _ _ e'
  ·rw [aV ntl];exact aG
end
theorem A6g (F:D1 K mg "_law_partings" gN ["_law_plea"])(T:Txt mg)(T2:dX mg)(a1:A1 P w K mg base 1 "_law_cells" (eP pos))(aH:A1 P w K mg base 1 "_law_holders" oX)(aF:A1 P w K mg base 4 "_law_fit_lands" oQ):A1 P w K mg base 5 "_law_partings" nX:=by
 refine F.k nPs ?_;ac_nf
 ·obtain⟨p,g,w',cs,cl,od,rfl,D,hc3,q⟩:=h;obtain⟨m,c,a,hp,hm,hc,ha⟩:=D.ex;obtain⟨tb,hb,rb⟩:=A60 (P:=P) (w:=w) (K:=K) (mg:=mg) (base:=base) (f:=f) (cdv:=cdv) (A:=A) (outer:=outer) (s:=s) (H0:=H) (E:=E) T2 hr aF;obtain⟨tf,hf,rf⟩:=B0d (P:=P) (w:=w) (K:=K) (mg:=mg) (base:=base) (f:=f) (cdv:=cdv) (A:=A) (outer:=outer) (s:=s) (H0:=H) (E:=E) T hr;refine⟨_,aN (gJ (i:=1) (j:=2) rfl nd rfl rfl (by decide) rfl rfl (cI (a1.c hr (eF (bI cB (pv 0) aK (fun _ _=>rfl)) aA)) (lS (cN (A7u A33 aA)) aA)) rfl)<|
   aN (fF PassesOwn.never rfl (cU (aH.c hr (aB (pv 0) aA))) (nm1 3 nd) hb)<|
   aN (bT (i:=9) nd rfl (Or.inl rfl) (cN aA))<|
   aN (fF PassesOwn.never rfl (cU (pv 2)) (aJ (i:=6) nd rfl (Or.inr rfl)) hf)<|
   aQ (bA (bH zT rfl T2.sorted boot_sorted (aB (pv 9) aA))),?_⟩
  have hlen3:(hI cl).length<=3:=le_trans (A2m cl) hc3;refine⟨_,rfl,p,_,0,_,rfl,rfl,SqT.of hp,rfl,m,g,w',rfl,hm,D.G,fun H1 lc pc hlc s1 elc hPc=> ?_⟩;refine fun d0 hd0=> ⟨by show 1<=sizeLine;decide,fun ln hln=> ?_⟩;have u1:=aM (o:=.dT []) hd0;have u2:=aM (o:=.lst [.ref d0]) hln;have e0:(upd (upd H1 d0 (.dT [])) ln (.lst [.ref d0])) d0=some (.dT (ents [] [])):=u2 _ _ aG;have eln:(upd (upd H1 d0 (.dT [])) ln (.lst [.ref d0])) ln=some (.lst [.ref d0]):=aG;have s3:=s1.trans (u1.trans u2);have s13:=u1.trans u2;generalize upd (upd H1 d0 (.dT [])) ln (.lst [.ref d0])=H3 at e0 eln s3 s13⊢;refine⟨_,_,rfl,?_⟩;refine⟨_,rfl,p,g,w',cs,cl,od,rfl,D.same s3,fun lh H4 hlh s4 elh=> ?_⟩;have s14:=s3.trans s4;have hpl:pc.length=(aT pos g).length:=Paired.length hPc;have elc4:=s4 _ _ (s13 _ _ elc);have hPc4:=(hPc.same s13).same s4;have eh:((aU (bY cl)).map fun k:Nat=>V.int (k:Int))=(hI cl).map V.int:=by unfold hI;rw [map_map];rfl
  rw [eh]at elh;refine⟨lh,rfl,⟨_,SqL.of elh⟩,?_⟩;refine dQ (K:=K) (a:=lh) (xs:=(hI cl).map V.int) (fun j σ H'=>Same H4 H'/\∃ln ds,(∃o3 o4 o5 o6 o7 o8 o9,σ=[some (.ref p),some (.ref lc),some (.ref ln),o3,o4,o5,o6,o7,o8,o9])/\H' ln=some (.lst ((ds:List Addr).map V.ref))/\DlA H' ((hI cl).take j) ds (eG (lfs g cs cl od ((hI cl).take j))))
   ⟨Same.refl _,ln,[d0],⟨_,_,_,_,_,_,_,rfl⟩,s4 _ _ eln,.cons (s4 _ _ e0) .nil⟩ (fun j σ H' _ h=>SqL.of (h.1 _ _ elh)) ?_ ?_
  ·rintro j x σ H' hx ⟨hs,ln,ds,⟨o3,o4,o5,o6,o7,o8,o9,rfl⟩,eln,hD⟩;rw [getElem?_map]at hx;cases hb:(hI cl)[j]? with
   |none=>rw [hb]at hx;cases hx
   |some h=>
    rw [hb]at hx;cases hx;have hj:j<(hI cl).length:=(zjW.mp hb).1;have hl2:((hI cl).take j).length=j:=by rw [length_take];omega
    have hrl:=A02 (g:=g) (cs:=cs) (cl:=cl) (od:=od) (hs:=(hI cl).take j) (by omega) D.c6;rw [hl2]at hrl;have h2:(64:Nat)^j<=64^2:=pow_le_pow_right (by decide) (by omega);refine rb _ (some (.ref lc)) o4 o5 o6 o7 o8 o9 p ln g w' cs cl od h ((hI cl).take j) ds _ H' ((D.same s14).same hs) eln hD (fun q hq=>(sU D.G D.g3 D.w4 hq).2.1) (by omega) fun o4' o5' o6' o7' o8' ln' ds' H2 s2 e2 hD2=> ?_;refine⟨hs.trans s2,ln',ds',⟨_,_,_,_,_,_,_,rfl⟩,e2,?_⟩;have et:(hI cl).take (j+1)=(hI cl).take j++[h]:=by rw [take_succ,hb];rfl
    have el:lfs g cs cl od ((hI cl).take j++[h])=lfs g cs cl od ((hI cl).take j)++[(llG (aT pos g)).filter (dO g cs cl od h)]:=by unfold lfs;rw [map_append];rfl
    rw [et,el,nE];exact hD2
  ·rintro σ H' ⟨hs,ln,ds,⟨o3,o4,o5,o6,o7,o8,o9,rfl⟩,eln,hD⟩;rw [length_map,take_of_length_le (zjQ _)]at hD;have hdl:ds.length=_:=Paired.length hD;have hrl:=A02 (g:=g) (cs:=cs) (cl:=cl) (od:=od) (hs:=hI cl) hlen3 D.c6;have h3:(64:Nat)^(hI cl).length<=64^3:=pow_le_pow_right (by decide) hlen3;refine⟨by show 0<=sizeLine;decide,fun lf hlf=> ?_⟩;have uf:=aM (o:=.lst []) hlf;have sF:=hs.trans uf;have elf:(upd H' lf (.lst [])) lf=some (.lst []):=aG;have nln:ln≠lf:=fun z=>by rw [z,hlf]at eln;cases eln
   have nlc:lc≠lf:=bG (hs _ _ elc4) hlf;have nmem:∀{b u},H' b=some u->b≠lf:=fun h=>bG h hlf;generalize hG:upd H' lf (.lst [])=H5 at uf sF elf⊢;have eln5:=uf _ _ eln;have hD5:=hD.same uf;refine⟨_,rfl,ln,rfl,⟨_,SqL.of eln5⟩,?_⟩;refine dQ (K:=K) (a:=ln) (xs:=ds.map V.ref) (fun j σ H2=>(∃o6,σ=[some (.ref p),some (.ref lc),some (.ref ln),o3,o4,o5,o6,o7,o8,some (.ref lf)])/\Sb lf H5 H2/\∃zs:List (Addr×List Int),H2 lf=some (.lst (zs.map fun z=>V.ref z.1))/\(∀z∈zs,H2 z.1=some (.tup (z.2.map V.int)))/\zs.map (·.2)=(((eG (lfs g cs cl od (hI cl))).take j).filter fun q=>decide (q.flatten.length=(aT pos g).length)).map (fN (aT pos g) (hI cl)))
    ⟨⟨_,rfl⟩,Sb.refl _ _,[],elf,(fun z hz=>by cases hz),rfl⟩ (fun j σ H2 _ h=>SqL.of (h.2.1 _ _ nln eln5)) ?_ ?_
   ·rintro j x σ H2 hx ⟨⟨o6',rfl⟩,hs2,zs,e2,hz2,hm2⟩;obtain⟨d,hdj,rfl⟩:=dW hx;obtain⟨qq,hqj,ed⟩:=fS hD5 hdj;have hmq:=mem_of_getElem? hqj;obtain⟨_,O,_⟩:=sU D.G D.g3 D.w4 hmq;have nd':d≠lf:=fun z=>by rw [z,elf]at ed;cases ed
    have x2:=hs2.ext elf e2;have hzl:zs.length<=262144:=by
     have h1:=congrArg List.length hm2;rw [length_map,length_map]at h1;have h2:=length_filter_le (fun q=>decide (q.flatten.length=(aT pos g).length)) ((eG (lfs g cs cl od (hI cl))).take j);rw [length_take]at h2;omega
    have hPc5:PlAt H2 pc (aT pos g):=Paired.mapP ((hPc4.same hs).same uf) fun _ _ e=>x2.tup _ _ e;have et:((eG (lfs g cs cl od (hI cl))).take (j+1)).filter (fun q=>decide (q.flatten.length=(aT pos g).length))=((eG (lfs g cs cl od (hI cl))).take j).filter (fun q=>decide (q.flatten.length=(aT pos g).length))++(if decide (qq.flatten.length=(aT pos g).length)=true then [qq]else []):=by
     rw [take_succ,hqj,filter_append]
     congr 1
     by_cases z:decide (qq.flatten.length=(aT pos g).length)=true
     ·simp only [Option.toList,filter_cons,filter_nil,z,if_true]
     ·simp only [Option.toList,filter_cons,filter_nil,if_neg z]
    refine rf _ (some (.ref p)) (some (.ref ln)) o3 o4 o5 o7 o8 lc lf d (hI cl) qq (aT pos g) pc _ H2 (hs2 _ _ nlc (uf _ _ (hs _ _ elc4))) hPc5 (by rw [eV];exact D.G.c10) (hs2 _ _ nd' ed) O.l (fun e=>(nO D.G D.g3 D.w4 hmq e).2.2) e2 nlc (by rw [length_map];omega) (fun e=> ?_) fun t H3 e s3 e3 et3=> ?_
    ·refine⟨⟨_,rfl⟩,hs2,zs,e2,hz2,?_⟩;rw [et,if_neg (by rw [zjU e];decide),append_nil];exact hm2
    ·refine⟨⟨_,rfl⟩,hs2.trans s3,zs++[(t,fN (aT pos g) (hI cl) qq)],by rw [e3,map_append];rfl,fun z hz=> ?_,?_⟩
     ·rcases mem_append.mp hz with hz|hz
      ·exact s3 _ _ (fun y=>by have:=hz2 z hz;rw [y,e2]at this;cases this) (hz2 z hz)
      ·rw [mem_singleton.mp hz];exact et3
     ·rw [et,if_pos (zjV e),map_append,map_append,hm2];rfl
   ·rintro σ H2 ⟨⟨o6',rfl⟩,hs2,zs,e2,hz2,hm2⟩;rw [length_map,hdl,take_of_length_le (zjQ _)]at hm2;have hzl:zs.length<=262144:=by
     have h1:=congrArg List.length hm2;rw [length_map,length_map]at h1;have h2:=length_filter_le (fun q=>decide (q.flatten.length=(aT pos g).length)) (eG (lfs g cs cl od (hI cl)));omega
    have hok:∀z∈zs,PkO g cs cl od z.2:=fun z hz=>by
     have:z.2∈zs.map (·.2):=mem_map.mpr ⟨z,hz,rfl⟩;rw [hm2]at this;obtain⟨qq,hq,e⟩:=mem_map.mp this;obtain⟨h1,h2⟩:=mem_filter.mp hq;rw [←e];exact(nO D.G D.g3 D.w4 h1 (of_decide_eq_true h2)).1
    refine⟨_,rfl,lf,zs,rfl,SqL.of e2,fun z hz=> ⟨hz2 z hz,fun e=> ?_⟩,by omega,fun _=>by rw [hm2];exact A75 D.G D.g3 D.w4,fun lz zs' hlz hS=> ?_⟩
    ·have h1:=(hok z hz).l;rw [e,eV]at h1;have:=D.G.c1;simp at h1;omega
    ·have uz:=aM (o:=.lst (zs'.map fun z=>V.ref z.1)) hlz;have sE:Same H H2:=fun b u e=>hs2 b u (nmem (hs _ _ (s14 _ _ e))) (sF _ _ (s14 _ _ e));refine q lz zs' _ (sE.free hlz) (sE.trans uz) aG (by rw [hS.1.length_eq];exact hzl) fun z hz=> ?_;have hz':=hS.1.mem_iff.mp hz;exact⟨uz _ _ (hz2 z hz'),hok z hz'⟩
end
noncomputable def bS (w:Nat)(vs:List Int)(k:Nat):List Int:=(List.range w).map fun i=>vs.getD (k*w+i) (-2)
noncomputable def bE (w:Nat)(vs:List Int):List (List Int):=replicate w (-1)::(List.range ((vs.length+w - 1)/w)).map (bS w vs)
theorem B09 (hw:w=3\/w=4)(hn:vs.length<6):∃pre last,(if vs.length%w=0 then bE w vs++[replicate w (-2)]else bE w vs)=pre++[last]/\last.length=w/\∀v,bE w (vs++[v])=pre++[last.set (vs.length%w) v]:=by
 rcases hw with rfl|rfl
 ·match vs,hn with
  | [],_=>exact⟨[[-1,-1,-1]],[-2,-2,-2],by simp [bE,bS,List.range,List.range.loop],rfl,fun v=>by simp [bE,bS,List.range,List.range.loop]⟩
  | [a],_=>exact⟨[[-1,-1,-1]],[a,-2,-2],by simp [bE,bS,List.range,List.range.loop],rfl,fun v=>by simp [bE,bS,List.range,List.range.loop]⟩
  | [a,b],_=>exact⟨[[-1,-1,-1]],[a,b,-2],by simp [bE,bS,List.range,List.range.loop],rfl,fun v=>by simp [bE,bS,List.range,List.range.loop]⟩
  | [a,b,c],_=>exact⟨[[-1,-1,-1],[a,b,c]],[-2,-2,-2],by simp [bE,bS,List.range,List.range.loop],rfl,fun v=>by simp [bE,bS,List.range,List.range.loop]⟩
  | [a,b,c,d],_=>exact⟨[[-1,-1,-1],[a,b,c]],[d,-2,-2],by simp [bE,bS,List.range,List.range.loop],rfl,fun v=>by simp [bE,bS,List.range,List.range.loop]⟩
  | [a,b,c,d,e],_=>exact⟨[[-1,-1,-1],[a,b,c]],[d,e,-2],by simp [bE,bS,List.range,List.range.loop],rfl,fun v=>by simp [bE,bS,List.range,List.range.loop]⟩
  |_::_::_::_::_::_::_,h=>simp at h;omega
 ·match vs,hn with
  | [],_=>exact⟨[[-1,-1,-1,-1]],[-2,-2,-2,-2],by simp [bE,bS,List.range,List.range.loop],rfl,fun v=>by simp [bE,bS,List.range,List.range.loop]⟩
  | [a],_=>exact⟨[[-1,-1,-1,-1]],[a,-2,-2,-2],by simp [bE,bS,List.range,List.range.loop],rfl,fun v=>by simp [bE,bS,List.range,List.range.loop]⟩
  | [a,b],_=>exact⟨[[-1,-1,-1,-1]],[a,b,-2,-2],by simp [bE,bS,List.range,List.range.loop],rfl,fun v=>by simp [bE,bS,List.range,List.range.loop]⟩
  | [a,b,c],_=>exact⟨[[-1,-1,-1,-1]],[a,b,c,-2],by simp [bE,bS,List.range,List.range.loop],rfl,fun v=>by simp [bE,bS,List.range,List.range.loop]⟩
  | [a,b,c,d],_=>exact⟨[[-1,-1,-1,-1],[a,b,c,d]],[-2,-2,-2,-2],by simp [bE,bS,List.range,List.range.loop],rfl,fun v=>by simp [bE,bS,List.range,List.range.loop]⟩
  | [a,b,c,d,e],_=>exact⟨[[-1,-1,-1,-1],[a,b,c,d]],[e,-2,-2,-2],by simp [bE,bS,List.range,List.range.loop],rfl,fun v=>by simp [bE,bS,List.range,List.range.loop]⟩
  |_::_::_::_::_::_::_,h=>simp at h;omega
noncomputable def cC (w:Nat)(vs:List Int):bD:=match bE w vs with
 | [a,b,c]=> [b,a,c]
 |g=>g
theorem A88 (hw:w=3\/w=4)(h2:2<=vs.length)(h6:vs.length<=6)(hv:∀v∈vs,0<=v/\v<=99):cK (cC w vs) w/\(cC w vs).length<=3/\cT (cC w vs)<=6/\((bE w vs).length=2\/(bE w vs).length=3):=by
 have key:∀g:bD,1<=g.length->g.length<=3->(∀xs∈g,xs.length=w)->(∀xs∈g,∀n∈xs,n= -1\/n= -2\/n∈vs)->1<=cT g->cT g<=6->cK g w/\g.length<=3/\cT g<=6:=fun g h1 h3 hl hn c1 c6=>
  ⟨⟨h1,by omega,by omega,by omega,hl,fun xs hx n hm=>by
   rcases hn xs hx n hm with e|e|e
   ·omega
   ·omega
   ·have:=hv n e;omega,c1,by omega⟩,h3,c6⟩
 have c0:pos (-1)=false:=by decide
 have c2:pos (-2)=false:=by decide
 have cv:∀v∈vs,pos v=true:=fun v h=>zjV (hv v h).1;rcases hw with rfl|rfl
 ·match vs,h2,h6 with
  | [a,b],_,_=>
   have e:cC 3 [a,b]=[[-1,-1,-1],[a,b,-2]]:=by simp [cC,bE,bS,List.range,List.range.loop,replicate]
   rw [e];refine⟨(key _ (by simp) (by simp) (by simp) (by simp) ?_ ?_).1,by simp,?_,.inl (by simp [bE])⟩<;>simp [cT,fC,c0,c2,cv a (by simp),cv b (by simp)]
  | [a,b,c],_,_=>
   have e:cC 3 [a,b,c]=[[-1,-1,-1],[a,b,c]]:=by simp [cC,bE,bS,List.range,List.range.loop,replicate]
   rw [e];refine⟨(key _ (by simp) (by simp) (by simp) (by simp) ?_ ?_).1,by simp,?_,.inl (by simp [bE])⟩<;>simp [cT,fC,c0,c2,cv a (by simp),cv b (by simp),cv c (by simp)]
  | [a,b,c,d],_,_=>
   have e:cC 3 [a,b,c,d]=[[a,b,c],[-1,-1,-1],[d,-2,-2]]:=by simp [cC,bE,bS,List.range,List.range.loop,replicate]
   rw [e];refine⟨(key _ (by simp) (by simp) (by simp) (by simp) ?_ ?_).1,by simp,?_,.inr (by simp [bE])⟩<;>simp [cT,fC,c0,c2,cv a (by simp),cv b (by simp),cv c (by simp),cv d (by simp)]
  | [a,b,c,d,f],_,_=>
   have e:cC 3 [a,b,c,d,f]=[[a,b,c],[-1,-1,-1],[d,f,-2]]:=by simp [cC,bE,bS,List.range,List.range.loop,replicate]
   rw [e];refine⟨(key _ (by simp) (by simp) (by simp) (by simp) ?_ ?_).1,by simp,?_,.inr (by simp [bE])⟩<;>simp [cT,fC,c0,c2,cv a (by simp),cv b (by simp),cv c (by simp),cv d (by simp),cv f (by simp)]
  | [a,b,c,d,f,h],_,_=>
   have e:cC 3 [a,b,c,d,f,h]=[[a,b,c],[-1,-1,-1],[d,f,h]]:=by simp [cC,bE,bS,List.range,List.range.loop,replicate]
   rw [e];refine⟨(key _ (by simp) (by simp) (by simp) (by simp) ?_ ?_).1,by simp,?_,.inr (by simp [bE])⟩<;>simp [cT,fC,c0,c2,cv a (by simp),cv b (by simp),cv c (by simp),cv d (by simp),cv f (by simp),cv h (by simp)]
  | [],h,_=>simp at h
  | [_],h,_=>simp at h
  |_::_::_::_::_::_::_::_,_,h=>simp at h
 ·match vs,h2,h6 with
  | [a,b],_,_=>
   have e:cC 4 [a,b]=[[-1,-1,-1,-1],[a,b,-2,-2]]:=by simp [cC,bE,bS,List.range,List.range.loop,replicate]
   rw [e];refine⟨(key _ (by simp) (by simp) (by simp) (by simp) ?_ ?_).1,by simp,?_,.inl (by simp [bE])⟩<;>simp [cT,fC,c0,c2,cv a (by simp),cv b (by simp)]
  | [a,b,c],_,_=>
   have e:cC 4 [a,b,c]=[[-1,-1,-1,-1],[a,b,c,-2]]:=by simp [cC,bE,bS,List.range,List.range.loop,replicate]
   rw [e];refine⟨(key _ (by simp) (by simp) (by simp) (by simp) ?_ ?_).1,by simp,?_,.inl (by simp [bE])⟩<;>simp [cT,fC,c0,c2,cv a (by simp),cv b (by simp),cv c (by simp)]
  | [a,b,c,d],_,_=>
   have e:cC 4 [a,b,c,d]=[[-1,-1,-1,-1],[a,b,c,d]]:=by simp [cC,bE,bS,List.range,List.range.loop,replicate]
   rw [e];refine⟨(key _ (by simp) (by simp) (by simp) (by simp) ?_ ?_).1,by simp,?_,.inl (by simp [bE])⟩<;>simp [cT,fC,c0,c2,cv a (by simp),cv b (by simp),cv c (by simp),cv d (by simp)]
  | [a,b,c,d,f],_,_=>
   have e:cC 4 [a,b,c,d,f]=[[a,b,c,d],[-1,-1,-1,-1],[f,-2,-2,-2]]:=by simp [cC,bE,bS,List.range,List.range.loop,replicate]
   rw [e];refine⟨(key _ (by simp) (by simp) (by simp) (by simp) ?_ ?_).1,by simp,?_,.inr (by simp [bE])⟩<;>simp [cT,fC,c0,c2,cv a (by simp),cv b (by simp),cv c (by simp),cv d (by simp),cv f (by simp)]
  | [a,b,c,d,f,h],_,_=>
   have e:cC 4 [a,b,c,d,f,h]=[[a,b,c,d],[-1,-1,-1,-1],[f,h,-2,-2]]:=by simp [cC,bE,bS,List.range,List.range.loop,replicate]
   rw [e];refine⟨(key _ (by simp) (by simp) (by simp) (by simp) ?_ ?_).1,by simp,?_,.inr (by simp [bE])⟩<;>simp [cT,fC,c0,c2,cv a (by simp),cv b (by simp),cv c (by simp),cv d (by simp),cv f (by simp),cv h (by simp)]
  | [],h,_=>simp at h
  | [_],h,_=>simp at h
  |_::_::_::_::_::_::_::_,_,h=>simp at h
noncomputable def LsA (H:Hp)(rs:List Addr)(Rs:List (List Int)):Prop:=Paired (fun r row=>H r=some (.lst ((row:List Int).map V.int))) rs Rs
theorem xS:∀{pre:List β}{last:β}{rs:List α},Paired F rs (pre++[last])->∃rp rl,rs=rp++[rl]/\Paired F rp pre/\F rl last
 | [],last,_,.cons r .nil=> ⟨[],_,rfl,.nil,r⟩
 |x::pre,last,_,.cons r t=>by
  obtain⟨rp,rl,e,h1,h2⟩:=xS t;exact⟨_::rp,rl,by rw [e];rfl,.cons r h1,h2⟩
structure LwA (p lr:Addr)(H H':Hp)(rs:List Addr)(Rs:List (List Int)):Prop where
 st:Stp p H H'
 l:H' lr=some (.lst (rs.map V.ref))
 r:LsA H' rs Rs
 n:rs.Nodup
 f:∀r∈rs,H r=none/\r≠lr/\r≠p
theorem LwA.stp (x:LwA p lr H H' rs Rs)(hl:lr≠p)(s:Stp p H' H2):LwA p lr H H2 rs Rs:=by
 refine⟨x.st.trans s,s.keep _ _ hl x.l,?_,x.n,x.f⟩;have key:∀{rs:List Addr}{Rs:List (List Int)},LsA H' rs Rs->(∀r∈rs,r≠p)->LsA H2 rs Rs:=by
  intro rs Rs h
  induction h with
  |nil=>intro _;exact .nil
  |cons r t ih=>intro hn;exact .cons (s.keep _ _ (hn _ zjR) r) (ih fun r hr=>hn r (zjS _ hr))
 exact key x.r fun r hr=>(x.f r hr).2.2
theorem LwA.same (x:LwA p lr H H' rs Rs)(s:Same H' H2):LwA p lr H H2 rs Rs:=⟨x.st.same s,s _ _ x.l,Paired.mapP x.r fun _ _ e=>s _ _ e,x.n,x.f⟩
noncomputable abbrev nLo:List Str:=["_law_pen_here","_law_many","_law_wide","_law_rows","_law_at","_law_worths","_law_claims","_law_mead","_law_odd"]
theorem scLo:gK nLo ["_law_pen_here"] (bC fA):=by ac_rfl
noncomputable abbrev XO (P:Program)(w:World)(K:W.Frag)(mg:Str->Option Value)(base:Heap)(f:Addr)(cdv:Value)(A:Around)(outer:List Env)(s:Shared)(H0:Hp)(E:XK):Cx:=(fH CX0 P w K mg base nLo "_law_loose" (bC fA) f cdv A outer s H0 E).nox
noncomputable abbrev bFill:List Stmt:=jH ((cR fA).getD 2 pNo)
section
variable {P:Program}{w:World}{K:W.Frag}{mg:Str->Option Value}{base:Heap}
variable {f:Addr}{cdv:Value}{A:Around}{outer:List Env}{s:Shared}{H0:Hp}{E:XK}
theorem A6e:atI ((rp++[rl]).map V.ref) (-1)=some (V.ref rl):=by
 unfold atI ixN;rw [if_neg (by decide),if_pos (by rw [length_map,length_append,length_singleton];omega)];show((rp++[rl]).map V.ref)[((-1:Int)+(((rp++[rl]).map V.ref).length:Nat)).toNat]?=_;have e:((-1:Int)+(((rp++[rl]).map V.ref).length:Nat)).toNat=rp.length:=by rw [length_map,length_append,length_singleton];omega
 rw [e,getElem?_map,getElem?_append_right (zjQ _),Nat.sub_self];rfl
theorem A9j (TC:TxC mg)(hr:Room 1 (XO P w K mg base f cdv A outer s H0 E).A)(aD:A1 P w K mg base 1 "_law_draw" gG):∃tt,PSs (XO P w K mg base f cdv A outer s H0 E) (bFill.drop 1) tt/\
  ∀(D:cY)(o5 o6 o7 o8:Option V)(p lr:Addr)(m:Int)(w n:Nat)(pre:List (List Int))(last:List Int)(rs:List Addr)(H H':Hp),PenAt H p->H lr=none->lr≠p->0<w->last.length=w->LwA p lr H H' rs (pre++[last])->
   (∀o5' v rs' H2,0<=v->v<=99->LwA p lr H H2 rs' (pre++[last.set (n%w) v])->D.nx [some (.ref p),some (.int m),some (.int w),some (.ref lr),some (.int (n:Nat)),o5',o6,o7,o8] H2)->
   tt D [some (.ref p),some (.int m),some (.int w),some (.ref lr),some (.int (n:Nat)),o5,o6,o7,o8] H':=by
 have nd:=scLo.nd;refine⟨_,aN (bT (i:=5) nd rfl (Or.inl rfl) (cN (dE (bF eO aK (aD.c hr (aB (pv 0) (cM aK aA)))) (cI (aD.c hr (aB (pv 0) (cM aK aA))) aA))))<|
  aQ (dS (bI dM (pv 5) (fG wV rfl TC.int boot_int (A9p (eL eW (aD.c hr (aB (pv 0) (cM aK aA))) aK (nomark _)) aA)) (fun _ _=>rfl)) (pZ (bI dM (pv 3) (jR iY aK) (fun _ _=>rfl)) (bF gR (pv 4) (pv 2)) rV)),?_⟩
 intro D o5 o6 o7 o8 p lr m w' n pre last rs H H' pen hlr nlr hw hll X k;refine⟨_,rfl,p,3,rfl,X.st.pen,by decide,by decide,fun d1 H1 a1 a2 st1=> ?_⟩;have X1:=X.stp nlr st1;refine⟨_,_,rfl,rfl,_,rfl,p,30,rfl,X1.st.pen,by decide,by decide,fun d2 H2 b1 b2 st2=> ?_⟩;have X2:=X1.stp nlr st2;refine⟨by show 2<=sizeLine;decide,fun lw hlw=> ?_⟩;have X3:=X2.same (aM (o:=.lst [.int (1+d1),.int d2]) hlw);have elw:(upd H2 lw (.lst [.int (1+d1),.int d2])) lw=some (.lst [.int (1+d1),.int d2]):=aG;have nlw:lw≠p:=X2.st.pen.fresh hlw;generalize upd H2 lw (.lst [.int (1+d1),.int d2])=H3 at X3 elw⊢;refine⟨_,rfl,_,rfl,p,4,rfl,X3.st.pen,by decide,by decide,fun d3 H4 c1 c2 st4=> ?_⟩;have X4:=X3.stp nlr st4;have elw4:=st4.keep _ _ nlw elw;obtain⟨rp,rl,ers,hrp,hrl⟩:=xS X4.r;have fin:∀v:Int,0<=v->v<=99->LwA p lr H (upd H4 rl (.lst ((last.map V.int).set (n%w') (.int v)))) rs (pre++[last.set (n%w') v]):=fun v v0 v1=>by
  have hmem:rl∈rs:=by rw [ers];exact mem_append_right _ zjR
  obtain⟨f1,f2,f3⟩:=X4.f rl hmem;refine⟨X4.st.updO f1 pen,by rw [aV (Ne.symm f2)];exact X4.l,?_,X4.n,X4.f⟩;have hn:=X4.n;rw [ers,nodup_append]at hn;rw [ers];refine Paired.snoc ?_ (by rw [aG,List.map_set]);have key:∀{rp:List Addr}{pre:List (List Int)},LsA H4 rp pre->(∀r∈rp,r≠rl)->LsA (upd H4 rl (.lst ((last.map V.int).set (n%w') (.int v)))) rp pre:=by
   intro rp pre h
   induction h with
   |nil=>intro _;exact .nil
   |cons r t ih=>intro hn;exact .cons (by rw [aV (hn _ zjR)];exact r) (ih fun r hr=>hn r (zjS _ hr))
  exact key hrp fun r hr=>hn.2.2 r hr rl zjR
 have hmod:((n:Int)%(w':Int))=((n%w':Nat):Int):=(Int.natCast_emod n w').symm;have hlt:n%w'<w':=mod_lt _ hw;have put:∀v:Int,0<=v->v<=99->∃(pp:Addr)(xs:List V)(kk:Int)(j:Nat),V.ref rl= .ref pp/\V.int ((n:Int)%(w':Int))= .int kk/\H4 pp=some (.lst xs)/\ixN xs.length kk=some j/\D.nx [some (.ref p),some (.int m),some (.int w'),some (.ref lr),some (.int (n:Nat)),some (.ref lw),o6,o7,o8] (upd H4 pp (.lst (xs.set j (.int v)))):=fun v v0 v1=>by
  refine⟨rl,last.map V.int,_,n%w',rfl,rfl,hrl,?_,k _ v rs _ v0 v1 (fin v v0 v1)⟩;unfold ixN;rw [hmod,if_pos (by omega),if_pos (by rw [length_map,hll];omega)];rfl
 have hrows:atI (rs.map V.ref) (-1)=some (V.ref rl):=by rw [ers];exact A6e
 refine⟨rfl,.inr ⟨_,rfl,?_⟩⟩;have hd:decide (V.int d3=V.int 0)=decide (d3=0):=decide_eq_decide.mpr ⟨fun z=>V.int.inj z,fun z=>by rw [z]⟩;rw [hd];by_cases z:d3=0
 ·rw [zjV z];refine⟨lw,_,1,.int d2,rfl,rfl,SqL.of elw4,bR (j:=1) rfl,?_⟩;exact⟨_,rfl,_,rfl,lr,_,-1,.ref rl,rfl,rfl,SqL.of X4.l,hrows,_,rfl,_,rfl,_,_,rfl,rfl,by omega,put d2 b1 (by omega)⟩
 ·rw [zjU z];refine⟨lw,_,0,.int (1+d1),rfl,rfl,SqL.of elw4,bR (j:=0) rfl,?_⟩;exact⟨_,rfl,_,rfl,lr,_,-1,.ref rl,rfl,rfl,SqL.of X4.l,hrows,_,rfl,_,rfl,_,_,rfl,rfl,by omega,put (1+d1) (by omega) (by omega)⟩
end
theorem xA (n:Nat)(x:Int):(replicate n [V.int x]).flatten=(replicate n x).map V.int:=by
 induction n with
 |zero=>rfl
 |succ n ih=>rw [replicate_succ,flatten_cons,ih,replicate_succ];rfl
section
variable {P:Program}{w:World}{K:W.Frag}{mg:Str->Option Value}{base:Heap}
section
variable {f:Addr}{cdv:Value}{A:Around}{outer:List Env}{s:Shared}{H0:Hp}{E:XK}
theorem A98 (TC:TxC mg)(hr:Room 1 (XO P w K mg base f cdv A outer s H0 E).A)(aD:A1 P w K mg base 1 "_law_draw" gG):∃tt,PSs (XO P w K mg base f cdv A outer s H0 E) bFill tt/\
  ∀(D:cY)(o5 o6 o7 o8:Option V)(p lr:Addr)(m:Int)(w:Nat)(vs:List Int)(rs:List Addr)(H H':Hp),PenAt H p->H lr=none->lr≠p->(w=3\/w=4)->vs.length<6->LwA p lr H H' rs (bE w vs)->
   (∀o5' v rs' H2,0<=v->v<=99->LwA p lr H H2 rs' (bE w (vs++[v]))->D.nx [some (.ref p),some (.int m),some (.int w),some (.ref lr),some (.int (vs.length:Nat)),o5',o6,o7,o8] H2)->
   tt D [some (.ref p),some (.int m),some (.int w),some (.ref lr),some (.int (vs.length:Nat)),o5,o6,o7,o8] H':=by
 have nd:=scLo.nd;obtain⟨tb,hb,rb⟩:=A9j (P:=P) (w:=w) (K:=K) (mg:=mg) (base:=base) (f:=f) (cdv:=cdv) (A:=A) (outer:=outer) (s:=s) (H0:=H0) (E:=E) TC hr aD;have eb:bFill=bFill.getD 0 pNo::bFill.drop 1:=rfl;rw [eb];generalize bFill.drop 1=S1 at hb;refine⟨_,aN (bV (bX eW (bF gR (pv 4) (pv 2)) aK (nomark _)) (aQ (cF (iK PySem.F.plainAttrs_list PySem.F.slot_list_append PySem.F.type_list_append kJ (pv 3) (dE (bF xR (cN (oC (jR iY aK) aA)) (pv 2)) aA)))) bU) hb,?_⟩;intro D o5 o6 o7 o8 p lr m w' vs rs H H' pen hlr nlr hw hn X k;obtain⟨pre,last,eB,hll,eN⟩:=B09 hw hn;have hwp:0<w':=by omega
 have hmod:((vs.length:Int)%(w':Int))=((vs.length%w':Nat):Int):=(Int.natCast_emod _ _).symm;have go:∀(rs:List Addr)(H1:Hp),LwA p lr H H1 rs (pre++[last])->tb D [some (.ref p),some (.int m),some (.int w'),some (.ref lr),some (.int (vs.length:Nat)),o5,o6,o7,o8] H1:=fun rs H1 X1=>
  rb D o5 o6 o7 o8 p lr m w' vs.length pre last rs H H1 pen hlr nlr hwp hll X1 fun o5' v rs' H2 v0 v1 X2=>k o5' v rs' H2 v0 v1 (by rw [eN];exact X2)
 refine⟨_,rfl,_,rfl,_,_,rfl,rfl,by omega,rfl,_,rfl,?_⟩;have ed:decide (V.int ((vs.length:Int)%(w':Int))=V.int 0)=decide (vs.length%w'=0):=by
  rw [hmod];exact decide_eq_decide.mpr ⟨fun z=>by have:=V.int.inj z;omega,fun z=>by rw [z];rfl⟩
 rw [ed];refine dR (fun e=> ?_) fun e=> ?_
 ·rw [if_pos e]at eB;refine⟨_,rfl,.inl ⟨rfl,_,SqL.of X.l⟩,_,rfl,by show 1<=sizeLine;decide,fun l1 hl1=> ?_⟩;have X1:=X.same (aM (o:=.lst [.int (-1*2)]) hl1);have s1:Same H' (upd H' l1 (.lst [V.int (-2)])):=aM hl1;refine⟨_,rfl,l1,(w':Int),_,rfl,rfl,aG,by omega,by omega,by rw [sizeLine_eq,Int.toNat_natCast];show 1*w'<=_;omega,fun r0 hr0=> ?_⟩;have X2:=(X.same s1).same (aM (o:=.lst (replicate ((w':Int)).toNat [V.int (-2)]).flatten) hr0);have er0:(upd (upd H' l1 (.lst [V.int (-2)])) r0 (.lst (replicate ((w':Int)).toNat [V.int (-2)]).flatten)) r0=some (.lst ((replicate w' (-2)).map V.int)):=by rw [aG,Int.toNat_natCast,xA]
  have hfr:H r0=none/\r0≠p:=(X.st.same s1).none hr0;have nr0:r0≠lr:=fun z=>by rw [z,s1 _ _ X.l]at hr0;cases hr0
  have nmem:∀r∈rs,r≠r0:=fun r hr z=>by
   obtain⟨i,hi⟩:=mem_iff_getElem?.mp hr;obtain⟨row,_,er⟩:=fS X.r hi;rw [z]at er;rw [s1 _ _ er]at hr0;cases hr0
  have hrl:rs.length<=1000:=by
   have h1:rs.length=_:=Paired.length X.r;have h2:=congrArg List.length eB;unfold bE at h1;rw [length_cons,length_map,length_range]at h1;have:(vs.length+w' - 1)/w'<=vs.length+w' - 1:=Nat.div_le_self _ _;omega
  generalize upd (upd H' l1 (.lst [V.int (-2)])) r0 (.lst (replicate ((w':Int)).toNat [V.int (-2)]).flatten)=H2 at X2 er0⊢;refine⟨lr,_,_,rfl,rfl,X2.l,cA (by rw [length_map];exact hrl),?_⟩;refine go (rs++[r0]) _ ⟨X2.st.updO hlr pen,by rw [aG,map_append];rfl,?_,?_,fun r hr=> ?_⟩
  ·rw [←eB];have ne:∀{b u},H2 b=some (.lst u)->b≠lr->(upd H2 lr (.lst (rs.map V.ref++[.ref r0]))) b=some (.lst u):=fun h n=>by rw [aV n];exact h
   refine Paired.snoc ?_ (ne er0 nr0);have key:∀{rp:List Addr}{pre:List (List Int)},LsA H2 rp pre->(∀r∈rp,r≠lr)->LsA (upd H2 lr (.lst (rs.map V.ref++[.ref r0]))) rp pre:=by
    intro rp pre h
    induction h with
    |nil=>intro _;exact .nil
    |cons r t ih=>intro hn;exact .cons (ne r (hn _ zjR)) (ih fun r hr=>hn r (zjS _ hr))
   exact key X2.r fun r hr=>(X2.f r hr).2.1
  ·rw [nodup_append];exact⟨X2.n,by simp,fun a ha b hb e=>nmem a ha (by rw [e,mem_singleton.mp hb])⟩
  ·rcases mem_append.mp hr with h|h
   ·exact X2.f r h
   ·rw [mem_singleton.mp h];exact⟨hfr.1,nr0,hfr.2⟩
 ·rw [if_neg e]at eB;refine go rs H' ?_;rw [←eB];exact X
end
end
noncomputable abbrev bEnd:List Stmt:=(cR fA).drop 6
theorem A6p:(["_law_row"]:List Str).Nodup:=by decide +kernel
structure Cl0 (n:Nat)(cl:List C3):Prop where
 l:cl.length<=n
 b:∀c∈cl,0<=c.1/\c.1<n/\c.2.1=0/\1<=c.2.2/\c.2.2<=3
 up:cl.Pairwise fun a b=>a.1<b.1
theorem Cl0.ok (h:Cl0 4 cl)(h1:1<=cl.length):fV (cl.take 3)/\(∀c∈cl.take 3,c.2.1=0)/\(cl.take 3).length<=3:=by
 have hl:(cl.take 3).length=min 3 cl.length:=length_take;have hm:∀c∈cl.take 3,c∈cl:=fun c hc=>mem_of_mem_take hc;have hp:(cl.take 3).Pairwise fun a b=>a.1<b.1:=h.up.sublist (take_sublist 3 cl);refine⟨⟨by omega,by omega,fun c hc=> ?_,?_⟩,fun c hc=>(h.b c (hm c hc)).2.2.1,by omega⟩
 ·have:=h.b c (hm c hc);omega
 ·rw [pairwise_map];refine hp.imp fun{a b} z=> ?_;unfold lt2 lP;rw [HT.lexLt_cons,if_neg (by show a.1≠b.1;omega)];exact zjV z
theorem A8v (xs:List V):cutV xs none (some 3)=xs.take 3:=by
 have e1:HT.sIx xs.length xs.length (some 3)=min 3 xs.length:=HT.sIx_nat _ _ 3;have e2:HT.sIx xs.length 0 none=0:=rfl;unfold cutV;rw [e1,e2,drop_zero,Nat.sub_zero];by_cases h:3<=xs.length
 ·rw [Nat.min_eq_left h]
 ·rw [take_of_length_le (by omega),take_of_length_le (by omega)]
theorem zK:∀{n:Nat}{xs:List α}{ys:List β},Paired F xs ys->Paired F (xs.take n) (ys.take n)
 |0,_,_,_=>by rw [take_zero,take_zero];exact .nil
 |_+1,_,_,.nil=> .nil
 |n+1,_,_,.cons r t=> .cons r (zK (n:=n) t)
section
variable {P:Program}{w:World}{K:W.Frag}{mg:Str->Option Value}{base:Heap}
variable {f:Addr}{cdv:Value}{A:Around}{outer:List Env}{s:Shared}{H0:Hp}{E:XK}
theorem A1p (TC:TxC mg)(hr:Room 1 (XO P w K mg base f cdv A outer s H0 E).A)(aD:A1 P w K mg base 1 "_law_draw" gG):∃tt,PSs (XO P w K mg base f cdv A outer s H0 E) bEnd tt/\
  ∀(D:cY)(o1 o2 o4 o5 o7 o8:Option V)(p lr lc:Addr)(w:Nat)(g:bD)(rs bs:List Addr)(cl:List C3)(H H':Hp),Stp p H H'->H' lr=some (.lst (rs.map V.ref))->LsA H' rs g->H' lc=some (.lst (bs.map V.ref))->lc≠p->ClP H' bs cl->Cl0 4 cl->1<=cl.length->cK g w->w<=4->g.length<=3->cT g<=6->
   (∀t cs cl od H2,Stp p H H2->PleA H2 t g w cs cl od->cl.length<=3->D.rt (.ref t) H2)->
   tt D [some (.ref p),o1,o2,some (.ref lr),o4,o5,some (.ref lc),o7,o8] H':=by
 have nd:=scLo.nd;refine⟨_,aN (gJ (i:=7) (j:=8) rfl nd rfl rfl (by decide) rfl rfl (cI (fG gF rfl TC.tuple boot_tuple (cP (bJ (bC fA).names nLo ["_law_row"] [] rfl (cU (pv 3)) rfl rfl rfl (by decide +kernel)
   (fun Z=>nm1 0 A6p) (fun Z=>bZ) (fun Z=>fG gF rfl TC.tuple boot_tuple (aB (pv 0) aA))) aA)) (eF (bI dM (cN (cM aK (cM aK (cM aK aA)))) (aD.c hr (aB (pv 0) (cM aK aA))) (fun _ _=>rfl)) aA)) rfl)<|
  aQ (bA (dN (aB (pv 7) (jF (dN (dE (bF eO aK (aD.c hr (aB (pv 0) (cM aK aA)))) aA)) (cI (fG gF rfl TC.tuple boot_tuple (eF (iZ jD (pv 6) nH (hJ aK)) aA)) (aB (pv 8) aA)))))),?_⟩
 intro D o1 o2 o4 o5 o7 o8 p lr lc w' g rs bs cl H H' st elr hLs elc nlc hC C0 hc1 G w4 g3 c6 k;have hrl:rs.length=g.length:=Paired.length hLs;refine⟨_,rfl,lr,rfl,⟨_,SqL.of elr⟩,fun Z l hl=> ?_⟩;refine dQ (K:=K) (a:=lr) (xs:=rs.map V.ref) (fun i σ H2=>(∃o,σ=[o])/\Same H' H2/\∃ts:List Addr,H2 l=some (.lst (ts.map V.ref))/\RowsG H2 ts (g.take i)) ⟨⟨_,rfl⟩,aM hl,[],by rw [aG];rfl,.nil⟩ (fun i σ H2 _ h=>SqL.of (h.2.1 _ _ elr)) ?_ ?_
 ·rintro i x σ H2 hx ⟨⟨o,rfl⟩,s2,ts,el2,hG⟩;obtain⟨r,hri,rfl⟩:=dW hx;obtain⟨row,hgi,er⟩:=fS hLs hri;have hi:i<g.length:=(zjW.mp hgi).1;have htl:ts.length=_:=Paired.length hG;rw [length_take]at htl;refine iP ⟨_,rfl,r,row.map V.int,rfl,.inl ⟨SqL.of (s2 _ _ er),fun t ht=> ?_⟩⟩;have u:=aM (o:=.tup (row.map V.int)) ht;have ntl:t≠l:=fun z=>by rw [z,el2]at ht;cases ht
  refine⟨_,u _ _ el2,cA (by rw [length_map];omega),⟨_,rfl⟩,fun b' u' e'=> ?_,ts++[t],by rw [aG,map_append];rfl,?_⟩
  ·rw [aV (bG e' hl)];exact u _ _ (s2 _ _ e')
  ·rw [take_succ,hgi];exact Paired.snoc (hG.ext (u.ext.trans (Ext.updL (u _ _ el2)))) (by rw [aV ntl,aG])
 ·rintro σ H2 ⟨⟨o,rfl⟩,s2,ts,el2,hG⟩;rw [length_map,hrl,take_of_length_le (zjQ _)]at hG;refine⟨l,_,rfl,.inl ⟨SqL.of el2,fun m hm=> ?_⟩⟩;have u3:=aM (o:=.tup (ts.map V.ref)) hm;have hM:GridAt (upd H2 m (.tup (ts.map V.ref))) m g:=⟨ts,aG,hG.ext u3.ext⟩;have s3:=s2.trans u3;generalize upd H2 m (.tup (ts.map V.ref))=H3 at hM s3⊢;refine⟨by show 3<=sizeLine;decide,fun lo hlo=> ?_⟩;have u4:=aM (o:=.lst [.int 4,.int 9,.int 999]) hlo;have e4:(upd H3 lo (.lst [.int 4,.int 9,.int 999])) lo=some (.lst [.int 4,.int 9,.int 999]):=aG;have nlo:lo≠p:=(st.same s3).pen.fresh hlo;have s4:=s3.trans u4;have hM4:=hM.ext u4.ext;generalize upd H3 lo (.lst [.int 4,.int 9,.int 999])=H4 at e4 s4 hM4⊢;have st4:=st.same s4;refine⟨_,rfl,p,3,rfl,st4.pen,by decide,by decide,fun d1 H5 a1 a2 st5=> ?_⟩;obtain⟨od,hod,od0,od9⟩:∃od:Int,atI [V.int 4,.int 9,.int 999] d1=some (.int od)/\0<=od/\od<=999:=by
   have:d1=((0:Nat):Int)\/d1=((1:Nat):Int)\/d1=((2:Nat):Int):=by omega
   rcases this with z|z|z
   ·exact⟨4,by rw [z];exact bR (j:=0) rfl,by decide,by decide⟩
   ·exact⟨9,by rw [z];exact bR (j:=1) rfl,by decide,by decide⟩
   ·exact⟨999,by rw [z];exact bR (j:=2) rfl,by decide,by decide⟩
  refine⟨lo,_,d1,.int od,rfl,rfl,SqL.of (st5.keep _ _ nlo e4),hod,?_⟩;have x5:=st5.ext st4.pen;have hM5:=hM4.ext x5;have st45:=st4.trans st5;have elc5:=st5.keep _ _ nlc (s4 _ _ elc);have hC5:=hC.ext (s4.ext.trans x5);refine⟨_,_,rfl,?_⟩;refine⟨_,rfl,_,rfl,p,3,rfl,st45.pen,by decide,by decide,fun d2 H6 b1 b2 st6=> ?_⟩;have x6:=st6.ext st45.pen;have st46:=st45.trans st6;refine⟨_,_,rfl,rfl,by show 1<=sizeLine;decide,fun c hc=> ?_⟩;have u7:=aM (o:=.tup [.int (1+d2)]) hc;have ec:(upd H6 c (.tup [.int (1+d2)])) c=some (.tup [.int (1+d2)]):=aG;have elc7:=u7 _ _ (st6.keep _ _ nlc elc5);have hM7:=(hM5.ext x6).ext u7.ext;have hC7:=(hC5.ext x6).ext u7.ext;have st7:=st46.same u7;generalize upd H6 c (.tup [.int (1+d2)])=H7 at ec elc7 hM7 hC7 st7⊢;refine⟨_,rfl,_,rfl,lc,_,rfl,SqL.of elc7,fun l8 hl8=> ?_⟩;rw [A8v,←List.map_take];have u8:=aM (o:=.lst ((bs.take 3).map V.ref)) hl8;refine⟨l8,_,rfl,.inl ⟨SqL.of aG,fun a ha=> ?_⟩⟩;have u9:=aM (o:=.tup ((bs.take 3).map V.ref)) ha;have ea:(upd (upd H7 l8 (.lst ((bs.take 3).map V.ref))) a (.tup ((bs.take 3).map V.ref))) a=some (.tup ((bs.take 3).map V.ref)):=aG;have s9:=u8.trans u9;generalize upd (upd H7 l8 (.lst ((bs.take 3).map V.ref))) a (.tup ((bs.take 3).map V.ref))=H9 at ea s9⊢;refine⟨_,rfl,by show 4<=sizeLine;decide,fun t ht=> ?_⟩;have ut:=aM (o:=.tup [.ref m,.ref c,.ref a,.int od]) ht;obtain⟨ok1,ok2,ok3⟩:=C0.ok hc1;refine k t [1+d2] (cl.take 3) od _ ((st7.same s9).same ut) ⟨G,w4,g3,c6,⟨by show 1<=1;decide,by show 1<=6;decide,fun x hx=> ?_⟩,ok1,fun c hc=> ?_,⟨od0,od9⟩,m,c,a,aG,(hM7.ext s9.ext).ext ut.ext,ut _ _ (s9 _ _ ec),bs.take 3,ut _ _ ea,ClP.ext (ClP.ext (zK hC7) s9.ext) ut.ext⟩ ok3
  ·rw [mem_singleton.mp hx];omega
  ·rw [ok2 c hc];show(0:Int)<((1:Nat):Int);decide
end
noncomputable abbrev bTail:List Stmt:=(cR fA).drop 4
theorem A1y:(["_law_holder","_law_pen_here"]:List Str).Nodup:=by decide +kernel
theorem Cl0.snoc (h:Cl0 n cl)(m1:1<=m)(m3:m<=3):Cl0 (n+1) (cl++[((n:Int),0,m)]):=by
 refine⟨by rw [length_append,length_singleton];have:=h.l;omega,fun c hc=> ?_,?_⟩
 ·rcases mem_append.mp hc with z|z
  ·have:=h.b c z;omega
  ·rw [mem_singleton.mp z];show(0:Int)<=(n:Int)/\(n:Int)<((n+1:Nat):Int)/\(0:Int)=0/\1<=m/\m<=3;omega
 ·rw [pairwise_append];refine⟨h.up,pairwise_singleton _ _,fun a ha b hb=> ?_⟩;rw [mem_singleton.mp hb];exact(h.b a ha).2.1
theorem Cl0.up1 (h:Cl0 n cl):Cl0 (n+1) cl:=⟨Nat.le_succ_of_le h.l,fun c hc=>by have:=h.b c hc;omega,h.up⟩
section
variable {P:Program}{w:World}{K:W.Frag}{mg:Str->Option Value}{base:Heap}
variable {f:Addr}{cdv:Value}{A:Around}{outer:List Env}{s:Shared}{H0:Hp}{E:XK}
theorem A96 (TC:TxC mg)(hr:Room 1 (XO P w K mg base f cdv A outer s H0 E).A)(aD:A1 P w K mg base 1 "_law_draw" gG):∃tt,PSs (XO P w K mg base f cdv A outer s H0 E) bTail tt/\
  ∀(D:cY)(o1 o2 o4 o5 o6 o7 o8:Option V)(p lr:Addr)(w:Nat)(g:bD)(rs:List Addr)(H H':Hp),PenAt H p->Stp p H H'->H' lr=some (.lst (rs.map V.ref))->lr≠p->LsA H' rs g->(∀r∈rs,r≠p)->cK g w->w<=4->g.length<=3->cT g<=6->
   (∀t cs cl od H2,Stp p H H2->PleA H2 t g w cs cl od->cl.length<=3->D.rt (.ref t) H2)->
   tt D [some (.ref p),o1,o2,some (.ref lr),o4,o5,o6,o7,o8] H':=by
 have nd:=scLo.nd;obtain⟨tb,hb,rb⟩:=A1p (P:=P) (w:=w) (K:=K) (mg:=mg) (base:=base) (f:=f) (cdv:=cdv) (A:=A) (outer:=outer) (s:=s) (H0:=H0) (E:=E) TC hr aD;have eb:bTail=bTail.getD 0 pNo::bTail.getD 1 pNo::bEnd:=rfl;rw [eb];generalize bEnd=S1 at hb;refine⟨_,aN (pX (i:=6) (bC fA).names nLo ["_law_holder"] [("_law_pen_here",0)] rfl nd rfl rfl (lL rfl TC.range (cM aK aA)) rfl rfl rfl (by decide +kernel)
   (fun Z=>nm1 0 A1y) (fun Z=>dY (bX eW (aD.c hr (aB (pv 1) (cM aK aA))) aK (nomark _))) (fun Z=>dN (aB (pv 0) (cM aK (dE (bF eO aK (aD.c hr (aB (pv 1) (cM aK aA)))) aA)))))<|
  aN (bV (bX (pC 1 (cX hr)) (pv 6) (cN aA) (nomark _))
   (aQ (bT (i:=6) nd rfl (Or.inl rfl) (cN (jF (dN (cI (aD.c hr (aB (pv 0) (cM aK aA))) (cM aK (cM aK aA)))) aA)))) bU) hb,?_⟩
 intro D o1 o2 o4 o5 o6 o7 o8 p lr w' g rs H H' pen st elr nlr hLs hrs G w4 g3 c6 k;refine⟨4,rfl,by decide,by decide,fun Z l hl=> ?_⟩;obtain⟨hHl,nlp⟩:=st.none hl;have keepL:∀{H2:Hp}{rs:List Addr}{g:List (List Int)},Stp p H' H2->LsA H' rs g->(∀r∈rs,r≠p)->LsA H2 rs g:=by
  intro H2 rs g sx h
  induction h with
  |nil=>intro _;exact .nil
  |cons r t ih=>intro hn;exact .cons (sx.keep _ _ (hn _ zjR) r) (ih fun r hr=>hn r (zjS _ hr))
 refine mN (lo:=0) (n:=4) (fun i σ H2=>(∃o,σ=[o,some (.ref p)])/\Stp p H' H2/\∃(bs:List Addr)(cl:List C3),H2 l=some (.lst (bs.map V.ref))/\ClP H2 bs cl/\Cl0 i cl) ⟨⟨_,rfl⟩,(Stp.refl st.pen).same (aM hl),[],[],by rw [aG];rfl,.nil,⟨zjQ _,(fun c hc=>by cases hc),.nil⟩⟩ ?_ ?_
 ·rintro i σ H2 hi ⟨⟨o,rfl⟩,st2,bs,cl,el,hC,C0⟩;refine⟨_,rfl,p,2,rfl,st2.pen,by decide,by decide,fun d H3 a1 a2 st3=> ?_⟩;have x3:=st3.ext st2.pen;have el3:=st3.keep _ _ nlp el;have st23:=st2.trans st3;have hbl:bs.length=cl.length:=Paired.length hC;have hcl:=C0.l;refine⟨rfl,_,rfl,dR (fun e=> ?_) fun e=> ?_⟩
  ·refine⟨_,rfl,_,rfl,p,3,rfl,st23.pen,by decide,by decide,fun d2 H4 b1 b2 st4=> ?_⟩;have x4:=st4.ext st23.pen;refine⟨_,_,rfl,rfl,by show 3<=sizeLine;decide,fun t ht=> ?_⟩;have u:=aM (o:=.tup [.int (0+(i:Int)),.int 0,.int (1+d2)]) ht;have el4:=u _ _ (st4.keep _ _ nlp el3);have ntl:t≠l:=fun z=>by rw [z,st4.keep _ _ nlp el3]at ht;cases ht
   refine⟨_,el4,cA (by rw [length_map];omega),⟨_,rfl⟩,((st23.trans st4).same u).updO hl st.pen,bs++[t],cl++[((i:Int),0,1+d2)],by rw [aG,map_append];rfl,?_,C0.snoc (by omega) (by omega)⟩;refine Paired.snoc (hC.ext (((x3.trans x4).trans u.ext).trans (Ext.updL el4))) ?_;rw [aV ntl,aG,Int.zero_add]
  ·exact⟨⟨_,rfl⟩,st23,bs,cl,el3,hC.ext x3,C0.up1⟩
 ·rintro σ H2 ⟨⟨o,rfl⟩,st2,bs,cl,el,hC,C0⟩;have hbl:bs.length=cl.length:=Paired.length hC;refine⟨_,rfl,by show 0<=sizeLine;decide,fun l0 hl0=> ?_⟩;have u0:=aM (o:=.lst []) hl0;refine⟨l,l0,_,[],rfl,rfl,u0 _ _ el,aG,?_⟩;have st3:=st2.same u0;have el3:=u0 _ _ el;have hC3:=hC.ext u0.ext;generalize upd H2 l0 (.lst [])=H3 at st3 el3 hC3⊢;cases cl with
  |nil=>
   obtain rfl:bs=[]:=eq_nil_of_length_eq_zero hbl
   right
   refine⟨[],trivial,_,rfl,fR ?_⟩;refine⟨_,rfl,p,4,rfl,st3.pen,by decide,by decide,fun d H4 a1 a2 st4=> ?_⟩;have st34:=st3.trans st4;refine⟨by show 3<=sizeLine;decide,fun t ht=> ?_⟩;have u1:=aM (o:=.tup [.int d,.int 0,.int 2]) ht;have et:(upd H4 t (.tup [.int d,.int 0,.int 2])) t=some (.tup [.int d,.int 0,.int 2]):=aG;generalize upd H4 t (.tup [.int d,.int 0,.int 2])=H5 at u1 et⊢;refine⟨by show 1<=sizeLine;decide,fun l2 hl2=> ?_⟩;have u2:=aM (o:=.lst [.ref t]) hl2;have sA:=st34.same (u1.trans u2);refine rb _ _ _ _ _ _ _ p lr l2 w' g rs [t] [(d,0,2)] H _ (st.trans sA) (sA.keep _ _ nlr elr) (keepL sA hLs hrs) aG ((st34.same u1).pen.fresh hl2) (.cons (u2 _ _ et) .nil) ⟨by show 1<=4;decide,fun c hc=> ?_,pairwise_singleton _ _⟩ (by show 1<=1;decide) G w4 g3 c6 k;rw [mem_singleton.mp hc];show 0<=d/\d<((4:Nat):Int)/\(0:Int)=0/\(1:Int)<=2/\(2:Int)<=3;omega
  |cons c0 cl=>
   left
   refine⟨fun z=> ?_,_,rfl,bL ?_⟩
   ·rw [length_map,hbl]at z;cases z
   ·exact rb _ _ _ _ _ _ _ p lr l w' g rs bs (c0::cl) H _ (st.trans st3) (st3.keep _ _ nlr elr) (keepL st3 hLs hrs) el3 nlp hC3 C0 (by rw [length_cons];omega) G w4 g3 c6 k
end
noncomputable def oP:Sp:=fun vs H Q _=> ∃p,vs=[.ref p]/\PenAt H p/\∀t g w cs cl od H',Stp p H H'->PleA H' t g w cs cl od->cl.length<=3->Q (.ref t) H'
theorem A3z:∀{xs:List α},xs.length=3->∃a b c,xs=[a,b,c]
 | [a,b,c],_=> ⟨a,b,c,rfl⟩
 | [],h=>by cases h
 | [_],h=>by cases h
 | [_,_],h=>by cases h
 |_::_::_::_::_,h=>by simp at h
theorem A3v (h:(bE w vs).length=2):cC w vs=bE w vs:=by
 unfold cC
 split
 ·rename_i e;rw [e]at h;cases h
 ·rfl
section
variable {P:Program}{w:World}{K:W.Frag}{mg:Str->Option Value}{base:Heap}
theorem A8g (F:D1 K mg "_law_loose" fA ["_law_pen_here"])(TC:TxC mg)(aD:A1 P w K mg base 1 "_law_draw" gG):A1 P w K mg base 2 "_law_loose" oP:=by
 refine F.k nLo ?_;ac_nf
 ·obtain⟨p,rfl,pen,q⟩:=h;obtain⟨tf,hf,rf⟩:=A98 (P:=P) (w:=w) (K:=K) (mg:=mg) (base:=base) (f:=f) (cdv:=cdv) (A:=A) (outer:=outer) (s:=s) (H0:=H) (E:=E) TC hr aD;obtain⟨tb,hb,rb⟩:=A96 (P:=P) (w:=w) (K:=K) (mg:=mg) (base:=base) (f:=f) (cdv:=cdv) (A:=A) (outer:=outer) (s:=s) (H0:=H) (E:=E) TC hr aD;have eb:cR fA=(cR fA).getD 0 pNo::(cR fA).getD 1 pNo::(cR fA).getD 2 pNo::(cR fA).getD 3 pNo::bTail:=rfl;rw [eb];generalize bTail=S1 at hb;refine⟨_,aN (gJ (i:=1) (j:=2) rfl nd rfl rfl (by decide) rfl rfl (dE (bF eO aK (aD.c hr (aB (pv 0) (cM aK aA)))) (dE (bF eO aK (aD.c hr (aB (pv 0) (cM aK aA)))) aA)) rfl)<|
   aN (bT (i:=3) nd rfl (Or.inl rfl) (cN (dE (bF xR (cN (oC (jR iY aK) aA)) (pv 2)) aA)))<|
   aN (fF PassesOwn.never rfl (lL rfl TC.range (aB (pv 1) aA)) (nm1 4 nd) hf)<|
   aN (bV (bX eW (bH fE rfl TC.len PySem.boot_len (aB (pv 3) aA)) aK (nomark _)) (aQ (bT (i:=3) nd rfl (Or.inl rfl) (cN (eF (bI dM (pv 3) aK (fun _ _=>rfl)) (eF (bI dM (pv 3) aK (fun _ _=>rfl)) (eF (bI dM (pv 3) aK (fun _ _=>rfl)) aA)))))) bU) hb,?_⟩
  refine⟨_,rfl,p,5,rfl,pen,by decide,by decide,fun d1 H1 a1 a2 st1=> ⟨_,_,rfl,rfl,?_⟩⟩;refine⟨_,rfl,p,2,rfl,st1.pen,by decide,by decide,fun d2 H2 b1 b2 st2=> ⟨_,_,rfl,rfl,?_⟩⟩;obtain⟨w',hw',hw⟩:∃w':Nat,3+d2=(w':Int)/\(w'=3\/w'=4):=⟨(3+d2).toNat,by omega,by omega⟩;obtain⟨m,hm,m2,m6⟩:∃m:Nat,2+d1=(m:Int)/\2<=m/\m<=6:=⟨(2+d1).toNat,by omega,by omega,by omega⟩;have st12:=st1.trans st2;refine⟨.int (m:Int),.int (w':Int),by show [V.int (2+d1),V.int (3+d2)]=_;rw [hw',hm],?_⟩;refine⟨_,rfl,by show 1<=sizeLine;decide,fun l1 hl1=> ?_⟩;have s1:Same H2 (upd H2 l1 (.lst [V.int (-1)])):=aM hl1;refine⟨_,rfl,l1,(w':Int),_,rfl,rfl,aG,by omega,by omega,by rw [sizeLine_eq,Int.toNat_natCast];show 1*w'<=_;omega,fun r0 hr0=> ?_⟩;have u2:Same _ (upd (upd H2 l1 (.lst [V.int (-1)])) r0 (.lst (replicate ((w':Int)).toNat [V.int (-1)]).flatten)):=aM hr0;have er0:(upd (upd H2 l1 (.lst [V.int (-1)])) r0 (.lst (replicate ((w':Int)).toNat [V.int (-1)]).flatten)) r0=some (.lst ((replicate w' (-1)).map V.int)):=by rw [aG,Int.toNat_natCast,xA]
  obtain⟨hr0H,nr0⟩:=(st12.same s1).none hr0;have st3:=(st12.same s1).same u2;generalize upd (upd H2 l1 (.lst [V.int (-1)])) r0 (.lst (replicate ((w':Int)).toNat [V.int (-1)]).flatten)=H3 at er0 st3⊢;refine⟨by show 1<=sizeLine;decide,fun lr hlr=> ?_⟩;have u4:=aM (o:=.lst [.ref r0]) hlr;obtain⟨hlrH,nlr⟩:=st3.none hlr;have nr0l:r0≠lr:=bG er0 hlr;have X0:LwA p lr H (upd H3 lr (.lst [.ref r0])) [r0] (bE w' []):=by
   have e0:bE w' []=[replicate w' (-1)]:=by rcases hw with z|z<;>rw [z]<;>simp [bE]
   rw [e0];refine⟨st3.same u4,aG,.cons (u4 _ _ er0) .nil,(by simp),fun r hr=> ?_⟩;rw [mem_singleton.mp hr];exact⟨hr0H,nr0l,nr0⟩
  generalize upd H3 lr (.lst [.ref r0])=H4 at X0⊢;refine⟨_,rfl,(m:Int),rfl,by omega,by omega,?_⟩;refine mN (lo:=0) (n:=((m:Int)).toNat) (fun i σ H'=> ∃(vs:List Int)(rs:List Addr),(∃o4 o5,σ=[some (.ref p),some (.int (m:Int)),some (.int w'),some (.ref lr),o4,o5,none,none,none])/\vs.length=i/\LwA p lr H H' rs (bE w' vs)/\∀v∈vs,0<=v/\v<=99)
   ⟨[],[r0],⟨_,_,rfl⟩,rfl,X0,fun v hv=>by cases hv⟩ ?_ ?_
  ·rintro i σ H' hi ⟨vs,rs,⟨o4,o5,rfl⟩,hvl,X,hv⟩;rw [Int.toNat_natCast]at hi;refine(?_:tf _ [some (.ref p),some (.int (m:Int)),some (.int w'),some (.ref lr),some (.int (0+(i:Int))),o5,none,none,none] H');rw [show(0:Int)+(i:Int)=((vs.length:Nat):Int) by omega];refine rf _ _ _ _ _ p lr m w' vs rs H H' pen hlrH nlr hw (by omega) X fun o5' v rs' H5 v0 v1 X5=> ?_;refine⟨vs++[v],rs',⟨_,_,rfl⟩,by rw [length_append,hvl];rfl,X5,fun x hx=> ?_⟩;rcases mem_append.mp hx with z|z
   ·exact hv x z
   ·rw [mem_singleton.mp z];exact⟨v0,v1⟩
  ·rintro σ H' ⟨vs,rs,⟨o4,o5,rfl⟩,hvl,X,hv⟩;rw [Int.toNat_natCast]at hvl;obtain⟨G,g3,c6,hl23⟩:=A88 hw (by omega) (by omega) hv;have hrl:rs.length=(bE w' vs).length:=Paired.length X.r;have w4:w'<=4:=by omega
   refine⟨_,rfl,lr,_,rfl,.inl (SqL.of X.l),rfl,_,rfl,dR (fun e=> ?_) fun e=> ?_⟩
   ·have e3:rs.length=3:=by have:=V.int.inj e;rw [length_map]at this;omega
    match rs,e3,X with
    | [ra,rc,rd],_,X=>
    obtain⟨a,b,c,e3'⟩:∃a b c,bE w' vs=[a,b,c]:=A3z (by rw [←hrl];rfl);have eg:cC w' vs=[b,a,c]:=by unfold cC;rw [e3']
    have hR:=X.r;rw [e3']at hR;obtain⟨ea,ec,ed⟩:H' ra=some (.lst (a.map V.int))/\H' rc=some (.lst (b.map V.int))/\H' rd=some (.lst (c.map V.int)):=by
     cases hR with
     |cons x1 t1=>cases t1 with
      |cons x2 t2=>cases t2 with
       |cons x3 t3=>exact⟨x1,x2,x3⟩
    refine⟨_,rfl,lr,_,1,.ref rc,rfl,rfl,SqL.of X.l,bR (j:=1) rfl,_,rfl,lr,_,0,.ref ra,rfl,rfl,SqL.of X.l,bR (j:=0) rfl,_,rfl,lr,_,2,.ref rd,rfl,rfl,SqL.of X.l,bR (j:=2) rfl,by show 3<=sizeLine;decide,fun l2 hl2=> ?_⟩;have u5:=aM (o:=.lst [.ref rc,.ref ra,.ref rd]) hl2;refine rb _ _ _ _ _ _ _ _ p l2 w' (cC w' vs) [rc,ra,rd] H _ pen (X.st.same u5) aG (X.st.pen.fresh hl2) ?_ (fun r hr=> ?_) G w4 g3 c6 fun t cs cl od H2 st pl c3=>q t _ _ cs cl od H2 st pl c3
    ·rw [eg];exact .cons (u5 _ _ ec) (.cons (u5 _ _ ea) (.cons (u5 _ _ ed) .nil))
    ·refine(X.f r ?_).2.2;simp only [mem_cons,not_mem_nil,or_false]at hr⊢;rcases hr with z|z|z<;>simp [z]
   ·have e2:(bE w' vs).length=2:=by
     rcases hl23 with z|z
     ·exact z
     ·exact absurd (by rw [length_map,hrl,z];rfl) e
    have eg:cC w' vs=bE w' vs:=A3v e2;refine rb _ _ _ _ _ _ _ _ p lr w' (cC w' vs) rs H _ pen X.st X.l nlr ?_ (fun r hr=>(X.f r hr).2.2) G w4 g3 c6 fun t cs cl od H2 st pl c3=>q t _ _ cs cl od H2 st pl c3;rw [eg];exact X.r
end
noncomputable def swN (a b k:Int):Int:=if k=a then b else if k=b then a else k
noncomputable def swK (a b:Int)(ks:List Int):List Int:=ks.map (swN a b)
theorem pR (a b:Int)(ks:List Int):(swK a b ks).length=ks.length:=length_map ..
theorem sN (h:∀k,swN a b k=i↔k=j):bW g (swK a b ks) i=bW g ks j:=by unfold bW swK;rw [List.zip_map_right,filter_map,map_map];have e:((fun z:Pl×Int=>decide (z.2=i))∘Prod.map id (swN a b))=fun z:Pl×Int=>decide (z.2=j):=funext fun z=>decide_eq_decide.mpr (h z.2);rw [e];rfl
theorem A12 (h:a≠b):bW g (swK a b ks) a=bW g ks b:=sN fun k=>by unfold swN;split<;>(try split)<;>omega
theorem A86 (h:a≠b):bW g (swK a b ks) b=bW g ks a:=sN fun k=>by unfold swN;split<;>(try split)<;>omega
theorem A3w (h1:k≠a)(h2:k≠b):bW g (swK a b ks) k=bW g ks k:=sN fun k=>by unfold swN;split<;>(try split)<;>omega
noncomputable def fD (g:bD)(cs:List Int)(cl:List C3)(od:Int)(hs:List Pl)(ks:List Int)(a b:Int):Bool:=([decide (bP g hs (swK a b ks) a<bP g hs ks a),decide (bP g hs (swK a b ks) b<bP g hs ks b)].all id)&&fT g cs cl od (swK a b ks)
noncomputable def prs (hs:List Int):List Pl:=hs.flatMap fun i=>(hs.filter fun j=>decide (i<j)).map fun j=>(i,j)
theorem mD (h:c∈prs hs):c.1∈hs/\c.2∈hs/\c.1<c.2:=by obtain⟨i,hi,h⟩:=List.mem_flatMap.mp h;obtain⟨j,hj,rfl⟩:=mem_map.mp h;obtain⟨h1,h2⟩:=mem_filter.mp hj;exact⟨hi,h1,of_decide_eq_true h2⟩
noncomputable def gE (g:bD)(cs:List Int)(cl:List C3)(od:Int)(hs:List Pl)(ks:List Int):List Pl:=(prs (hI cl)).filter fun c=>fD g cs cl od hs ks c.1 c.2
inductive Stl (g:bD) (cs:List Int) (cl:List C3) (od:Int) (hs:List Pl):List Int->List Int->Prop where
 |stop {ks:List Int} (h:gE g cs cl od hs ks=[]):Stl g cs cl od hs ks ks
 |step {ks e:List Int} {c:Pl} {l:List Pl} (h:gE g cs cl od hs ks=c::l) (t:Stl g cs cl od hs (swK c.1 c.2 ks) e):Stl g cs cl od hs ks e
theorem Stl.one (h:Stl g cs cl od hs ks e):Stl g cs cl od hs ks e'->e=e':=by
 induction h with
 |stop h=>
  intro h';cases h' with
  |stop _=>rfl
  |step h2 _=>rw [h]at h2;cases h2
 |step h t ih=>
  intro h';cases h' with
  |stop h2=>rw [h]at h2;cases h2
  |step h2 t2=>rw [h]at h2;cases h2;exact ih t2
noncomputable def dA:List Int->Int
 | []=>0
 |x::xs=>x+dA xs
theorem zN:∀{l:List Int},(∀k∈l,f' k<=f k)->dA (l.map f')<=dA (l.map f)
 | [],_=>Int.le_refl _
 |x::l,h=>by
  have h1:=h x zjR;have h2:=zN (l:=l) fun k hk=>h k (zjS _ hk);show f' x+dA (l.map f')<=f x+dA (l.map f);omega
theorem oN:∀{l:List Int},(∀k∈l,f' k<=f k)->a∈l->f' a<f a->dA (l.map f')+1<=dA (l.map f)
 | [],_,h,_=>by cases h
 |x::l,h,ha,hf=>by
  have h1:=h x zjR;have hk:∀k∈l,f' k<=f k:=fun k hk=>h k (zjS _ hk);show f' x+dA (l.map f')+1<=f x+dA (l.map f);rcases mem_cons.mp ha with rfl|ha
  ·have h2:=zN hk;omega
  ·have h2:=oN hk ha hf;omega
theorem zW (hab:a≠b):∀{l:List Int},(∀k∈l,f' k<=f k)->a∈l->b∈l->f' a<f a->f' b<f b->dA (l.map f')+2<=dA (l.map f)
 | [],_,h,_,_,_=>by cases h
 |x::l,h,ha,hb,fa,fb=>by
  have h1:=h x zjR;have hk:∀k∈l,f' k<=f k:=fun k hk=>h k (zjS _ hk);show f' x+dA (l.map f')+2<=f x+dA (l.map f);rcases mem_cons.mp ha with ea|ha'
  ·rcases mem_cons.mp hb with eb|hb'
   ·exact absurd (ea.trans eb.symm) hab
   ·rw [ea]at fa;have h2:=oN hk hb' fb;omega
  ·rcases mem_cons.mp hb with eb|hb'
   ·rw [eb]at fb;have h2:=oN hk ha' fa;omega
   ·have h2:=zW hab hk ha' hb' fa fb;omega
theorem zA:∀{l:List Int},(∀k∈l,0<=k)->0<=dA l
 | [],_=>Int.le_refl _
 |x::l,h=>by
  have h1:=h x zjR;have h2:=zA (l:=l) fun k hk=>h k (zjS _ hk);show 0<=x+dA l;omega
noncomputable def eI (g:bD)(cl:List C3)(hs:List Pl)(ks:List Int):List Int:=(hI cl).map (bP g hs ks)
theorem xP (h:bW g ks i≠[]):0<=bP g hs ks i:=by unfold bP;have h2:(bW g ks i).map (gZ (hs.getD i.toNat (0,0)))≠[]:=fun z=>h (List.map_eq_nil_iff.mp z);obtain⟨c,_,e⟩:=mem_map.mp (lW h2).1;rw [←e];unfold gZ ab;omega
theorem vV (h:fD g cs cl od hs ks a b=true):bP g hs (swK a b ks) a<bP g hs ks a/\bP g hs (swK a b ks) b<bP g hs ks b/\fT g cs cl od (swK a b ks)=true:=by unfold fD at h;simp only [all_cons,all_nil,id,Bool.and_true,Bool.and_eq_true,decide_eq_true_eq]at h;exact⟨h.1.1,h.1.2,h.2⟩
theorem uI (hc:c∈gE g cs cl od hs ks):(∀k∈hI cl,bP g hs (swK c.1 c.2 ks) k<=bP g hs ks k)/\dA (eI g cl hs (swK c.1 c.2 ks))+2<=dA (eI g cl hs ks):=by
 obtain⟨h1,h2⟩:=mem_filter.mp hc;obtain⟨ha,hb,hlt⟩:=mD h1;obtain⟨fa,fb,_⟩:=vV h2;have hle:∀k∈hI cl,bP g hs (swK c.1 c.2 ks) k<=bP g hs ks k:=fun k _=>by
  by_cases z1:k=c.1
  ·rw [z1];omega
  ·by_cases z2:k=c.2
   ·rw [z2];omega
   ·have:bP g hs (swK c.1 c.2 ks) k=bP g hs ks k:=by unfold bP;rw [A3w z1 z2]
    omega
 exact⟨hle,zW (by omega) hle ha hb fa fb⟩
theorem PhA.sw {H:Hp}{p h t t':Addr}{g:bD}{w:Nat}{cs:List Int}{cl:List C3}{od:Int}{hs:List Pl}{ks:List Int}{a b:Int}(B:PhA H p h t g w cs cl od hs ks)(ha:cG cl a=true)(hb:cG cl b=true)(ht:H t'=some (.tup ((swK a b ks).map V.int)))(hp:fT g cs cl od (swK a b ks)=true):PhA H p h t' g w cs cl od hs (swK a b ks):=by
 refine⟨⟨B.B.D,ht,by rw [pR];exact B.B.l,fun k hk=> ?_⟩,hp,B.h,B.o⟩;obtain⟨k0,hk0,rfl⟩:=mem_map.mp hk;unfold swN
 split
 ·exact hb
 ·split
  ·exact ha
  ·exact B.B.h k0 hk0
end M52
namespace L2
open PySem PySem.Spec PyProof.Rows
section
theorem A7c (ns:List (Str×NameKind))(N:List Str)(loc:List Str)(frees:List (Str×Nat))(hc:X.calm=true)(hND:X.N.Nodup)(hix:X.N[i]?=some x)(hxl:X.env.scope.names.lookup x=some .local)(hi:PI X tg iter wi)
  (hns:X.env.scope.names=ns)(hN:X.N=N)(hk:scope.kind= .function)(ok:gX ns N scope frees)
  (hg:∀Z,PG (cE X (loc++frees.map (·.1)) scope Z) tg (g Z))(ht:∀Z,PTs (cE X (loc++frees.map (·.1)) scope Z) ifs (tt Z))
  (hi2:∀Z,PI (cE X (loc++frees.map (·.1)) scope Z) tg2 iter2 (wi2 Z))(hg2:∀Z,PG (cE X (loc++frees.map (·.1)) scope Z) tg2 (g2 Z))(ht2:∀Z,PTs (cE X (loc++frees.map (·.1)) scope Z) ifs2 (tt2 Z))
  (he:∀Z,PE (cE X (loc++frees.map (·.1)) scope Z) elt (te Z))
  (hsw:swapsWith (.ListComp elt [⟨tg,iter,ifs,0⟩,⟨tg2,iter2,ifs2,0⟩] scope pos) (some (.Name x pos')) apos.line X.env=pure true:=by rfl)
  (hs:∀x,foldedSetIterable iter X.env x=pure x:=by intro _;rfl)(hs2:∀(Z:dH) x,foldedSetIterable iter2 (cE X (loc++frees.map (·.1)) scope Z).env x=pure x:=by intro _ _;rfl):PS X (.Assign [.Name x pos'] (.ListComp elt [⟨tg,iter,ifs,0⟩,⟨tg2,iter2,ifs2,0⟩] scope pos) apos) (kD (uZ wi g tt wi2 g2 tt2 te loc.length frees) (cO i)):=by
 intro pins s σ H D I h;rw [exec_Assign_Name_used _ _ _ _ hsw];refine zjZ (wpAny_standAt (zjZ ?_))
 show wpAny _ X.A (do let _←comprehension (.ListComp elt [⟨tg,iter,ifs,0⟩,⟨tg2,iter2,ifs2,0⟩] scope pos) scope X.env _ (newList []) false (eval iter X.env) (some (assign (.Name x pos') X.env))) _ _ s;refine zjZ ?_;have key:=lM (X:=X) (nac:=newList []) (oa:={cls:=.type "list",dict:=none,data:=.seq ([]:List Value).toArray}) (u:=.lst []) (fun E s Q h=>wpAny_newObj_type h) rfl (fun H h a _ e=> ⟨by simp,[],_,.nil,e⟩) (e:=.ListComp elt [⟨tg,iter,ifs,0⟩,⟨tg2,iter2,ifs2,0⟩] scope pos) (g0:=⟨tg,iter,ifs,0⟩) (gs:=[⟨tg2,iter2,ifs2,0⟩]) (tg:=tg) (iter:=iter) (newPos:=firstIterPos [⟨tg,iter,ifs,0⟩,⟨tg2,iter2,ifs2,0⟩] pos) (loc:=loc) (R:=fun Z l J σ H QH=>dI J (g Z) (cL (tt Z) (kW (wi2 Z) (g2 Z) (tt2 Z) (dL l (te Z)))) (eC fun _ H'=>QH H') σ H) (use:=some (assign (.Name x pos') X.env)) (QH:=fun l H'=>D.nx (σ.set i (some (.ref l))) H') (Q:=fun _ s'=>SP X pins D .next s') rfl rfl hi hns hN hk ok hs I h ?_ ?_
 ·exact thn key fun _ s' hq=>zjY (zjY hq)
 ·intro Z l it fp tn J H4 s4 σ4 hfp I4 T st4 f4 q4;have L:=kB (Y:=cE X (loc++frees.map (·.1)) scope Z) rfl hc (A0d elt tg iter tg2 iter2 ifs ifs2 scope pos (.ref it) (.ref l) _) (hg Z) (ht Z) (A0h rfl hc (hi2 Z) (hg2 Z) (ht2 Z) (he Z) (hs2 Z)) I4 T st4 f4 q4;refine codeAny_mono (codeAny_compStart_list L (T.self _ _ _ _ _ st4 L)) fun r s' hr=> ?_;exact hr
 ·intro l C H' s' hm J' hn h1 h2 h3 h4 h5 q';obtain⟨m,hm⟩:=hm;show wpAny _ X.A (assign (.Name x pos') X.env (.ref l)) _ _ _;refine wpAny_assign_Name (pK J' hND hix (.inl hxl) (v:=.ref l) rfl (fun s'' I'' hsb=> ?_) (.inr hxl));obtain⟨a,hsb,ha⟩:=hsb;have haC:C≠a:=by
   rcases ha with z|z
   ·rw [z];exact h2
   ·exact fun y=>h3 x a z y.symm
  refine⟨m,hm.sameBut hsb haC,fun h' hs'=> ⟨_,H',?_,q'⟩⟩;exact I''.turned (it:=C) (t':=s''.toks) (fun b o hb e=>(hs'.2 b hb).trans e) hn h2 (.inr h1) h3 h5
end
structure M2 (X:Cx)(o:Expr)(m:Str)(apos:Pos)(e f:Expr)(cpos:Pos):Prop where
 base:attributeBase o m X.env (eval o X.env)=eval o X.env
 few:((backTo cpos (starEach [e,f] X.env)).all (fun x=> !x.1)&&(backToKw cpos (keywordEach [] X.env)).all (fun x=>x.1.isSome)
  &&decide (([e,f]:List Expr).length+([]:List Keyword).length+(if ([]:List Keyword).isEmpty then 0 else 1)<30))=true
 line:(apos.endLine==cpos.line)=true
 trees:backTo cpos (starEach [e,f] X.env)=[(false,eval e X.env),(false,eval f X.env)]
noncomputable def IsD (H:Hp)(a:Addr):Prop:=(∃kvs,Rd H a (.dK kvs))\/ ∃kvs,Rd H a (.dT kvs)
theorem A24 (I:Inv X pins σ H s)(d:IsD H a):
  s.TypeIs (.ref a) "dict"/\(∀b,Value.ref a= .ref b->∃ob,s.heap.get? b=some ob/\ob.dict=none)/\(a==sysModules)=false:=by
 rcases d with⟨kvs,e⟩| ⟨kvs,e⟩
 ·obtain⟨_,hd,vs,_,dd⟩:=jI I.hok e;refine⟨dd.typeIs,fun b q=> ?_,hd⟩;cases q;obtain⟨ob,_,_,h1,h2,_⟩:=dd;exact⟨ob,h1,h2.2.1⟩
 ·obtain⟨_,hd,xs,_,dd⟩:=jL I.hok e;refine⟨dd.typeIs,fun b q=> ?_,hd⟩;cases q;obtain⟨ob,_,_,h1,h2,_⟩:=dd;exact⟨ob,h1,h2.2.1⟩
section
theorem B0z (hu:A.units+1<cLine)(I:Inv X pins σ H s)(g:DGet H a y o)(ry:RelV y u)(rd:RelV d r)(h:∀w' s',Inv X pins σ H s'->RelV (o.getD d) w'->Q w' s'):
  wpAny (model X.prog X.w) A (call (.builtin "dict.get") [.ref a,u,r]) Q E s:=by
 rcases g with⟨kvs,k,e,ey,l⟩| ⟨kvs,k,b,e,ey,eb,l⟩
 ·subst ey;obtain⟨z,hd,vs,rel,dd⟩:=jI I.hok e;refine call_meetsIn PySem.F.slot_dict_get dd.typeIs PySem.F.entry_dict_get (PySem.F.args_dict_get_3 _ _ _) (meets_dict_get_default (cH X.prog X.w) a (jP ry) hd r) ⟨_,dd.mapOf,h _ _ (I.tok _) ?_⟩;rw [l];exact(rel.val k).getD rd
 ·subst ey;cases (show u=Value.ref b from ry);obtain⟨z,hd,xs,rel,dd⟩:=jL I.hok e;refine call_meetsIn PySem.F.slot_dict_get dd.typeIs PySem.F.entry_dict_get (PySem.F.args_dict_get_3 _ _ _) (meetsH_dict_get_default (tupleKind (cH X.prog X.w)) a b hd r) ⟨tupleKind_room_in1 hu,k,xs,lC I.hok eb,dd,h _ _ (I.tok _) ?_⟩;rw [l];exact(rel.val k).getD rd
end
noncomputable def A4c (td ty tx:TE):TE:=fun σ H Q=>td σ H fun x H1=> ∃a,x= .ref a/\IsD H1 a/\ty σ H1 fun y H2=>tx σ H2 fun z H3=> ∃o,DGet H3 a y o/\Q (o.getD z) H3
section
theorem A8f (hu:X.A.units+1<cLine)(ho:PE X o td)(he:PE X e ty)(hf:PE X f tx)(m:M2 X o "get" apos e f cpos):PE X (.Call (.Attribute o "get" apos) [e,f] [] cpos) (A4c td ty tx):=by
 intro pins s σ H Q I h;refine wpAny_Call_method m.base m.few m.line PySem.F.plainAttrs_dict PySem.F.slot_dict_get PySem.F.type_dict_get (thn (ho pins s σ H _ I h) fun u s1 ⟨x,H1,I1,rx,a,ex,d,q1⟩=> ?_);subst ex;obtain rfl:u=Value.ref a:=rx;obtain⟨t1,t2,_⟩:=A24 I1 d;refine⟨t1,t2,?_⟩;rw [m.trees];refine Calls.callWith_builtin rfl (Calls.evalArgs_plain (Calls.spliced_cons (thn (he pins s1 σ H1 _ I1 q1) fun iv s2 ⟨y,H2,I2,ry,q2⟩=>
  Calls.spliced_cons (thn (hf pins s2 σ H2 _ I2 q2) fun fv s3 ⟨z,H3,I3,rz,ov,g,q3⟩=>Calls.spliced_nil ?_))))
 exact B0z hu I3 g ry rz fun w' s4 I4 rw'=> ⟨_,H3,I4,rw',q3⟩
end
end L2
namespace M52
open PySem L2 PyProof.Rows Grd Wlk Cyc Srt Set4
noncomputable def yF:Sp:=fun vs H Q _=> ∃a cl i j,vs=[.ref a,.int i,.int j]/\ClT H a cl/\cl.length<=12/\cG cl i=true/\cG cl j=true/\i≠j/\∀H',Same H H'->Q .non H'
noncomputable def pY:Sp:=fun vs H Q _=> ∃t ks i j,vs=[.ref t,.int i,.int j]/\H t=some (.tup ((ks:List Int).map V.int))/\ks.length<=10/\i≠j/\∀t' H',Same H H'->H' t'=some (.tup ((swK i j ks).map V.int))->Q (.ref t') H'
noncomputable abbrev nTu:List Str:=["parting","one","other","turned"]
theorem A9v:(["number","turned"]:List Str).Nodup:=by decide +kernel
noncomputable def swV (a b:Int):V->V
 | .int k=> .int (swN a b k)
 |v=>v
theorem A32:((cS [((Sum.inl a:Key),V.int b),(Sum.inl b,V.int a)] (Sum.inl k)).getD (.int k))=V.int (swN a b k):=by
 unfold cS swN;by_cases h1:k=a
 ·rw [h1];simp
 ·by_cases h2:k=b
  ·rw [h2]at h1⊢;have:a≠b:=fun z=>h1 z.symm;simp [this,h1]
  ·have h3:a≠k:=fun z=>h1 z.symm;have h4:b≠k:=fun z=>h2 z.symm;simp [h1,h2,h3,h4]
section
variable {P:Program}{w:World}{K:W.Frag}{mg:Str->Option Value}{base:Heap}
theorem A4w (F:D1 K mg "check_two_holders" xE ["claims","one","other"])(a1:A1 P w K mg base 3 "check_holder" kQ):A1 P w K mg base 4 "check_two_holders" yF:=by
 refine F.k ["claims","one","other"] ?_;ac_nf
 ·obtain⟨a,cl,i,j,rfl,hA,hz,hi,hj,hn,q⟩:=h;refine⟨_,aN (cF (a1.c hr (aB (pv 0) (aB (pv 1) aA))))<|aN (cF (a1.c hr (aB (pv 0) (aB (pv 2) aA))))<|
   aQ (bV (bX eW (pv 1) (pv 2) (nomark _)) eY bU),?_⟩
  refine⟨_,rfl,_,rfl,a,cl,i,rfl,hA,hz,hi,fun H1 s1=> ?_⟩;refine⟨_,rfl,_,rfl,a,cl,j,rfl,hA.ext s1.ext,hz,hj,fun H2 s2=> ?_⟩;refine⟨_,rfl,_,rfl,rfl,_,rfl,dR (fun e=>absurd (V.int.inj e) hn) fun e=> ?_⟩;exact q H2 (s1.trans s2)
theorem A40 (F:D1 K mg "turned_about" mE ["parting","one","other"])(TC:TxC mg):A1 P w K mg base 1 "turned_about" pY:=by
 refine F.k nTu ?_;ac_nf
 ·obtain⟨t,ks,i,j,rfl,ht,hz,hn,q⟩:=h;have hu:(A.deeper (envOfC "turned_about" (bC mE) s.heap.objs.size f cdv)).units+1<cLine:=lt_of_succ_lt (cX hr);refine⟨_,aN (bT (i:=3) nd rfl (Or.inr rfl) (A6y (wY (pv 1) (pv 2) (wY (pv 2) (pv 1) B1i)) rfl rfl (by simp) (by simp)))<|
   aQ (bA (fG gF rfl TC.tuple boot_tuple (cP (bJ (bC mE).names nTu ["number"] [("turned",3)] rfl (cQ (pv 0)) rfl rfl rfl (by decide +kernel)
    (fun Z=>nm1 0 A9v) (fun Z=>bZ) (fun Z=>A8f (lt_of_succ_lt (cX hr)) (pv 1) (pv 0) (pv 0) ⟨rfl,rfl,rfl,rfl⟩)) aA))),?_⟩
  intro pd hpd;refine⟨_,rfl,_,rfl,_,rfl,_,rfl,aG,[(Sum.inl i,.int j),(Sum.inl j,.int i)],rfl,by show 2<=15;decide,?_⟩;have em:iN [] [((Sum.inl i:Key),V.int j),(Sum.inl j,.int i)]=([(Sum.inl i,V.int j),(Sum.inl j,.int i)]:List (Key×V)):=by
   have:¬i=j:=hn;simp [iN,eA,this]
  rw [em];have s2:Same H (upd (upd H pd (.dK [])) pd (.dK [(Sum.inl i,V.int j),(Sum.inl j,.int i)])):=fun c u e=>by
   have:c≠pd:=bG e hpd;rw [aV this,aV this];exact e
  have hD:(upd (upd H pd (.dK [])) pd (.dK [(Sum.inl i,V.int j),(Sum.inl j,.int i)])) pd=some (.dK [(Sum.inl i,V.int j),(Sum.inl j,.int i)]):=aG;generalize upd (upd H pd (.dK [])) pd (.dK [(Sum.inl i,V.int j),(Sum.inl j,.int i)])=H2 at s2 hD⊢;have ht2:=s2 _ _ ht;refine⟨_,rfl,t,rfl,⟨_,SqT.of ht2⟩,fun Z l hl=> ?_⟩;refine gC (rest:=[some (.ref pd)]) (swV i j) ht2 hl (by rw [length_map];omega) (fun x H' Q' hm hs hq=> ?_) fun σ H3 s3 el=> ?_
  ·obtain⟨k,_,rfl⟩:=mem_map.mp hm;refine⟨_,rfl,pd,rfl,.inl ⟨_,.inl (hs _ _ hD)⟩,_,rfl,_,rfl,_,DGet.k (k:=Sum.inl k) (hs _ _ hD),?_⟩;rw [A32];exact hq H' (Same.refl _)
  ·have e2:(ks.map V.int).map (swV i j)=(swK i j ks).map V.int:=by
    unfold swK;rw [map_map,map_map];rfl
   rw [e2]at el;refine⟨l,_,rfl,.inl ⟨SqL.of el,fun tt htt=> ?_⟩⟩;have u:=aM (o:=.tup ((swK i j ks).map V.int)) htt;exact q tt _ ((s2.trans s3).trans u) aG
end
noncomputable def rJ:Sp:=fun vs H Q _=> ∃p h t g w cs cl od hs ks i j,vs=[.ref p,.ref h,.ref t,.int i,.int j]/\PhA H p h t g w cs cl od hs ks/\cG cl i=true/\cG cl j=true/\i≠j/\∀H',Same H H'->Q (.bl (fD g cs cl od hs ks i j)) H'
noncomputable def qN:Sp:=fun vs H Q _=> ∃p h t g w cs cl od hs ks i j,vs=[.ref p,.ref h,.ref t,.int i,.int j]/\PhA H p h t g w cs cl od hs ks/\cG cl i=true/\cG cl j=true/\i≠j/\fD g cs cl od hs ks i j=true/\∀t' H',Same H H'->PhA H' p h t' g w cs cl od hs (swK i j ks)->Q (.ref t') H'
noncomputable abbrev nWd:List Str:=["plea","houses","parting","one","other","mead","custom","claims","odd","then","less_far"]
theorem A8m:(["who","mead","houses","then","parting"]:List Str).Nodup:=by decide +kernel
section
variable {P:Program}{w:World}{K:W.Frag}{mg:Str->Option Value}{base:Heap}
theorem A16 (F:D1 K mg "would_exchange" pO ["plea","houses","parting","one","other"])(T:Txt mg)(a1:A1 P w K mg base 14 "check_parted" lR)(a2:A1 P w K mg base 4 "check_two_holders" yF)(a3:A1 P w K mg base 1 "turned_about" pY)(a4:A1 P w K mg base 8 "far_with" oT)(a5:A1 P w K mg base 12 "is_parting" kE):A1 P w K mg base 15 "would_exchange" rJ:=by
 refine F.k nWd ?_;ac_nf
 ·obtain⟨p,h,t,g,w',cs,cl,od,hs,ks,i,j,rfl,B,hi,hj,hn,q⟩:=h;refine⟨_,aN (cF (a1.c hr (aB (pv 0) (aB (pv 1) (aB (pv 2) aA)))))<|
   aN (dS (pv 0) (bN rfl (aX (aJ (i:=5) nd rfl (Or.inr rfl)) (aX (nm1 6 nd) (aX (nm1 7 nd) (aX (nm1 8 nd) bM))))))<|
   aN (cF (a2.c hr (aB (pv 7) (aB (pv 3) (aB (pv 4) aA)))))<|
   aN (bT (i:=9) nd rfl (Or.inr rfl) (a3.c hr (aB (pv 2) (aB (pv 3) (aB (pv 4) aA)))))<|
   aN (pX (i:=10) (bC pO).names nWd ["who"] [("mead",5),("houses",1),("then",9),("parting",2)] rfl nd rfl rfl (cQ (dN (aB (pv 3) (aB (pv 4) aA)))) rfl rfl rfl (by decide +kernel)
    (fun Z=>nm1 0 A8m) (fun Z=>bZ) (fun Z=>eL jG (a4.c hr (aB (pv 1) (aB (pv 2) (aB (pv 3) (aB (pv 0) aA))))) (a4.c hr (aB (pv 1) (aB (pv 2) (aB (pv 4) (aB (pv 0) aA))))) (nomark _)))<|
   aQ (bA (fQ (bH (fU rfl) rfl T.all boot_all (aB (pv 10) aA)) (fP (a5.c hr (aB (pv 0) (aB (pv 9) aA)))))),?_⟩
  refine⟨_,rfl,_,rfl,_,rfl,p,h,t,g,w',cs,cl,od,hs,ks,rfl,B,fun H1 s1=> ?_⟩;have B1:=B.same s1;obtain⟨m,c,a,hp,hm,hc,ha⟩:=B1.B.D.ex;obtain⟨i0,i3,hnei⟩:=B.ne hi;obtain⟨j0,j3,hnej⟩:=B.ne hj;refine⟨_,rfl,p,_,rfl,SqT.of hp,rfl,_,_,rfl,_,_,rfl,_,_,rfl,_,_,rfl,rfl,?_⟩;refine⟨_,rfl,_,rfl,_,rfl,a,cl,i,j,rfl,ha,B.B.D.ck.l12,hi,hj,hn,fun H2 s2=> ?_⟩;have B2:=B1.same s2;refine⟨_,rfl,_,rfl,_,rfl,t,ks,i,j,rfl,B2.B.t,le_trans B2.B.l10 (by decide),hn,fun t' H3 s3 et'=> ?_⟩;have B3:=B2.same s3;have hm3:=(hm.same s2).same s3;refine⟨_,rfl,_,rfl,by show 2<=sizeLine;decide,fun tw htw=> ?_⟩;have u4:=aM (o:=.tup [.int i,.int j]) htw;have etw:(upd H3 tw (.tup [.int i,.int j])) tw=some (.tup [.int i,.int j]):=aG;generalize upd H3 tw (.tup [.int i,.int j])=H4 at u4 etw⊢;have B4:=B3.same u4;have hm4:=hm3.same u4;have et4:=u4 _ _ et';refine⟨tw,rfl,⟨_,SqT.of etw⟩,fun Z l hl=> ?_⟩;refine gC (rest:=[some (.ref m),some (.ref h),some (.ref t'),some (.ref t)]) (fun x=>match x with| .int k=> .bl (decide (bP g hs (swK i j ks) k<bP g hs ks k))|v=>v) etw hl (by show 2<=1000;decide) (fun x H' Q' hx hs' hq=> ?_) fun σ H5 s5 el=> ?_
  ·obtain⟨k,rfl,hk,hne⟩:∃k,x=V.int k/\cG cl k=true/\bW g (swK i j ks) k≠[]:=by
    simp only [mem_cons,not_mem_nil,or_false]at hx;rcases hx with rfl|rfl
    ·exact⟨i,rfl,hi,by rw [A12 hn];exact hnej⟩
    ·exact⟨j,rfl,hj,by rw [A86 hn];exact hnei⟩
   obtain⟨k0,k3,hne2⟩:=B.ne hk;have B5:=B4.same hs';refine⟨_,rfl,_,rfl,_,rfl,_,rfl,m,h,t',g,w',hs,swK i j ks,k,rfl,hm4.same hs',B.B.D.G,B5.h,B.o.l,hs' _ _ et4,by rw [pR];exact B.B.l,k0,k3,hne,fun H6 s6=> ?_⟩;have B6:=B5.same s6;refine⟨_,rfl,_,rfl,_,rfl,_,rfl,m,h,t,g,w',hs,ks,k,rfl,(hm4.same hs').same s6,B.B.D.G,B6.h,B.o.l,B6.B.t,B.B.l,k0,k3,hne2,fun H7 s7=> ?_⟩;exact⟨_,_,rfl,rfl,hq H7 (s6.trans s7)⟩
  ·have B5:=B4.same s5;refine⟨_,rfl,l,[decide (bP g hs (swK i j ks) i<bP g hs ks i),decide (bP g hs (swK i j ks) j<bP g hs ks j)],rfl,SqL.of el,_,rfl,?_⟩;have sH:=((s1.trans s2).trans s3).trans (u4.trans s5);refine dC (fun e=> ?_) fun e=> ?_
   ·refine⟨_,rfl,_,rfl,p,t',g,w',cs,cl,od,swK i j ks,rfl,⟨B5.B.D,s5 _ _ et4,by rw [pR];exact B.B.l,fun k hk=> ?_⟩,fun H6 s6=> ?_⟩
    ·obtain⟨k0,hk0,rfl⟩:=mem_map.mp hk;unfold swN
     split
     ·exact hj
     ·split
      ·exact hi
      ·exact B.B.h k0 hk0
    ·have ew:fD g cs cl od hs ks i j=fT g cs cl od (swK i j ks):=by unfold fD;rw [e];rfl
     rw [←ew];exact q H6 (sH.trans s6)
   ·have ew:fD g cs cl od hs ks i j=false:=by unfold fD;rw [e];rfl
    rw [←ew];exact q H5 sH
theorem A8y (F:D1 K mg "exchanged" yS ["plea","houses","parting","one","other"])(a1:A1 P w K mg base 15 "would_exchange" rJ)(a3:A1 P w K mg base 1 "turned_about" pY):A1 P w K mg base 16 "exchanged" qN:=by
 refine F.k ["plea","houses","parting","one","other"] ?_;ac_nf
 ·obtain⟨p,h,t,g,w',cs,cl,od,hs,ks,i,j,rfl,B,hi,hj,hn,hw,q⟩:=h;refine⟨_,aN (bV (cD (bQ (a1.c hr (aB (pv 0) (aB (pv 1) (aB (pv 2) (aB (pv 3) (aB (pv 4) aA)))))))) eY bU)<|
   aQ (bA (a3.c hr (aB (pv 2) (aB (pv 3) (aB (pv 4) aA))))),?_⟩
  refine⟨_,rfl,_,rfl,_,rfl,_,rfl,_,rfl,p,h,t,g,w',cs,cl,od,hs,ks,i,j,rfl,B,hi,hj,hn,fun H1 s1=> ?_⟩;rw [hw];refine⟨_,rfl,bL ?_⟩;have B1:=B.same s1;refine⟨_,rfl,_,rfl,_,rfl,t,ks,i,j,rfl,B1.B.t,le_trans B1.B.l10 (by decide),hn,fun t' H2 s2 et'=> ?_⟩;exact q t' H2 (s1.trans s2) ((B1.same s2).sw hi hj et' (vV hw).2.2)
end
noncomputable def pG:Sp:=fun vs H Q _=> ∃p h t g w cs cl od hs ks,vs=[.ref p,.ref h,.ref t]/\PhA H p h t g w cs cl od hs ks/\∀l ps H',H l=none->Same H H'->H' l=some (.lst ((ps:List Addr).map V.ref))->PlAt H' ps (gE g cs cl od hs ks)->Q (.ref l) H'
noncomputable abbrev nWh:List Str:=["plea","houses","parting","mead","custom","claims","odd","pairs"]
theorem xT:(["one","other","claims"]:List Str).Nodup:=by decide +kernel
theorem xD:(["one","other","plea","houses","parting"]:List Str).Nodup:=by decide +kernel
noncomputable def kM (hs A:List Int):List Pl:=A.flatMap fun i=>(hs.filter fun j=>decide (i<j)).map fun j=>(i,j)
theorem B0q (hs A:List Int)(i:Int):kM hs (A++[i])=kM hs A++(hs.filter fun j=>decide (i<j)).map fun j=>(i,j):=by unfold kM;rw [List.flatMap_append];simp
theorem A0s (cl:List C3):(hI cl).length<=4:=by
 unfold hI aU;rw [length_map];have key:∀b0 b1 b2 b3:Bool,(L b0 b1 b2 b3).length<=4:=by decide
 exact key _ _ _ _
theorem lY {xs:List Int}{j:Nat}{x:V}(h:(xs.map V.int)[j]?=some x):∃n,xs[j]?=some n/\V.int n=x:=by
 rw [getElem?_map]at h;cases e:xs[j]? with
 |none=>rw [e]at h;cases h
 |some m=>rw [e]at h;exact⟨m,rfl,Option.some.inj h⟩
section
variable {P:Program}{w:World}{K:W.Frag}{mg:Str->Option Value}{base:Heap}
theorem A7i (F:D1 K mg "who_would" mQ ["plea","houses","parting"])(a1:A1 P w K mg base 14 "check_parted" lR)(a2:A1 P w K mg base 6 "holders_of" sS)(a3:A1 P w K mg base 15 "would_exchange" rJ):A1 P w K mg base 16 "who_would" pG:=by
 refine F.k nWh ?_;ac_nf
 ·obtain⟨p,h,t,g,w',cs,cl,od,hs,ks,rfl,B,q⟩:=h;refine⟨_,aN (cF (a1.c hr (aB (pv 0) (aB (pv 1) (aB (pv 2) aA)))))<|
   aN (dS (pv 0) (bN rfl (aX (nm1 3 nd) (aX (nm1 4 nd) (aX (aJ (i:=5) nd rfl (Or.inr rfl)) (aX (nm1 6 nd) bM))))))<|
   aN (A7c (i:=7) (bC mQ).names nWh ["one","other"] [("claims",5)] rfl nd rfl rfl (cU (a2.c hr (aB (pv 5) aA))) rfl rfl rfl (by decide +kernel)
    (fun Z=>nm1 0 xT) (fun Z=>bZ) (fun Z=>cU (a2.c hr (aB (pv 2) aA))) (fun Z=>nm1 1 xT) (fun Z=>dY (bX jG (pv 0) (pv 1) (nomark _))) (fun Z=>dN (aB (pv 0) (aB (pv 1) aA))))<|
   aQ (bA (bJ (bC mQ).names nWh ["one","other"] [("plea",0),("houses",1),("parting",2)] rfl (cU (pv 7)) rfl rfl rfl (by decide +kernel)
    (fun Z=>bN rfl (aX (nm1 0 xD) (aX (nm1 1 xD) bM))) (fun Z=>dY (bQ (a3.c hr (aB (pv 2) (aB (pv 3) (aB (pv 4) (aB (pv 0) (aB (pv 1) aA)))))))) (fun Z=>dN (aB (pv 0) (aB (pv 1) aA))))),?_⟩
  refine⟨_,rfl,_,rfl,_,rfl,p,h,t,g,w',cs,cl,od,hs,ks,rfl,B,fun H1 s1=> ?_⟩;have B1:=B.same s1;obtain⟨m,c,a,hp,hm,hc,ha⟩:=B1.B.D.ex;refine⟨_,rfl,p,_,rfl,SqT.of hp,rfl,_,_,rfl,_,_,rfl,_,_,rfl,_,_,rfl,rfl,?_⟩;refine⟨_,rfl,a,cl,rfl,ha,B.B.D.ck,fun lh H2 hlh s2 elh=> ?_⟩;have eh:((aU (bY cl)).map fun k:Nat=>V.int (k:Int))=(hI cl).map V.int:=by unfold hI;rw [map_map];rfl
  have h4:=A0s cl;rw [eh]at elh;have ha2:=ha.ext s2.ext;refine⟨lh,rfl,⟨_,SqL.of elh⟩,fun Z l hl=> ?_⟩;refine dQ (K:=K) (a:=lh) (xs:=(hI cl).map V.int) (fun i σ H'=>(∃o0 o1,σ=[o0,o1,some (.ref a)])/\Same H2 H'/\∃ps:List Addr,H' l=some (.lst (ps.map V.ref))/\PlAt H' ps (kM (hI cl) ((hI cl).take i))/\ps.length<=4*i) ⟨⟨_,_,rfl⟩,aM hl,[],by rw [aG];rfl,.nil,zero_le _⟩ (fun i σ H' _ h=>SqL.of (h.2.1 _ _ elh)) ?_ ?_
  ·rintro i x σ H' hx ⟨⟨o0,o1,rfl⟩,hs',ps,el,hP,hpl⟩;obtain⟨n,hn,rfl⟩:=lY hx;have hi:i<(hI cl).length:=(zjW.mp hn).1;refine iP ?_;refine⟨_,rfl,a,cl,rfl,ha2.ext hs'.ext,B.B.D.ck,fun lh2 H3 hlh2 s3 elh2=> ?_⟩;rw [eh]at elh2;have nl2:lh2≠l:=fun z=>by rw [z,el]at hlh2;cases hlh2
   refine⟨lh2,rfl,⟨_,SqL.of elh2⟩,?_⟩;refine dQ (K:=K) (a:=lh2) (xs:=(hI cl).map V.int) (fun j σ H''=>(∃o1,σ=[some (.int n),o1,some (.ref a)])/\Same H2 H''/\Sb l H3 H''/\∃ps:List Addr,H'' l=some (.lst (ps.map V.ref))/\PlAt H'' ps (kM (hI cl) ((hI cl).take i)++(((hI cl).take j).filter fun j=>decide (n<j)).map fun j=>(n,j))/\ps.length<=4*i+j)
    ⟨⟨_,rfl⟩,hs'.trans s3,Sb.refl _ _,ps,s3 _ _ el,by simpa using hP.same s3,by omega⟩ (fun j σ H'' _ h=>SqL.of (h.2.2.1 _ _ nl2 elh2)) ?_ ?_
   ·rintro j y σ H'' hy ⟨⟨o1,rfl⟩,hs'',sb'',ps2,el2,hP2,hpl2⟩;obtain⟨k,hk,rfl⟩:=lY hy;have hj:j<(hI cl).length:=(zjW.mp hk).1;have et:(((hI cl).take (j+1)).filter fun j=>decide (n<j)).map (fun j=>(n,j))=((((hI cl).take j).filter fun j=>decide (n<j)).map fun j=>(n,j))++(if n<k then [(n,k)]else []):=by
     rw [take_succ,hk,filter_append,map_append]
     congr 1
     by_cases z:n<k
     ·simp [z]
     ·simp [z]
    rw [et];refine⟨_,rfl,_,rfl,_,_,rfl,rfl,_,rfl,dR (fun z=> ?_) fun z=> ?_⟩
    ·rw [if_pos z];refine⟨_,rfl,_,rfl,by show 2<=sizeLine;decide,fun q2 hq2=> ?_⟩;have u:=aM (o:=.tup [.int n,.int k]) hq2;have el3:=u _ _ el2;have nq:q2≠l:=fun z=>by rw [z,el2]at hq2;cases hq2
     refine⟨_,el3,cA (by rw [length_map];omega),⟨_,rfl⟩,fun b' u' e'=> ?_,fun b' u' nb e'=> ?_,ps2++[q2],by rw [aG,map_append];rfl,?_,by rw [length_append];show _+1<=_;omega⟩
     ·rw [aV (bG e' hl)];exact u _ _ (hs'' _ _ e')
     ·rw [aV nb];exact u _ _ (sb'' _ _ nb e')
     ·rw [←append_assoc];exact PlAt.snoc (Paired.mapP hP2 fun _ _ z=>PlA.put el3 (u _ _ z)) (by rw [aV nq,aG])
    ·rw [if_neg z,append_nil];exact⟨⟨_,rfl⟩,hs'',sb'',ps2,el2,hP2,by omega⟩
   ·rintro σ H'' ⟨⟨o1,rfl⟩,hs'',sb'',ps2,el2,hP2,hpl2⟩;rw [length_map]at hP2 hpl2;rw [take_of_length_le (zjQ _)]at hP2;have et:(hI cl).take (i+1)=(hI cl).take i++[n]:=by rw [take_succ,hn];rfl
    refine⟨⟨_,_,rfl⟩,hs'',ps2,el2,?_,by omega⟩;rw [et,B0q];exact hP2
  ·rintro σ H' ⟨⟨o0,o1,rfl⟩,hs',ps,el,hP,hpl⟩;rw [length_map,take_of_length_le (zjQ _)]at hP;rw [length_map]at hpl;have hP:PlAt H' ps (prs (hI cl)):=hP;have hl2:ps.length=(prs (hI cl)).length:=Paired.length hP;have B2:=(B1.same s2).same hs';refine⟨_,rfl,l,rfl,⟨_,SqL.of el⟩,fun Z2 r hr'=> ?_⟩;refine dQ (K:=K) (a:=l) (xs:=ps.map V.ref) (fun i σ H''=>(∃o0 o1,σ=[o0,o1,some (.ref p),some (.ref h),some (.ref t)])/\Same H' H''/\∃qs:List Addr,H'' r=some (.lst (qs.map V.ref))/\PlAt H'' qs (((prs (hI cl)).take i).filter fun c=>fD g cs cl od hs ks c.1 c.2)/\qs.length<=i) ⟨⟨_,_,rfl⟩,aM hr',[],by rw [aG];rfl,.nil,zero_le _⟩ (fun i σ H'' _ h=>SqL.of (h.2.1 _ _ el)) ?_ ?_
   ·rintro i x σ H'' hx ⟨⟨o0,o1,rfl⟩,hs'',qs,er,hq,hql⟩;obtain⟨b,hb,rfl⟩:=dW hx;obtain⟨c,hc,he⟩:=hP.at hb;obtain⟨c1,c2,c12⟩:=mD (mem_of_getElem? hc);have hi:i<(prs (hI cl)).length:=(zjW.mp hc).1;have et:((prs (hI cl)).take (i+1)).filter (fun c=>fD g cs cl od hs ks c.1 c.2)=(((prs (hI cl)).take i).filter fun c=>fD g cs cl od hs ks c.1 c.2)++(if fD g cs cl od hs ks c.1 c.2=true then [c]else []):=by
     rw [take_succ,hc,filter_append]
     congr 1
     by_cases z:fD g cs cl od hs ks c.1 c.2=true
     ·simp [z]
     ·simp [z]
    rw [et];refine⟨b,_,rfl,SqT.of (hs'' _ _ he),rfl,_,_,rfl,_,_,rfl,rfl,?_⟩;refine⟨_,rfl,_,rfl,_,rfl,_,rfl,_,rfl,p,h,t,g,w',cs,cl,od,hs,ks,c.1,c.2,rfl,B2.same hs'',gB c1,gB c2,by omega,fun H5 s5=> ?_⟩;refine⟨_,rfl,dC (fun z=> ?_) fun z=> ?_⟩
    ·rw [if_pos z];refine⟨_,rfl,_,rfl,by show 2<=sizeLine;decide,fun q2 hq2=> ?_⟩;have u:=aM (o:=.tup [.int c.1,.int c.2]) hq2;have er5:=s5 _ _ er;have er6:=u _ _ er5;have nq:q2≠r:=fun z=>by rw [z,er5]at hq2;cases hq2
     refine⟨_,er6,cA (by rw [length_map];omega),⟨_,_,rfl⟩,fun b' u' e'=> ?_,qs++[q2],by rw [aG,map_append];rfl,?_,by rw [length_append];show _+1<=_;omega⟩
     ·rw [aV (bG e' hr')];exact u _ _ (s5 _ _ (hs'' _ _ e'))
     ·exact PlAt.snoc (Paired.mapP hq fun _ _ z=>PlA.put er6 (u _ _ (s5 _ _ z))) (by rw [aV nq,aG])
    ·rw [if_neg (by rw [z];decide),append_nil];exact⟨⟨_,_,rfl⟩,hs''.trans s5,qs,s5 _ _ er,hq.same s5,by omega⟩
   ·rintro σ H'' ⟨⟨o0,o1,rfl⟩,hs'',qs,er,hq,hql⟩;rw [length_map,hl2,take_of_length_le (zjQ _)]at hq;have hrn:H r=none:=by
     cases e:H r with
     |none=>rfl
     |some o=>rw [hs' _ _ (s2 _ _ (s1 _ _ e))]at hr';cases hr'
    exact q r qs H'' hrn (((s1.trans s2).trans hs').trans hs'') er hq
end
noncomputable def qG:Sp:=fun vs H Q _=> ∃p h t g w cs cl od hs ks,vs=[.ref p,.ref h,.ref t]/\PhA H p h t g w cs cl od hs ks/\∀t' e H',Same H H'->PhA H' p h t' g w cs cl od hs e->Stl g cs cl od hs ks e->(∀k∈hI cl,bP g hs e k<=bP g hs ks k)->Q (.ref t') H'
noncomputable abbrev nSt:List Str:=["plea","houses","parting","pairs","one","other"]
theorem Stl.fin (h:Stl g cs cl od hs ks e):gE g cs cl od hs e=[]:=by
 induction h with
 |stop h=>exact h
 |step _ _ ih=>exact ih
theorem zP (B:PhA H p h t g w cs cl od hs ks):0<=dA (eI g cl hs ks):=zA fun x hx=>by
 obtain⟨k,hk,rfl⟩:=mem_map.mp hx;exact xP (B.ne (gB hk)).2.2
structure StW (H:Hp)(p h:Addr)(g:bD)(w:Nat)(cs:List Int)(cl:List C3)(od:Int)(hs:List Pl)(ks:List Int)(t l:Addr)(ks':List Int)(ps:List Addr):Prop where
 B:PhA H p h t g w cs cl od hs ks'
 l:H l=some (.lst (ps.map V.ref))
 P:PlAt H ps (gE g cs cl od hs ks')
 e:∀e,Stl g cs cl od hs ks' e->Stl g cs cl od hs ks e
 f:∀k∈hI cl,bP g hs ks' k<=bP g hs ks k
section
variable {P:Program}{w:World}{K:W.Frag}{mg:Str->Option Value}{base:Heap}
theorem A8s (F:D1 K mg "settled" yM ["plea","houses","parting"])(aW:A1 P w K mg base 16 "who_would" pG)(aE:A1 P w K mg base 16 "exchanged" qN):A1 P w K mg base 17 "settled" qG:=by
  refine F.k nSt ?_;ac_nf
  · obtain⟨p,h,t,g,w',cs,cl,od,hs,ks,rfl,B,q⟩:=h
    refine⟨_,aN (bT (i:=3) nd rfl (Or.inl rfl) (aW.c hr (aB (pv 0) (aB (pv 1) (aB (pv 2) aA)))))<|
      aN (kF PassesOwn.never (bX (sO 1 (cX hr)) (pv 3) (cN aA) (nomark _))
        (aN (dS (bI dM (pv 3) aK (fun _ _=>rfl)) (bN rfl (aX (nm1 4 nd) (aX (nm1 5 nd) bM))))<|
         aN (bT (i:=2) nd rfl (Or.inl rfl) (aE.c hr (aB (pv 0) (aB (pv 1) (aB (pv 2) (aB (pv 4) (aB (pv 5) aA)))))))<|
         aQ (bT (i:=3) nd rfl (Or.inl rfl) (aW.c hr (aB (pv 0) (aB (pv 1) (aB (pv 2) aA)))))))<|
      aQ (bA (pv 2)),?_⟩
    refine⟨_,rfl,_,rfl,_,rfl,p,h,t,g,w',cs,cl,od,hs,ks,rfl,B,fun l0 ps0 H1 hl0 s1 el0 hP0=> ?_⟩;refine⟨fun m σ H'=> ∃t' l ks' ps,(∃o4 o5,σ=[some (.ref p),some (.ref h),some (.ref t'),some (.ref l),o4,o5])/\Same H H'/\StW H' p h g w' cs cl od hs ks t' l ks' ps/\m=(dA (eI g cl hs ks')).toNat,
      ⟨_,t,l0,ks,ps0,⟨_,_,rfl⟩,s1,⟨B.same s1,el0,hP0,fun e h=>h,fun k _=>Int.le_refl _⟩,rfl⟩,?_⟩
    rintro m σ H' ⟨t',l,ks',ps,⟨o4,o5,rfl⟩,hs',W,rfl⟩;refine⟨_,rfl,by show 0<=sizeLine;decide,fun ln hln=> ?_⟩;have u:=aM (o:=.lst []) hln;refine⟨l,ln,_,[],rfl,rfl,u _ _ W.l,aG,?_⟩;have B2:=W.B.same u;have el2:=u _ _ W.l;have hP2:=W.P.same u;have hH2:=hs'.trans u;generalize upd H' ln (.lst [])=H2 at B2 el2 hP2 hH2⊢;have hpl:ps.length=_:=Paired.length hP2;cases hw:gE g cs cl od hs ks' with
    |nil=>
      right
      rw [hw]at hpl;obtain rfl:ps=[]:=eq_nil_of_length_eq_zero hpl;refine⟨[],trivial,_,rfl,bL ?_⟩;exact⟨_,rfl,q t' ks' H2 hH2 B2 (W.e ks' (.stop hw)) W.f⟩
    |cons c rest=>
      left
      rw [hw]at hpl hP2;refine⟨fun z=> ?_,_,rfl,fR ⟨_,fun σ' H' h=>h,?_⟩⟩
      · rw [length_map,hpl]at z;cases z
      obtain⟨b,bs,rfl⟩:∃b bs,ps=b::bs:=exists_cons_of_ne_nil (fun z=>by rw [z]at hpl;cases hpl);have eb:H2 b=some (.tup [.int c.1,.int c.2]):=by cases hP2 with|cons r _=>exact r
      have hc:c∈gE g cs cl od hs ks':=by rw [hw];exact zjR
      obtain⟨hc1,hc2⟩:=mem_filter.mp hc;obtain⟨c1,c2,c12⟩:=mD hc1;obtain⟨hle,hless⟩:=uI hc;refine⟨_,rfl,l,_,0,.ref b,rfl,rfl,SqL.of el2,bR (j:=0) rfl,b,_,rfl,SqT.of eb,rfl,_,_,rfl,_,_,rfl,rfl,?_⟩;refine⟨_,rfl,_,rfl,_,rfl,_,rfl,_,rfl,p,h,t',g,w',cs,cl,od,hs,ks',c.1,c.2,rfl,B2,gB c1,gB c2,by omega,hc2,fun t2 H3 s3 B3=> ?_⟩;refine⟨_,rfl,_,rfl,_,rfl,p,h,t2,g,w',cs,cl,od,hs,swK c.1 c.2 ks',rfl,B3,fun l2 ps2 H4 hl2 s4 el4 hP4=> ?_⟩;have nn:=zP B3;exact⟨_,by omega,t2,l2,swK c.1 c.2 ks',ps2,⟨_,_,rfl⟩,(hH2.trans s3).trans s4,⟨B3.same s4,el4,hP4,fun e h=>W.e e (.step hw h),fun k hk=>Int.le_trans (hle k hk) (W.f k hk)⟩,rfl⟩
end
theorem A87 {K:W.Frag}{a l:Addr}{hs:List Nat}{te:TE}{H0:Hp}{rest:L2.St}{Q:L2.St->Hp->Prop}(f:Nat->Int)(ha:H0 a=some (.lst (hs.map fun k:Nat=>V.int (k:Int))))(hl:H0 l=none)(hz:hs.length<=4)
  (turn:∀k∈hs,∀H' Q',Same H0 H'->(∀H2,Same H' H2->Q' (.int (f k)) H2)->te (some (.int (k:Int))::rest) H' Q')(hQ:∀σ H',Same H0 H'->H' l=some (.lst ((hs.map f).map V.int))->Q σ H'):
  dI (Itl K a) (cO 0) (cL fX (dL l te)) (eC Q) (none::rest) (upd H0 l (.lst [])):=by
 have s0:Same H0 (upd H0 l (.lst [])):=aM hl;refine dQ (K:=K) (a:=a) (xs:=hs.map fun k:Nat=>V.int (k:Int)) (fun i σ H'=>(∃o,σ=o::rest)/\Same H0 H'/\H' l=some (.lst (((hs.take i).map f).map V.int))) ⟨⟨_,rfl⟩,s0,by rw [aG];rfl⟩ (fun i σ H' _ h=>SqL.of (h.2.1 _ _ ha)) ?_ ?_
 ·rintro i x σ H' hx ⟨⟨o,rfl⟩,hs',hl'⟩;rw [getElem?_map]at hx;cases hb:hs[i]? with
  |none=>rw [hb]at hx;cases hx
  |some k=>
   rw [hb]at hx;cases hx;show dL l te (some (.int (k:Int))::rest) H' _;refine turn k (mem_of_getElem? hb) H' _ hs' fun H2 h2=> ?_;refine⟨_,h2 _ _ hl',?_,⟨_,rfl⟩,fun b u e=> ?_,?_⟩
   ·rw [length_map,length_map,length_take];exact cA (by omega)
   ·rw [aV (bG e hl)];exact h2 _ _ (hs' _ _ e)
   ·rw [aG,take_succ,hb,map_append,map_append];rfl
 ·rintro σ H' ⟨_,hs',hl'⟩;rw [length_map,take_of_length_le (zjQ _)]at hl';exact hQ σ H' hs' hl'
theorem B1u (G:fV cl):1<=(aU (bY cl)).length/\(aU (bY cl)).length<=4:=by
 constructor
 ·obtain⟨c,t,e⟩:=exists_cons_of_ne_nil (show cl≠[]from fun z=>by have:=G.l1;rw [z]at this;cases this);have hc:c∈cl:=by rw [e];exact zjR
  have hn:=(G.num c hc).1;obtain⟨n,en⟩:=Int.eq_ofNat_of_zero_le hn.1;have hh:cG cl (n:Int)=true:=any_eq_true.mpr ⟨c,hc,zjV en⟩;exact List.length_pos_of_mem (mem_mem4.mpr ⟨by omega,hh⟩)
 ·unfold aU;have key:∀b0 b1 b2 b3:Bool,(L b0 b1 b2 b3).length<=4:=by decide
  exact key _ _ _ _
theorem nK {xs:List V}{lo hi:Option Int}{x:V}(h:x∈cutV xs lo hi):x∈xs:=mem_of_mem_drop (mem_of_mem_take h)
noncomputable def rY:Sp:=fun vs H Q _=> ∃p q g w cs cl od,vs=[.ref p,.ref q]/\PenAt H p/\PleA H q g w cs cl od/\∀h hs H',Stp p H H'->SqA H' h hs->nW hs->Q (.ref h) H'
noncomputable def pI:Sp:=fun vs H Q _=> ∃p h t g w cs cl od hs ks,vs=[.ref p,.ref h,.ref t]/\PhA H p h t g w cs cl od hs ks/\∀l H',H l=none->Same H H'->H' l=some (.lst ((eI g cl hs ks).map V.int))->Q (.ref l) H'
noncomputable abbrev nCo:List Str:=["_law_pen_here","_law_plea","_law_cells_here","_law_found","_law_holder","_law_row","_law_column"]
theorem A5o:(["_law_holder","_law_plea","_law_houses","_law_parting"]:List Str).Nodup:=by decide +kernel
section
variable {P:Program}{w:World}{K:W.Frag}{mg:Str->Option Value}{base:Heap}
theorem A6x (F:D1 K mg "_law_contrary" vC ["_law_pen_here","_law_plea"])(TC:TxC mg)(aD:A1 P w K mg base 1 "_law_draw" gG)(a1:A1 P w K mg base 1 "_law_cells" (eP pos)):A1 P w K mg base 2 "_law_contrary" rY:=by
  refine F.k nCo ?_;ac_nf
  · obtain⟨p,pl,g,w',cs,cl,od,rfl,pen,D,q⟩:=h
    obtain⟨m,c,a,hp,hm,hc,ha⟩:=D.ex;refine⟨_,aN (gJ (i:=2) (j:=3) rfl nd rfl rfl (by decide) rfl rfl (cI (a1.c hr (eF (bI cB (pv 1) aK (fun _ _=>rfl)) aA)) (lS (cN aA) aA)) rfl)<|
      aN (fF PassesOwn.never rfl (lL rfl TC.range (cM aK aA)) (nm1 4 nd)
        (aN (dS (bI dM (pv 2) (aD.c hr (aB (pv 0) (cI (bH fE rfl TC.len PySem.boot_len (aB (pv 2) aA)) aA))) (fun _ _=>rfl)) (bN rfl (aX (nm1 5 nd) (aX (nm1 6 nd) bM))))<|
         aQ (cF (iK PySem.F.plainAttrs_list PySem.F.slot_list_append PySem.F.type_list_append kJ (pv 3) (jF (dN (dE (bF fJ (bF eO (pv 5) (aD.c hr (aB (pv 0) (cM aK aA)))) aK) (dE (bF fJ (bF eO (pv 6) (aD.c hr (aB (pv 0) (cM aK aA)))) aK) aA))) aA)))))<|
      aQ (bA (fG gF rfl TC.tuple boot_tuple (aB (pv 3) aA))),?_⟩
    have h10:(aT pos g).length<=10:=by rw [eV];exact D.G.c10
    have h1:1<=(aT pos g).length:=by rw [eV];exact D.G.c1
    refine⟨_,rfl,pl,_,0,_,rfl,rfl,SqT.of hp,rfl,m,g,w',rfl,hm,D.G,fun H1 lc pc hlc s1 elc hPc=> ?_⟩;have hpl:pc.length=(aT pos g).length:=Paired.length hPc;refine⟨by show 0<=sizeLine;decide,fun lf hlf=> ?_⟩;have u:=aM (o:=.lst []) hlf;have st0:=((Stp.refl pen).same s1).same u;obtain⟨hlfH,nlf⟩:=((Stp.refl pen).same s1).none hlf;have nlc:lc≠p:=pen.fresh hlc;have elf:(upd H1 lf (.lst [])) lf=some (.lst []):=aG;have elc2:=u _ _ elc;have hPc2:=hPc.same u;have nfc:lc≠lf:=bG elc hlf;generalize upd H1 lf (.lst [])=H2 at st0 elf elc2 hPc2⊢;refine⟨_,_,rfl,?_⟩;refine⟨4,rfl,by decide,by decide,?_⟩;refine mN (lo:=0) (n:=4) (fun i σ H'=>(∃o4 o5 o6,σ=[some (.ref p),some (.ref pl),some (.ref lc),some (.ref lf),o4,o5,o6])/\Stp p H H'/\H' lc=some (.lst (pc.map V.ref))/\PlAt H' pc (aT pos g)/\∃(ps:List Addr)(hs:List Pl),H' lf=some (.lst (ps.map V.ref))/\PlAt H' ps hs/\hs.length=i/\∀c∈hs,(-99<=c.1/\c.1<=99)/\-99<=c.2/\c.2<=99)
      ⟨⟨_,_,_,rfl⟩,st0,elc2,hPc2,[],[],elf,.nil,rfl,fun c hc=>by cases hc⟩ ?_ ?_
    · rintro i σ H' hi ⟨⟨o4,o5,o6,rfl⟩,st,elc',hPc',ps,hs,el,hP,hl,hb⟩
      have hps:ps.length=hs.length:=Paired.length hP;refine⟨_,rfl,_,rfl,_,rfl,lc,_,rfl,.inl (SqL.of elc'),p,_,rfl,st.pen,by rw [length_map];omega,by rw [length_map];omega,fun d H3 d0 d1 st3=> ?_⟩;rw [length_map]at d1;obtain⟨n,rfl⟩:=Int.eq_ofNat_of_zero_le d0;have hnb:pc[n]?=some (pc[n]'(by omega)):=getElem?_eq_getElem (by omega);obtain⟨c,hc,ehb⟩:=hPc'.at hnb;have st13:=st.trans st3;have x3:=st3.ext st.pen;obtain⟨b1,b2,b3,b4⟩:=rK D.G D.g3 D.w4 (mem_of_getElem? hc);refine⟨lc,_,(n:Int),.ref (pc[n]'(by omega)),rfl,rfl,SqL.of (st3.keep _ _ nlc elc'),bR (by rw [getElem?_map,hnb];rfl),_,_,rfl,SqT.of (x3.tup _ _ ehb),rfl,_,_,rfl,_,_,rfl,rfl,?_⟩;have el3:=st3.keep _ _ nlf el;refine⟨_,rfl,.inl ⟨rfl,_,SqL.of el3⟩,_,rfl,_,rfl,p,3,rfl,st13.pen,by decide,by decide,fun d1 H4 e1 e2 st4=> ?_⟩;have st14:=st13.trans st4;refine⟨_,_,rfl,rfl,_,_,rfl,rfl,_,rfl,_,rfl,p,3,rfl,st14.pen,by decide,by decide,fun d2 H5 f1 f2 st5=> ?_⟩;refine⟨_,_,rfl,rfl,_,_,rfl,rfl,by show 2<=sizeLine;decide,fun t ht=> ?_⟩;have u:=aM (o:=.tup [.int (c.1+d1 - 1),.int (c.2+d2 - 1)]) ht;have el5:=st5.keep _ _ nlf (st4.keep _ _ nlf el3);have el6:=u _ _ el5;have ntl:t≠lf:=fun z=>by rw [z,el5]at ht;cases ht
      have x6:=((((x3.trans (st4.ext st13.pen)).trans (st5.ext st14.pen)).trans u.ext).trans (Ext.updL (ys:=ps.map V.ref++[.ref t]) el6));refine⟨lf,_,_,rfl,rfl,el6,cA (by rw [length_map];omega),⟨_,_,_,rfl⟩,((st14.trans st5).same u).updO hlfH pen,?_,Paired.mapP hPc' fun _ _ z=>x6.tup _ _ z,ps++[t],hs++[(c.1+d1 - 1,c.2+d2 - 1)],by rw [aG,map_append];rfl,?_,by rw [length_append,hl];rfl,fun c' hc'=> ?_⟩
      · rw [aV nfc]
        exact u _ _ (st5.keep _ _ nlc (st4.keep _ _ nlc (st3.keep _ _ nlc elc')))
      · exact PlAt.snoc (Paired.mapP hP fun _ _ z=>x6.tup _ _ z) (by rw [aV ntl,aG])
      · rcases mem_append.mp hc' with z|z
        · exact hb c' z
        · rw [mem_singleton.mp z]
          show(-99<=c.1+d1 - 1/\c.1+d1 - 1<=99)/\-99<=c.2+d2 - 1/\c.2+d2 - 1<=99;omega
    · rintro σ H' ⟨⟨o4,o5,o6,rfl⟩,st,elc',hPc',ps,hs,el,hP,hl,hb⟩
      refine⟨_,rfl,lf,_,rfl,.inl ⟨SqL.of el,fun t ht=> ?_⟩⟩;have u:=aM (o:=.tup (ps.map V.ref)) ht;exact q t hs _ (st.same u) ⟨ps,aG,hP.same u⟩ ⟨hl,hb⟩
theorem A2l (F:D1 K mg "_law_ways" pN ["_law_plea","_law_houses","_law_parting"])(aF:A1 P w K mg base 15 "far_of" uV)(aH:A1 P w K mg base 1 "_law_holders" oX):A1 P w K mg base 16 "_law_ways" pI:=by
 refine F.k ["_law_plea","_law_houses","_law_parting"] ?_;ac_nf
 ·obtain⟨p,h,t,g,w',cs,cl,od,hs,ks,rfl,B,q⟩:=h;refine⟨_,aQ (bA (bJ (bC pN).names ["_law_plea","_law_houses","_law_parting"] ["_law_holder"] [("_law_plea",0),("_law_houses",1),("_law_parting",2)] rfl (cU (aH.c hr (aB (pv 0) aA))) rfl rfl rfl (by decide +kernel)
   (fun Z=>nm1 0 A5o) (fun Z=>bZ) (fun Z=>aF.c hr (aB (pv 1) (aB (pv 2) (aB (pv 3) (aB (pv 0) aA))))))),?_⟩
  have hlen:=B1u B.B.D.ck;refine⟨_,rfl,p,g,w',cs,cl,od,rfl,B.B.D,fun lh H1 hlh s1 elh=> ?_⟩;have B1:=B.same s1;refine⟨lh,rfl,⟨_,SqL.of elh⟩,fun Z l hl=> ?_⟩;refine A87 (K:=K) (rest:=[some (.ref p),some (.ref h),some (.ref t)]) (fun k:Nat=>bP g hs ks (k:Int)) elh hl hlen.2 (fun n hn H' Q' s' q'=> ?_) fun σ H2 s2 el2=> ?_
  ·exact⟨_,rfl,_,rfl,_,rfl,_,rfl,p,h,t,g,w',cs,cl,od,hs,ks,(n:Int),rfl,B1.same s',(mem_mem4.mp hn).2,q'⟩
  ·have ew:(aU (bY cl)).map (fun k:Nat=>bP g hs ks (k:Int))=eI g cl hs ks:=by unfold eI hI;rw [map_map];rfl
   rw [ew]at el2;have hln:H l=none:=by
    cases e:H l with
    |none=>rfl
    |some o=>rw [s1 _ _ e]at hl;cases hl
   exact q l H2 hln (s1.trans s2) el2
end
end M52
namespace PySem
section
noncomputable abbrev dD (h:Heap)(z TI TO:Addr)(out:Value)(fl:Bool):Prop:=h.get? z=some {cls:=.type "zip",data:=.fields #[out,.bool fl,.bool false,.ref TI,.ref TO]}
theorem wG (h:Q (s.heap.get? a) s):wpAny M A (loadIfAlive a) Q E s:=fun _ _ _=>h
theorem xI {M:Model}{out:Value}{self:Value}{Q:Bool->Shared->Prop}(hf:out= .none\/ ∃n,out= .int n 0/\s.heap.get? n.toNat=none)(h:Q true s):
  wpAny M A (match out with
   | .none=>pure true
   | .int a _=>do
    if (←loadIfAlive a.toNat).isNone then return true
    if (←field self 1) != .bool true then setField self 1 (.bool true)
    return false
   |_=>pure false) Q E s:=by
 rcases hf with rfl| ⟨n,rfl,hn⟩
 ·exact zjY h
 ·refine zjZ (wG ?_);rw [hn];exact zjY h
theorem A41 {z TI TO i1 i2:Addr}{f1 f2:List Addr}{n1 n2 k:Nat}{P1 P2:Nat->Value->Prop}{S1 S2:Nat->Heap->Prop}{a b:Value}{Q:Value->Shared->Prop}(D1:Draws prog w A i1 f1 n1 P1 S1)(D2:Draws prog w A i2 f2 n2 P2 S2)(D:eE z TI TO i1 i2 f1 f2)
  {out:Value}{fl:Bool}(hz:dD s.heap z TI TO out fl)(hfree:out= .none\/ ∃n,out= .int n 0/\s.heap.get? n.toNat=none)(hTI:IsPair s.heap TI (.ref i1) (.ref i2))(hTO:IsPair s.heap TO a b)(t1:S1 k s.heap)(t2:S2 k s.heap)(hk1:k<n1)(hk2:k<n2)
  (hQ:∀x y h' tk,P1 k x->P2 k y->dD h' z TI TO (rawInt s.heap.objs.size) false->IsPair h' TO x y->S1 (k+1) h'->S2 (k+1) h'->IsPair h' s.heap.objs.size x y->
   (∀c o,c≠z->c≠TO->c≠i1->c≠i2->s.heap.get? c=some o->h'.get? c=some o)->Q (.ref s.heap.objs.size) {s with heap:=h',toks:=tk}):
  wpAny (model prog w) A (Builtin.«zip.__next__» ⟨[.ref z],[]⟩) (fun fin s'=> ∃v,fin= .done (.ret v)/\Q v s') E s:=by
 show wpAny _ _ (field (.ref z) 2>>=_) _ _ _;refine zjZ (wpAny_field hz rfl (x:=.bool false) rfl ?_);show wpAny _ _ (field (.ref z) 3>>=_) _ _ _;refine zjZ (wpAny_field hz rfl (x:=.ref TI) rfl (zjZ (wpAny_seqItems hTI rfl ?_)));show wpAny _ _ (Builtin.SmallTypes.ownedTupleIsFree (.ref z)>>=_) _ _ _;refine zjZ ?_;unfold Builtin.SmallTypes.ownedTupleIsFree;refine zjZ (wpAny_field hz rfl (x:=out) rfl ?_);refine xI hfree ?_;simp only [if_true];refine zjZ (wpAny_rule (zjZ (wpAny_field hz rfl (x:=.ref TO) rfl (zjZ (wpAny_setField_rec hz (by simp) fun h₁ hz₁ hs₁=> ?_)))));replace hz₁:dD h₁ z TI TO .ellipsis fl:=hz₁;refine zjZ ?_;simp only [zipIdx_cons,zipIdx_nil,forIn_cons,forIn_nil];refine zjZ (zjZ (wpAny_onRaise ?_));show wpAny _ _ (Builtin.SmallTypes.nextOf (.ref i1)>>=_) _ _ _;have u1:S1 k h₁:=D1.frame k _ _ t1 fun c hc o e=>hs₁.extBut _ _ (fun q=>D.z1 (q▸hc)) e;refine zjZ (D1.item k _ _ _ hk1 u1 fun x h₂ tk₂ hx v1 hs₂=>zjY ?_);have hTO₂:IsPair h₂ TO a b:=hs₂.extBut _ _ D.O1 (hs₁.extBut _ _ D.Oz hTO);refine zjZ (wpAny_seqItems hTO₂ rfl (zjZ (wpAny_updateSeq_pair hTO₂ fun h₃ hTO₃ hs₃=> ?_)));replace hTO₃:IsPair h₃ TO x b:=hTO₃;refine zjZ (wpAny_letGo (zjY ?_));refine zjZ (zjZ (wpAny_onRaise ?_));show wpAny _ _ (Builtin.SmallTypes.nextOf (.ref i2)>>=_) _ _ _;have u2:S2 k h₃:=D2.frame k _ _ t2 fun c hc o e=>hs₃.extBut _ _ (fun q=>D.o2 (q▸hc)) (hs₂.extBut _ _ (fun q=>D.c1 (q▸hc)) (hs₁.extBut _ _ (fun q=>D.z2 (q▸hc)) e));refine zjZ (D2.item k _ _ _ hk2 u2 fun y h₄ tk₄ hy v2 hs₄=>zjY ?_);have hTO₄:IsPair h₄ TO x b:=hs₄.extBut _ _ D.O2 hTO₃;refine zjZ (wpAny_seqItems hTO₄ rfl (zjZ (wpAny_updateSeq_pair hTO₄ fun h₅ hTO₅ hs₅=> ?_)));replace hTO₅:IsPair h₅ TO x y:=hTO₅;refine zjZ (wpAny_letGo (zjY (zjY ?_)));refine zjZ (wpAny_seqItems hTO₅ rfl (zjZ (wpAny_newTuple ?_)));have hsz:h₅.objs.size=s.heap.objs.size:=by rw [hs₅.1,hs₄.1,hs₃.1,hs₂.1,hs₁.1]
 have hz₅:dD h₅ z TI TO .ellipsis fl:=hs₅.extBut _ _ D.Oz.symm (hs₄.extBut _ _ D.jz.symm (hs₃.extBut _ _ D.Oz.symm (hs₂.extBut _ _ D.iz.symm hz₁)));have hk₅:∀c o,c≠z->c≠TO->c≠i1->c≠i2->s.heap.get? c=some o->h₅.get? c=some o:=fun c o e1 e2 e3 e4 e=>hs₅.extBut _ _ e2 (hs₄.extBut _ _ e4 (hs₃.extBut _ _ e2 (hs₂.extBut _ _ e3 (hs₁.extBut _ _ e1 e))));have w1:S1 (k+1) h₅:=D1.frame _ _ _ v1 fun c hc o e=>hs₅.extBut _ _ (fun q=>D.o1 (q▸hc)) (hs₄.extBut _ _ (fun q=>D.c2 (q▸hc)) (hs₃.extBut _ _ (fun q=>D.o1 (q▸hc)) e));have w2:S2 (k+1) h₅:=D2.frame _ _ _ v2 fun c hc o e=>hs₅.extBut _ _ (fun q=>D.o2 (q▸hc)) e;have hzlt:z<h₅.objs.size:=zjT hz₅;show wpAny _ _ (Builtin.SmallTypes.ownedTupleHandOut (.ref z) (.ref h₅.objs.size)>>=_) _ _ _;refine zjZ ?_;unfold Builtin.SmallTypes.ownedTupleHandOut;have hz₆:dD (h₅.push {cls:=.type "tuple",data:=.seq #[x,y]}) z TI TO .ellipsis fl:=zjX _ hz₅;refine zjZ (wpAny_setField_rec hz₆ (by simp) fun h₇ hz₇ hs₇=> ?_);replace hz₇:dD h₇ z TI TO (rawInt h₅.objs.size) fl:=hz₇;refine wpAny_setField_rec hz₇ (by simp) fun h₈ hz₈ hs₈=> ?_;replace hz₈:dD h₈ z TI TO (rawInt h₅.objs.size) false:=hz₈;have up:∀c o,c≠z->h₅.get? c=some o->h₈.get? c=some o:=fun c o e1 e=>hs₈.extBut _ _ e1 (hs₇.extBut _ _ e1 (zjX _ e));have hT₈:IsPair h₈ h₅.objs.size x y:=hs₈.extBut _ _ (ne_of_gt hzlt) (hs₇.extBut _ _ (ne_of_gt hzlt) (get?_push_size _ rfl));rw [hsz]at hz₈ hT₈;refine zjY ⟨_,rfl,?_⟩;show Q (.ref h₅.objs.size) _;rw [hsz];exact hQ x y h₈ _ hx hy hz₈ (up _ _ D.Oz hTO₅) (D1.frame _ _ _ w1 fun c hc o e=>up c o (fun q=>D.z1 (q▸hc)) e) (D2.frame _ _ _ w2 fun c hc o e=>up c o (fun q=>D.z2 (q▸hc)) e) hT₈ fun c o e1 e2 e3 e4 e=>up c o e1 (hk₅ c o e1 e2 e3 e4 e)
theorem A8p (D1:Draws prog w A i1 f1 n1 P1 S1)(D:eE z TI TO i1 i2 f1 f2)
  (hz:dD s.heap z TI TO out fl)(hfree:out= .none\/ ∃n,out= .int n 0/\s.heap.get? n.toNat=none)(hTI:IsPair s.heap TI (.ref i1) (.ref i2))(t1:S1 n1 s.heap)
  (hE:∀h' e,(∀c o,c≠z->c≠i1->s.heap.get? c=some o->h'.get? c=some o)->(∃o,h'.get? e=some o/\o.cls= .type "StopIteration")->E (.ref e) {s with heap:=h'}):
  wpAny (model prog w) A (Builtin.«zip.__next__» ⟨[.ref z],[]⟩) Q E s:=by
 show wpAny _ _ (field (.ref z) 2>>=_) _ _ _;refine zjZ (wpAny_field hz rfl (x:=.bool false) rfl ?_);show wpAny _ _ (field (.ref z) 3>>=_) _ _ _;refine zjZ (wpAny_field hz rfl (x:=.ref TI) rfl (zjZ (wpAny_seqItems hTI rfl ?_)));show wpAny _ _ (Builtin.SmallTypes.ownedTupleIsFree (.ref z)>>=_) _ _ _;refine zjZ ?_;unfold Builtin.SmallTypes.ownedTupleIsFree;refine zjZ (wpAny_field hz rfl (x:=out) rfl ?_);refine xI hfree ?_;simp only [if_true];refine zjZ (wpAny_rule (zjZ (wpAny_field hz rfl (x:=.ref TO) rfl (zjZ (wpAny_setField_rec hz (by simp) fun h₁ hz₁ hs₁=> ?_)))));replace hz₁:dD h₁ z TI TO .ellipsis fl:=hz₁;refine zjZ ?_;simp only [zipIdx_cons,zipIdx_nil,forIn_cons,forIn_nil];refine zjZ (zjZ (wpAny_onRaise ?_));show wpAny _ _ (Builtin.SmallTypes.nextOf (.ref i1)>>=_) _ _ _;have u1:S1 n1 h₁:=D1.frame n1 _ _ t1 fun c hc o e=>hs₁.extBut _ _ (fun q=>D.z1 (q▸hc)) e;refine zjZ (D1.done _ _ _ u1 fun h₂ e hs₂ he=> ?_);obtain⟨oe,hoe,hce⟩:=he;have hz₂:dD h₂ z TI TO .ellipsis fl:=hs₂ _ _ D.iz.symm hz₁;have hez:e≠z:=fun x=>by subst x;rw [hz₂]at hoe;cases hoe;simp at hce
 refine wpAny_setField_rec hz₂ (by simp) fun h₃ _ hs₃=>hE h₃ e (fun c o c1 c3 x=>hs₃.extBut _ _ c1 (hs₂ _ _ c3 (hs₁.extBut _ _ c1 x))) ⟨oe,hs₃.extBut _ _ hez hoe,hce⟩
theorem A00 (hz:dD s.heap z TI TO (.int n 0) fl)(hn:s.heap.get? n.toNat=some o)(h:∀h₁,dD h₁ z TI TO (.int n 0) true->Heap.SameBut z s.heap h₁->Q false {s with heap:=h₁}):
  wpAny (model prog w) A (Builtin.SmallTypes.ownedTupleIsFree (.ref z)) Q E s:=by
 unfold Builtin.SmallTypes.ownedTupleIsFree;refine zjZ (wpAny_field hz rfl (x:=.int n 0) rfl ?_);refine zjZ (wG ?_);rw [hn];refine zjZ (wpAny_field hz rfl (x:=.bool fl) rfl ?_);cases fl with
 |true=>exact zjY (h s.heap hz ⟨rfl,fun _ _=>rfl⟩)
 |false=>exact zjZ (wpAny_setField_rec hz (by simp) fun h₁ hz₁ hs₁=>zjY (h h₁ hz₁ hs₁))
theorem A62 {z TI TO i1 i2:Addr}{f1 f2:List Addr}{n1 n2 k:Nat}{P1 P2:Nat->Value->Prop}{S1 S2:Nat->Heap->Prop}{a b:Value}{Q:Value->Shared->Prop}(D1:Draws prog w A i1 f1 n1 P1 S1)(D2:Draws prog w A i2 f2 n2 P2 S2)(D:eE z TI TO i1 i2 f1 f2)
  {n:Int}{o:Obj}{fl:Bool}(hz:dD s.heap z TI TO (.int n 0) fl)(hn:s.heap.get? n.toNat=some o)(hTI:IsPair s.heap TI (.ref i1) (.ref i2))(hTO:IsPair s.heap TO a b)(t1:S1 k s.heap)(t2:S2 k s.heap)(hk1:k<n1)(hk2:k<n2)
  (hQ:∀x y h' tk,P1 k x->P2 k y->dD h' z TI TO (.int n 0) true->IsPair h' TO a b->S1 (k+1) h'->S2 (k+1) h'->IsPair h' s.heap.objs.size x y->
   (∀c o,c≠z->c≠TO->c≠i1->c≠i2->s.heap.get? c=some o->h'.get? c=some o)->Q (.ref s.heap.objs.size) {s with heap:=h',toks:=tk}):
  wpAny (model prog w) A (Builtin.«zip.__next__» ⟨[.ref z],[]⟩) (fun fin s'=> ∃v,fin= .done (.ret v)/\Q v s') E s:=by
 show wpAny _ _ (field (.ref z) 2>>=_) _ _ _;refine zjZ (wpAny_field hz rfl (x:=.bool false) rfl ?_);show wpAny _ _ (field (.ref z) 3>>=_) _ _ _;refine zjZ (wpAny_field hz rfl (x:=.ref TI) rfl (zjZ (wpAny_seqItems hTI rfl ?_)));show wpAny _ _ (Builtin.SmallTypes.ownedTupleIsFree (.ref z)>>=_) _ _ _;refine zjZ (A00 hz hn fun h₁ hz₁ hs₁=> ?_);simp only [Bool.false_eq_true,if_false];rw [←Array.forIn_toList];simp only [forIn_cons,forIn_nil];refine zjZ (zjZ (zjZ (wpAny_holding ?_)));show wpAny _ _ (Builtin.SmallTypes.nextOf (.ref i1)>>=_) _ _ _;have u1:S1 k h₁:=D1.frame k _ _ t1 fun c hc o e=>hs₁.extBut _ _ (fun q=>D.z1 (q▸hc)) e;refine zjZ (D1.item k _ _ _ hk1 u1 fun x h₂ tk₂ hx v1 hs₂=>zjY (zjY ?_));refine zjZ (zjZ (wpAny_holding ?_));show wpAny _ _ (Builtin.SmallTypes.nextOf (.ref i2)>>=_) _ _ _;have u2:S2 k h₂:=D2.frame k _ _ t2 fun c hc o e=>hs₂.extBut _ _ (fun q=>D.c1 (q▸hc)) (hs₁.extBut _ _ (fun q=>D.z2 (q▸hc)) e);refine zjZ (D2.item k _ _ _ hk2 u2 fun y h₃ tk₃ hy v2 hs₃=>zjY (zjY (zjY ?_)));refine zjZ (wpAny_newTuple (zjY ⟨_,rfl,?_⟩) (by show 2<=sizeLine;decide));have hsz:h₃.objs.size=s.heap.objs.size:=by rw [hs₃.1,hs₂.1,hs₁.1]
 have up:∀c o,c≠z->c≠i1->c≠i2->s.heap.get? c=some o->(h₃.push {cls:=.type "tuple",data:=.seq #[x,y]}).get? c=some o:=fun c o e1 e2 e3 e=>zjX _ (hs₃.extBut _ _ e3 (hs₂.extBut _ _ e2 (hs₁.extBut _ _ e1 e)));have hz₃:dD h₃ z TI TO (.int n 0) true:=hs₃.extBut _ _ D.jz.symm (hs₂.extBut _ _ D.iz.symm hz₁);have w1:S1 (k+1) h₃:=D1.frame _ _ _ v1 fun c hc o e=>hs₃.extBut _ _ (fun q=>D.c2 (q▸hc)) e;show Q (.ref h₃.objs.size) _;rw [hsz];refine hQ x y _ _ hx hy (zjX _ hz₃) (up _ _ D.Oz D.O1 D.O2 hTO) (D1.frame _ _ _ w1 fun c hc o e=>zjX _ e) (D2.frame _ _ _ v2 fun c hc o e=>zjX _ e) ?_ fun c o e1 _ e3 e4 e=>up c o e1 e3 e4 e;rw [←hsz];exact get?_push_size _ rfl
theorem B0h (D1:Draws prog w A i1 f1 n1 P1 S1)(D:eE z TI TO i1 i2 f1 f2)
  (hz:dD s.heap z TI TO (.int n 0) fl)(hn:s.heap.get? n.toNat=some o)(hTI:IsPair s.heap TI (.ref i1) (.ref i2))(t1:S1 n1 s.heap)
  (hE:∀h' e,(∀c o,c≠z->c≠i1->s.heap.get? c=some o->h'.get? c=some o)->(∃o,h'.get? e=some o/\o.cls= .type "StopIteration")->E (.ref e) {s with heap:=h'}):
  wpAny (model prog w) A (Builtin.«zip.__next__» ⟨[.ref z],[]⟩) Q E s:=by
 show wpAny _ _ (field (.ref z) 2>>=_) _ _ _;refine zjZ (wpAny_field hz rfl (x:=.bool false) rfl ?_);show wpAny _ _ (field (.ref z) 3>>=_) _ _ _;refine zjZ (wpAny_field hz rfl (x:=.ref TI) rfl (zjZ (wpAny_seqItems hTI rfl ?_)));show wpAny _ _ (Builtin.SmallTypes.ownedTupleIsFree (.ref z)>>=_) _ _ _;refine zjZ (A00 hz hn fun h₁ hz₁ hs₁=> ?_);simp only [Bool.false_eq_true,if_false];rw [←Array.forIn_toList];simp only [forIn_cons,forIn_nil];refine zjZ (zjZ (zjZ (wpAny_holding ?_)));show wpAny _ _ (Builtin.SmallTypes.nextOf (.ref i1)>>=_) _ _ _;have u1:S1 n1 h₁:=D1.frame n1 _ _ t1 fun c hc o e=>hs₁.extBut _ _ (fun q=>D.z1 (q▸hc)) e;refine zjZ (D1.done _ _ _ u1 fun h₂ e hs₂ he=> ?_);exact hE h₂ e (fun c o c1 c3 x=>hs₂ _ _ c3 (hs₁.extBut _ _ c1 x)) he
theorem A81 {z TI TO i1 i2:Addr}{f1 f2:List Addr}{n1 n2 k:Nat}{P1 P2:Nat->Value->Prop}{S1 S2:Nat->Heap->Prop}{a b:Value}{out:Value}{fl:Bool}{Q:Option Value->Shared->Prop}(D1:Draws prog w A.in1 i1 f1 n1 P1 S1)(D2:Draws prog w A.in1 i2 f2 n2 P2 S2)(D:eE z TI TO i1 i2 f1 f2)
  (hz:dD s.heap z TI TO out fl)(ho:out= .none\/ ∃n,out= .int n 0)(hTI:IsPair s.heap TI (.ref i1) (.ref i2))(hTO:IsPair s.heap TO a b)(t1:S1 k s.heap)(t2:S2 k s.heap)(hk1:k<n1)(hk2:k<n2)
  (hQ:∀x y h' tk out' fl' u v,P1 k x->P2 k y->dD h' z TI TO out' fl'->(out'= .none\/ ∃n,out'= .int n 0)->IsPair h' TO u v->S1 (k+1) h'->S2 (k+1) h'->IsPair h' s.heap.objs.size x y->
   (∀c o,c≠z->c≠TO->c≠i1->c≠i2->s.heap.get? c=some o->h'.get? c=some o)->Q (some (.ref s.heap.objs.size)) {s with heap:=h',toks:=tk}):
  wpAny (model prog w) A (pyNext (.ref z)) Q E s:=by
 have hT:s.TypeIs (.ref z) "zip":=⟨_,hz,rfl⟩;unfold pyNext;refine zjZ (wpAny_attempt (wpAny_callSpecial?_slot (name:=Str.ofString "__next__") hT F.slot_zip_next (wpAny_call_entry F.slot_zip_next hT F.entry_zip_next ?_ (F.args_zip_next_1 _))));have free:(out= .none\/ ∃n,out= .int n 0/\s.heap.get? n.toNat=none)\/ ∃n o,out= .int n 0/\s.heap.get? n.toNat=some o:=by
  rcases ho with e| ⟨n,e⟩
  ·exact .inl (.inl e)
  ·cases g:s.heap.get? n.toNat with
   |none=>exact .inl (.inr ⟨n,e,g⟩)
   |some o=>exact .inr ⟨n,o,e,g⟩
 rcases free with f| ⟨n,o,rfl,g⟩
 ·exact A41 D1 D2 D hz f hTI hTO t1 t2 hk1 hk2 fun x y h' tk q1 q2 a1 a2 a3 a4 a5 a6=>zjY (hQ x y h' tk _ _ _ _ q1 q2 a1 (.inr ⟨_,rfl⟩) a2 a3 a4 a5 a6)
 ·exact A62 D1 D2 D hz g hTI hTO t1 t2 hk1 hk2 fun x y h' tk q1 q2 a1 a2 a3 a4 a5 a6=>zjY (hQ x y h' tk _ _ _ _ q1 q2 a1 (.inr ⟨_,rfl⟩) a2 a3 a4 a5 a6)
theorem A4e (D1:Draws prog w A.in1 i1 f1 n1 P1 S1)(D:eE z TI TO i1 i2 f1 f2)
  (hz:dD s.heap z TI TO out fl)(ho:out= .none\/ ∃n,out= .int n 0)(hTI:IsPair s.heap TI (.ref i1) (.ref i2))(t1:S1 n1 s.heap)
  (hQ:∀h',(∀c o,c≠z->c≠i1->s.heap.get? c=some o->h'.get? c=some o)->Q none {s with heap:=h'}):wpAny (model prog w) A (pyNext (.ref z)) Q E s:=by
 have hT:s.TypeIs (.ref z) "zip":=⟨_,hz,rfl⟩;unfold pyNext;refine zjZ (wpAny_attempt (wpAny_callSpecial?_slot (name:=Str.ofString "__next__") hT F.slot_zip_next (wpAny_call_entry F.slot_zip_next hT F.entry_zip_next ?_ (F.args_zip_next_1 _))));have free:(out= .none\/ ∃n,out= .int n 0/\s.heap.get? n.toNat=none)\/ ∃n o,out= .int n 0/\s.heap.get? n.toNat=some o:=by
  rcases ho with e| ⟨n,e⟩
  ·exact .inl (.inl e)
  ·cases g:s.heap.get? n.toNat with
   |none=>exact .inl (.inr ⟨n,e,g⟩)
   |some o=>exact .inr ⟨n,o,e,g⟩
 rcases free with f| ⟨n,o,rfl,g⟩
 ·refine A8p D1 D hz f hTI t1 fun h' e hk he=> ?_;obtain⟨o,ho,hc⟩:=he;exact zjZ (wpAny_isInstance (T:="StopIteration") (b:=true) ⟨o,ho,hc⟩ isSubtype_stop (zjY (hQ _ hk)))
 ·refine B0h D1 D hz g hTI t1 fun h' e hk he=> ?_;obtain⟨o,ho,hc⟩:=he;exact zjZ (wpAny_isInstance (T:="StopIteration") (b:=true) ⟨o,ho,hc⟩ isSubtype_stop (zjY (hQ _ hk)))
theorem B0m (hz:dD s.heap z TI TO out fl)(h:Q (.ref z) s):wpAny (model prog w) A (pyIter (.ref z)) Q E s:=
 wpAny_pyIter_slot (T:="zip") ⟨_,hz,rfl⟩ F.slot_zip_iter (wpAny_call_entry F.slot_zip_iter ⟨_,hz,rfl⟩ F.entry_zip_iter (show wpAny _ _ (ret (.ref z)) _ _ s from zjY ⟨_,rfl,"zip",_,⟨_,hz,rfl⟩,F.slot_zip_next.lookup,h⟩) (F.args_zip_iter_1 _))
end
end PySem
namespace PySem
open Sem (wp)
namespace F
theorem zip_no_len:typeLookup (.type "zip") "__len__" =pure none:=by rw [typeLookup_type,builtinLookup_eq_fast];kernel_rfl
theorem zip_no_hint:typeLookup (.type "zip") "__length_hint__" =pure none:=by rw [typeLookup_type,builtinLookup_eq_fast];kernel_rfl
end F
structure ZS (h:Heap)(z TI TO i1 i2 l1 l2:Addr)(xs ys:Array Value)(k:Nat):Prop where
 z:∃out fl,dD h z TI TO out fl/\(out= .none\/ ∃n,out= .int n 0)
 I:IsPair h TI (.ref i1) (.ref i2)
 O:∃u v,IsPair h TO u v
 a:h.IsListIter i1 l1 k
 b:h.IsListIter i2 l2 k
 p:h.IsList l1 xs
 q:h.IsList l2 ys
theorem ZS.at {h h':Heap}{z TI TO i1 i2 l1 l2:Addr}{xs ys:Array Value}{k:Nat}(x:ZS h z TI TO i1 i2 l1 l2 xs ys k)(kp:∀b∈[z,TI,TO,i1,i2,l1,l2],∀o,h.get? b=some o->h'.get? b=some o):ZS h' z TI TO i1 i2 l1 l2 xs ys k:=
 ⟨let ⟨o,f,e,g⟩:=x.z;⟨o,f,kp z (by simp) _ e,g⟩,kp TI (by simp) _ x.I,let ⟨u,v,e⟩:=x.O;⟨u,v,kp TO (by simp) _ e⟩,x.a.at fun o e=>kp i1 (by simp) o e,x.b.at fun o e=>kp i2 (by simp) o e,x.p.at fun o e=>kp l1 (by simp) o e,x.q.at fun o e=>kp l2 (by simp) o e⟩
noncomputable def Prd (h:Heap)(av:List Addr)(xs ys:Array Value)(acc:Array Value)(i:Nat):Prop:=(acc.size=i/\acc.toList.Nodup)/\∀j,j<i->∃T x y,acc[j]?=some (.ref T)/\xs[j]?=some x/\ys[j]?=some y/\IsPair h T x y/\T∉av/\av.headD 0<T
theorem Prd.at (x:Prd h av xs ys acc i)(kp:∀b o,b∉av->h.get? b=some o->h'.get? b=some o):Prd h' av xs ys acc i:=
 ⟨x.1,fun j hj=>let ⟨T,a,b,h1,h2,h3,h4,h5,h6⟩:=x.2 j hj;⟨T,a,b,h1,h2,h3,kp _ _ h5 h4,h5,h6⟩⟩
section
theorem A7k {R:Result->Shared->Prop}{z TI TO i1 i2 l1 l2 S:Addr}{xs ys:Array Value}(hh:A.in1.in1.handled=none)(D:eE z TI TO i1 i2 [i1,l1] [i2,l2])(n1:l1≠i1)(n2:l2≠i2)(hl:xs.size=ys.size)(hn:xs.size<=sizeLine)(hS:S∉[z,TI,TO,i1,i2,l1,l2])(hl1:l1∉[S,z,TI,TO,i1,i2])(hl2:l2∉[S,z,TI,TO,i1,i2])(res:Value):
  ∀(k i:Nat)(s:Shared)(acc:Array Value)(c:Nat),xs.size - i=k->i<=xs.size->ZS s.heap z TI TO i1 i2 l1 l2 xs ys i->s.heap.get? S=some {cls:=.type "list",dict:=none,data:=.seq acc c,slots:=#[]}->Prd s.heap [S,z,TI,TO,i1,i2] xs ys acc i->
  (∀h' tk acc' c',(∀b o,b∉[S,z,TI,TO,i1,i2]->s.heap.get? b=some o->h'.get? b=some o)->h'.get? S=some {cls:=.type "list",dict:=none,data:=.seq acc' c',slots:=#[]}->Prd h' [S,z,TI,TO,i1,i2] xs ys acc' xs.size->R (.ok (.ret res)) {s with heap:=h',toks:=tk})->
  codeAny (model prog w) A (.builtin "list.extend.loop" ⟨[.ref S,.ref z,res],[]⟩) R s:=by
 intro k
 induction k with
 |zero=>
  intro i s acc c hk hi Z hS' hP hR;have hin:i=xs.size:=by omega
  subst hin;refine codeAny_builtin F.entry_extend_loop ?_;rw [Around.under_plainId F.plain_extend_loop _];show wpAny _ A.in1 (pyNext (.ref z)>>=_) _ _ s;obtain⟨out,fl,hz,ho⟩:=Z.z;refine zjZ (A4e (Draws.list hh i1 l1 n1 xs) D hz ho Z.I ⟨Z.a,Z.p⟩ fun h' kp=> ?_);have kp':∀b o,b∉[S,z,TI,TO,i1,i2]->s.heap.get? b=some o->h'.get? b=some o:=fun b o hb e=>kp b o (fun q=>hb (by simp [q])) (fun q=>hb (by simp [q])) e;exact zjY (hR h' s.toks acc c kp' (kp S _ (fun q=>hS (by simp [q])) (fun q=>hS (by simp [q])) hS') (hP.at kp'))
 |succ k ih=>
  intro i s acc c hk hi Z hS' hP hR;have hlt:i<xs.size:=by omega
  refine codeAny_builtin F.entry_extend_loop ?_;rw [Around.under_plainId F.plain_extend_loop _];show wpAny _ A.in1 (pyNext (.ref z)>>=_) _ _ s;obtain⟨out,fl,hz,ho⟩:=Z.z;obtain⟨u,v,hO⟩:=Z.O;refine zjZ (A81 (Draws.list hh i1 l1 n1 xs) (Draws.list hh i2 l2 n2 ys) D hz ho Z.I hO ⟨Z.a,Z.p⟩ ⟨Z.b,Z.q⟩ hlt (by omega) fun x y h' tk out' fl' u' v' hx hy g1 g1o g2 g3 g4 g5 g6=> ?_);have kp:∀b o,b∉[S,z,TI,TO,i1,i2]->s.heap.get? b=some o->h'.get? b=some o:=fun b o hb e=>g6 b o (fun q=>hb (by simp [q])) (fun q=>hb (by simp [q])) (fun q=>hb (by simp [q])) (fun q=>hb (by simp [q])) e;have lt:∀{b o},s.heap.get? b=some o->s.heap.objs.size≠b:=fun e=>ne_of_gt (zjT e);have ne1:s.heap.objs.size≠i1:=let ⟨_,e,_⟩:=Z.a;lt e;have ne2:s.heap.objs.size≠i2:=let ⟨_,e,_⟩:=Z.b;lt e;have hT:s.heap.objs.size∉[S,z,TI,TO,i1,i2]:=by
   simp only [mem_cons,not_mem_nil,or_false];rintro(e|e|e|e|e|e)
   ·exact lt hS' e
   ·exact lt hz e
   ·exact lt Z.I e
   ·exact lt hO e
   ·exact ne1 e
   ·exact ne2 e
  have hS2:=g6 S _ (fun q=>hS (by simp [q])) (fun q=>hS (by simp [q])) (fun q=>hS (by simp [q])) (fun q=>hS (by simp [q])) hS';have Z2:ZS h' z TI TO i1 i2 l1 l2 xs ys (i+1):=⟨⟨out',fl',g1,g1o⟩,g6 _ _ D.Iz D.IO D.I1 D.I2 Z.I,⟨u',v',g2⟩,g3.1,g4.1,g3.2,g4.2⟩;have hP2:Prd h' [S,z,TI,TO,i1,i2] xs ys (acc.push (.ref s.heap.objs.size)) (i+1):=by
   refine⟨⟨by rw [Array.size_push,hP.1.1],?_⟩,fun j hj=> ?_⟩
   ·rw [Array.toList_push,nodup_append];refine⟨hP.1.2,by simp,fun a ha b hb e=> ?_⟩;rw [mem_singleton.mp hb]at e;rw [e]at ha;obtain⟨j,hj⟩:=mem_iff_getElem?.mp ha;have hj':acc[j]?=some (.ref s.heap.objs.size):=by simpa using hj
    have jl:j<i:=by
     have:=(Array.getElem?_eq_some_iff.mp hj').1;rw [hP.1.1]at this;exact this
    obtain⟨T,x',y',h1,_,_,h4,_⟩:=hP.2 j jl;rw [hj']at h1;have eT:s.heap.objs.size=T:=by cases h1;rfl
    exact lt h4 eT
   by_cases e:j<i
   ·obtain⟨T,a,b,h1,h2,h3,h4,h5,h6⟩:=hP.2 j e;refine⟨T,a,b,?_,h2,h3,kp _ _ h5 h4,h5,h6⟩;rw [Array.getElem?_push,if_neg (by rw [hP.1.1];omega)];exact h1
   ·have e:j=i:=by omega
    subst e;refine⟨s.heap.objs.size,x,y,?_,hx,hy,g5,hT,zjT hS'⟩;rw [Array.getElem?_push,if_pos hP.1.1.symm]
  show wpAny _ A.in1 (updateSeq S (·.push (.ref s.heap.objs.size))>>=_) _ _ _;refine zjZ ?_;have oth:∀b o,b≠S->h'.get? b=some o->(h'.update S (Obj.mapSeq (·.push (.ref s.heap.objs.size)))).get? b=some o:=fun b o hb e=>(get?_update_other _ _ (Ne.symm hb)).trans e;refine wpAny_updateSeq hS2 rfl (zjY ⟨plainId_quiet F.plain_extend_loop _,ih (i+1) _ (acc.push (.ref s.heap.objs.size)) _ (by omega) hlt (Z2.at fun b hb o e=>oth b o (fun q=>hS (q▸hb)) e) (get?_update_self _ hS2 rfl) (hP2.at fun b o hb e=>oth b o (fun q=>hb (by simp [q])) e) fun h'' tk'' acc'' c'' kp'' hS'' hP''=> ?_⟩)
   (by rw [hP.1.1];omega) (by show(acc.push _).size<=sizeLine+1;rw [Array.size_push,hP.1.1];omega)
  exact hR h'' tk'' acc'' c'' (fun b o hb e=>kp'' b o hb (oth b o (fun q=>hb (by simp [q])) (kp b o hb e))) hS'' hP''
end
end PySem
namespace PySem
open Sem (wp)
section
theorem A6i (hh:A.in1.in1.handled=none)(D:eE z TI TO i1 i2 [i1,l1] [i2,l2])(n1:l1≠i1)(n2:l2≠i2)(hl:xs.size=ys.size)(hn:xs.size<=sizeLine)(hSn:S∉[z,TI,TO,i1,i2,l1,l2])(hl1:l1∉[S,z,TI,TO,i1,i2])(hl2:l2∉[S,z,TI,TO,i1,i2])(res:Value)(c:Nat)
  (Z:ZS s.heap z TI TO i1 i2 l1 l2 xs ys 0)(hS:s.heap.get? S=some {cls:=.type "list",dict:=none,data:=.seq #[] c,slots:=#[]})
  (hR:∀h' tk acc' c',(∀b o,b∉[S,z,TI,TO,i1,i2]->s.heap.get? b=some o->h'.get? b=some o)->h'.get? S=some {cls:=.type "list",dict:=none,data:=.seq acc' c',slots:=#[]}->Prd h' [S,z,TI,TO,i1,i2] xs ys acc' xs.size->R (.ok (.ret res)) {s with heap:=h',toks:=tk}):
  wpAny (model prog w) A.in1 (Builtin.List.listExtendWith (.ref S) (.ref z) res)
   (fun fin s'=>match fin with| .done f=>R (.ok f) s'| .again c'=>c'.quiet=true/\codeAny (model prog w) A c' R s') (fun e s'=>R (.error e) s') s:=by
 obtain⟨out,fl,hz,ho⟩:=Z.z;have hT:s.TypeIs (.ref z) "zip":=⟨_,hz,rfl⟩;have hSz:S≠z:=fun q=>hSn (by simp [q]);unfold Builtin.List.listExtendWith;refine zjZ (wpAny_typeOf hT ?_);have h1:Builtin.List.listSameRef (.ref S) (.ref z)=false:=by simp [Builtin.List.listSameRef,hSz]
 have h2:(Value.type "zip" ==Value.type "list")=false:=by decide
 have h3:(Value.type "zip" ==Value.type "tuple")=false:=by decide
 simp only [h1,h2,h3,Bool.or_false,Bool.false_eq_true,if_false];refine zjZ (B0m hz ?_);refine zjZ (wpAny_holding ?_);unfold Builtin.List.listLengthHint;refine zjZ (wpAny_specialOf hT F.zip_no_len ?_);show wpAny _ A.in1 (specialOf (Value.ref z) (Str.ofString "__length_hint__")>>=_) _ _ _;refine zjZ (wpAny_specialOf hT F.zip_no_hint ?_);refine zjY ?_;show wpAny _ A.in1 (rule "list.extend.makes-room" >>=fun _=>Builtin.List.listTouch (.ref S)>>=fun _=>
  again (.builtin "list.extend.loop" ⟨[.ref S,.ref z,res],[]⟩)) _ _ _
 refine zjZ (wpAny_rule ?_);refine zjZ ?_;show wpAny _ A.in1 (updateSeq S (·.push .none)>>=fun _=>updateSeq S (·.pop)) _ _ _;refine zjZ (wpAny_updateSeq hS rfl ?_);have hS₂:=get?_update_self (Obj.mapSeq (·.push Value.none)) hS rfl;refine wpAny_updateSeq (hz:=by seq_fits) hS₂ rfl ?_;have hS₃:=get?_update_self (Obj.mapSeq (·.pop)) hS₂ rfl;have oth:∀b o,b≠S->s.heap.get? b=some o->((s.heap.update S (Obj.mapSeq (·.push Value.none))).update S (Obj.mapSeq (·.pop))).get? b=some o:=
  fun b o hb e=>(get?_update_other _ _ (Ne.symm hb)).trans ((get?_update_other _ _ (Ne.symm hb)).trans e)
 refine zjY ⟨plainId_quiet F.plain_extend_loop _,A7k hh D n1 n2 hl hn hSn hl1 hl2 res xs.size 0 _ _ _ rfl (zero_le _) (Z.at fun b hb o e=>oth b o (fun q=>hSn (q▸hb)) e) hS₃ ⟨⟨rfl,.nil⟩,fun j hj=>absurd hj (Nat.not_lt_zero _)⟩ fun h' tk acc' c' kp hS' hP=> ?_⟩;exact hR h' tk acc' c' (fun b o hb e=>kp b o hb (oth b o (fun q=>hb (by simp [q])) e)) hS' hP
end
section
theorem A4b (hh:A.in1.in1.in1.handled=none)(D:eE z TI TO i1 i2 [i1,l1] [i2,l2])(n1:l1≠i1)(n2:l2≠i2)(hl:xs.size=ys.size)(hn:xs.size<=sizeLine)(hl1:l1∉[z,TI,TO,i1,i2])(hl2:l2∉[z,TI,TO,i1,i2])
  (Z:ZS s.heap z TI TO i1 i2 l1 l2 xs ys 0)
  (hQ:∀h' tk acc' c',(∀b o,b∉[z,TI,TO,i1,i2]->s.heap.get? b=some o->h'.get? b=some o)->h'.get? s.heap.objs.size=some {cls:=.type "list",dict:=none,data:=.seq acc' c',slots:=#[]}->Prd h' [s.heap.objs.size,z,TI,TO,i1,i2] xs ys acc' xs.size->Q (.ref s.heap.objs.size) {s with heap:=h',toks:=tk}):
  wpAny (model prog w) A (call (.type "list") [.ref z]) Q E s:=by
 have lt:∀{b o},s.heap.get? b=some o->s.heap.objs.size≠b:=fun e=>ne_of_gt (zjT e);obtain⟨out,fl,hz,ho⟩:=Z.z;obtain⟨u,v,hO⟩:=Z.O;have k1:s.heap.objs.size≠i1:=let ⟨_,e,_⟩:=Z.a;lt e;have k2:s.heap.objs.size≠i2:=let ⟨_,e,_⟩:=Z.b;lt e;have k3:s.heap.objs.size≠l1:=let ⟨_,e,_⟩:=Z.p;lt e;have k4:s.heap.objs.size≠l2:=let ⟨_,e,_⟩:=Z.q;lt e;have hSn:s.heap.objs.size∉[z,TI,TO,i1,i2,l1,l2]:=by
  simp only [mem_cons,not_mem_nil,or_false];rintro(e|e|e|e|e|e|e)
  ·exact lt hz e
  ·exact lt Z.I e
  ·exact lt hO e
  ·exact k1 e
  ·exact k2 e
  ·exact k3 e
  ·exact k4 e
 refine callType_codes (Q₁:=fun obj s₁=>obj= .ref s.heap.objs.size/\s₁={s with heap:=s.heap.push {cls:=.type "list",data:=.seq #[]}}) F.called_list (F.typeCall_list_1 _) F.entry_list_init
  (code_list_new _ ⟨rfl,rfl⟩) fun obj s₁ h₁=> ?_
 obtain⟨rfl,rfl⟩:=h₁;have hS:(s.heap.push {cls:=.type "list",data:=.seq #[]}).get? s.heap.objs.size=some {cls:=.type "list",data:=.seq #[]}:=get?_push_size _ rfl;refine⟨⟨_,hS,rfl⟩,F.args_list_init_2 _ _,?_⟩
 show wpAny _ _ (do let old←Builtin.List.listItems (.ref s.heap.objs.size);Builtin.List.listUpdate (.ref s.heap.objs.size) (fun _=> #[]);letGo old.toList.reverse;Builtin.List.listExtendWith (.ref s.heap.objs.size) (.ref z) .none) _ _ _;refine zjZ ?_;unfold Builtin.List.listItems;refine zjZ (wpAny_seqItems hS rfl (zjY ?_));show wpAny _ _ (updateSeq s.heap.objs.size (fun _=> #[])>>=fun _=>letGo (#[]:Array Value).toList.reverse>>=fun _=>Builtin.List.listExtendWith (.ref s.heap.objs.size) (.ref z) .none) _ _ _;refine zjZ (wpAny_updateSeq hS rfl ?_);have hS₂:=get?_update_self (Obj.mapSeq (fun _=>(#[]:Array Value))) hS rfl;have oth:∀b o,b≠s.heap.objs.size->s.heap.get? b=some o->((s.heap.push {cls:=.type "list",data:=.seq #[]}).update s.heap.objs.size (Obj.mapSeq (fun _=>(#[]:Array Value)))).get? b=some o:=
  fun b o hb e=>(get?_update_other _ _ (Ne.symm hb)).trans (zjX _ e)
 refine zjZ (wpAny_letGo ?_);have a1:l1∉[s.heap.objs.size,z,TI,TO,i1,i2]:=fun q=>by
  rcases mem_cons.mp q with e|e
  ·exact k3 e.symm
  ·exact hl1 e
 have a2:l2∉[s.heap.objs.size,z,TI,TO,i1,i2]:=fun q=>by
  rcases mem_cons.mp q with e|e
  ·exact k4 e.symm
  ·exact hl2 e
 refine A6i hh D n1 n2 hl hn hSn a1 a2 .none _ (Z.at fun b hb o e=>oth b o (fun q=>hSn (q▸hb)) e) hS₂ fun h' tk acc' c' kp hS' hP=> ?_;refine⟨rfl,hQ h' tk acc' c' (fun b o hb e=> ?_) hS' hP⟩;have nb:b≠s.heap.objs.size:=fun q=>lt e q.symm;exact kp b o (fun q=>by rcases mem_cons.mp q with e|e;exact nb e;exact hb e) (oth b o nb e)
end
end PySem
namespace L2
open PySem PySem.Spec PyProof.Rows
section
theorem Inv.laidN (I:Inv X pins σ H s)(k:∀b u,s.heap.get? b=some u->h'.get? b=some u)(old:∀b,b<s.heap.objs.size->H' b=H b)(grow:∀b u,H b=some u->H' b=some u)
  (new:∀b u,H' b=some u->H b=none->ObjOk X.prog X.w H' h' b u):Inv X pins σ H' {s with heap:=h',toks:=t'}:=by
 refine I.un ⟨fun b u q _ _ _=>k b u q,fun b u q _ _ _=> ⟨u.slots,k b u q⟩,fun b u q n _=>by rw [old b (zjT q)];exact n,fun b u q _=> ⟨u,k b u q⟩,fun b xs q=>grow b _ q,fun b u xs q=>grow b _ q,fun b ps q=> ⟨#[],by rw [grow b _ q];simp⟩⟩ fun b u e=> ?_;cases q:H b with
 |none=>exact new b u e q
 |some u'=>
  have:=grow b u' q;rw [this]at e;cases e;exact(I.hok b _ q).stay (fun c v _ q=>k c v q) (fun c q=>grow _ _ q) fun c xs q=>grow _ _ q
end
noncomputable def fL (H:Hp):List (Addr×V×V)->Hp
 | []=>H
 |t::r=>upd (fL H r) t.1 (.tup [t.2.1,t.2.2])
theorem pL:∀{r:List (Addr×V×V)}{b:Addr},b∉r.map (·.1)->fL H r b=H b
 | [],_,_=>rfl
 |t::r,b,h=>by
  rw [map_cons,mem_cons,not_or]at h;show upd (fL H r) t.1 _ b=_;rw [aV h.1];exact pL h.2
theorem yX:∀{r:List (Addr×V×V)}{t:Addr×V×V},(r.map (·.1)).Nodup->t∈r->fL H r t.1=some (.tup [t.2.1,t.2.2])
 | [],_,_,h=>by cases h
 |u::r,t,hn,h=>by
  rw [map_cons,nodup_cons]at hn;show upd (fL H r) u.1 _ t.1=_;rcases mem_cons.mp h with e|e
  ·rw [e,aG]
  ·have:t.1≠u.1:=fun z=>hn.1 (by rw [←z];exact mem_map.mpr ⟨t,e,rfl⟩);rw [aV this];exact yX hn.2 e
theorem yE:∀{r:List (Addr×V×V)}{b:Addr}{u:HO},fL H r b=some u->H b=none->∃t∈r,t.1=b/\u= .tup [t.2.1,t.2.2]
 | [],_,_,h,hn=>by
  have h:_=some _:=h;rw [show fL H []=H from rfl,hn]at h;cases h
 |t::r,b,u,h,hn=>by
  by_cases e:b=t.1
  ·have h:upd (fL H r) t.1 (.tup [t.2.1,t.2.2]) b=some u:=h;rw [e,aG]at h;cases h;exact⟨t,zjR,e.symm,rfl⟩
  ·have h:upd (fL H r) t.1 (.tup [t.2.1,t.2.2]) b=some u:=h;rw [aV e]at h;obtain⟨t',h1,h2⟩:=yE h hn;exact⟨t',zjS _ h1,h2⟩
theorem tN:∀ts:List Addr,Vals (ts.map V.ref) (ts.map Value.ref)
 | []=> .nil
 |_::ts=> .cons rfl (tN ts)
noncomputable def unref:Value->Addr
 | .ref a=>a
 |_=>0
noncomputable def tLZ (K:W.Frag)(ta:TA):TE:=fun σ H Q=>ta σ H fun vs H1=> ∃a b xs ys,vs=[.ref a,.ref b]/\SqL K H1 a xs/\SqL K H1 b ys/\xs.length=ys.length/\
 ∀l ps H',H1 l=none->Same H1 H'->H' l=some (.lst (ps.map V.ref))->Paired (fun p (z:V×V)=>H' p=some (.tup [z.1,z.2])) ps (xs.zip ys)->Q (.ref l) H'
theorem yY:∀{ts:List Addr}{zs:List (V×V)},ts.length=zs.length->(∀(j:Nat) t z,ts[j]?=some t->zs[j]?=some z->F t z)->Paired F ts zs
 | [],[],_,_=> .nil
 |t::ts,z::zs,h,hf=> .cons (hf 0 t z rfl rfl) (yY (by simpa using h) fun j t z h1 h2=>hf (j+1) t z (by simpa using h1) (by simpa using h2))
 | [],_::_,h,_=>by cases h
 |_::_,[],h,_=>by cases h
section
theorem A55 (hc:X.calm=true)(hL:Gl X "list")(mL:X.mg "list" =none)(hg:Gl X "zip")(hm:X.mg "zip" =none)(ha:PA X [a,b] ta)(hs:starEach [a,b] X.env=[(false,eval a X.env),(false,eval b X.env)]:=by rfl)(hs2:starEach [b] X.env=[(false,eval b X.env)]:=by rfl)
  (hs3:starEach [.Call (.Name "zip" p2) [a,b] [] pos2] X.env=[(false,eval (.Call (.Name "zip" p2) [a,b] [] pos2) X.env)]:=by rfl):PE X (.Call (.Name "list" p) [.Call (.Name "zip" p2) [a,b] [] pos2] [] pos) (tLZ X.K ta):=by
 intro pins s σ H Q I h;refine wpAny_Call_Name_kw (gL I hL mL boot_list ?_ (by decide) (by decide));refine PyProof.Rows.callWith_type1 ?_ hs3 rfl;rw [hs3];refine Calls.spliced_cons (wpAny_Call_Name_kw (gL I hg hm boot_zip (PyProof.Rows.callWith_type1 (thn (ha pos2 pins s σ H _ I h) fun us s1 ⟨vs,H1,I1,r1,q1⟩=> ?_) (by rw [hs,hs2]) (by rw [hs2];rfl)) (by decide) (by decide)));obtain⟨a',b',xs,ys,e,q1,q2,hlen,q⟩:=q1;subst e;obtain⟨u,v,rfl,rx,ry⟩:=nU r1;cases rx;cases ry;obtain⟨its,rv,p1⟩:=kL_ok.get I1 q1;obtain⟨jts,rw',p2'⟩:=kL_ok.get I1 q2;have l1:=kL_ok.lt p1;have l2:=kL_ok.lt p2';refine kL_ok.zip p1 p2' fun h1 a1 a2 a3 a4 a5 a7=> ?_;refine Calls.spliced_nil ?_;have I2:Inv X pins σ H1 {s1 with heap:=h1}:=I1.kept (t':=s1.toks) a7;have far:=qJ s1.heap.objs.size a' b' l1 l2;have hh:X.A.in1.in1.in1.handled=none:=by simp [I1.ok.hd hc]
 have hzl:=zjT a1;have rl:=rv.length;have rl':=rw'.length;obtain⟨its0,r0,_,hz⟩:=I1.list q1;refine A4b (s:={s1 with heap:=h1}) hh far (ne_of_lt l1) (ne_of_lt (lt_succ_of_lt l2)) (by rw [size_toArray,size_toArray];omega) (by rw [size_toArray];omega)
  (fun z=> ?_) (fun z=> ?_) ⟨⟨_,_,a1,.inl rfl⟩,a2,⟨_,_,a3⟩,a4,a5,Heap.IsList.at p1 fun o e=>a7 _ o e,Heap.IsList.at p2' fun o e=>a7 _ o e⟩ fun h2 tk acc c kp hS hP=> ?_
 ·simp only [mem_cons,not_mem_nil,or_false]at z;rcases z with z|z|z|z|z<;>(have z':@Eq Nat _ _:=z;have l1':@LT.lt Nat _ _ _:=l1;omega)
 ·simp only [mem_cons,not_mem_nil,or_false]at z;rcases z with z|z|z|z|z<;>(have z':@Eq Nat _ _:=z;have l2':@LT.lt Nat _ _ _:=l2;omega)
 have hzl':s1.heap.objs.size+4<h1.objs.size:=hzl;have kA:∀b o,s1.heap.get? b=some o->h2.get? b=some o:=fun b o e=>kp b o (fun z=>by
  have lb:@LT.lt Nat _ b s1.heap.objs.size:=zjT e;simp only [mem_cons,not_mem_nil,or_false]at z;rcases z with z|z|z|z|z<;>(have z':@Eq Nat _ _:=z;omega)) (a7 b o e)
 have hn:its.toArray.size=xs.length:=by rw [size_toArray];omega
 rw [hn]at hP;have hv:∀v∈acc.toList,Value.ref (unref v)=v:=fun v hv=>by
  obtain⟨j,hj⟩:=mem_iff_getElem?.mp hv;have hj':acc[j]?=some v:=by simpa using hj
  have jl:=(Array.getElem?_eq_some_iff.mp hj').1;rw [hP.1.1]at jl;obtain⟨T,x,y,h1,_⟩:=hP.2 j jl;rw [hj']at h1;cases h1;rfl
 have hacc:acc.toList=(acc.toList.map unref).map Value.ref:=by
  rw [map_map];exact((map_congr_left (g:=id) hv).trans (map_id _)).symm
 have hTl:(acc.toList.map unref).length=xs.length:=by rw [length_map,Array.length_toList,hP.1.1]
 have hTn:(acc.toList.map unref).Nodup:=by
  have:=hP.1.2;rw [hacc]at this;exact List.Pairwise.of_map Value.ref (fun a b h e=>h (by rw [e])) this
 have hTs:∀(j:Nat) T,(acc.toList.map unref)[j]?=some T->∃x y,its[j]?=some x/\jts[j]?=some y/\IsPair h2 T x y/\h1.objs.size<T:=fun j T e=>by
  have jl:j<xs.length:=by rw [←hTl];exact(zjW.mp e).1
  obtain⟨T',x,y,g1,g2,g3,g4,_,g6⟩:=hP.2 j jl;have:(acc.toList.map unref)[j]?=some T':=by
   rw [getElem?_map];have g1':acc.toList[j]?=some (.ref T'):=by simpa using g1
   rw [g1'];rfl
  rw [this]at e;cases e;exact⟨x,y,by simpa using g2,by simpa using g3,g4,g6⟩
 generalize acc.toList.map unref=Ts at hacc hTl hTn hTs;have hfst:(Ts.zip (xs.zip ys)).map (·.1)=Ts:=List.map_fst_zip (by rw [length_zip];omega);have hTm:∀T∈Ts,h1.objs.size<T:=fun T hT=>by
  obtain⟨j,hj⟩:=mem_iff_getElem?.mp hT;obtain⟨_,_,_,_,_,g⟩:=hTs j T hj;exact g
 have hS0:H1 h1.objs.size=none:=I2.hok.fresh (zjQ _);have hT0:∀T∈Ts,H1 T=none:=fun T hT=>I2.hok.fresh (le_of_lt (hTm T hT));have hSn:h1.objs.size∉Ts:=fun z=>lt_irrefl _ (hTm _ z);have atS:(upd (fL H1 (Ts.zip (xs.zip ys))) h1.objs.size (.lst (Ts.map V.ref))) h1.objs.size=some (.lst (Ts.map V.ref)):=aG;have grow:Same H1 (upd (fL H1 (Ts.zip (xs.zip ys))) h1.objs.size (.lst (Ts.map V.ref))):=fun b u e=>by
  rw [aV (bG e hS0),pL]
  ·exact e
  ·rw [hfst];exact fun z=>by rw [hT0 b z]at e;cases e
 have atT:∀t∈Ts.zip (xs.zip ys),(upd (fL H1 (Ts.zip (xs.zip ys))) h1.objs.size (.lst (Ts.map V.ref))) t.1=some (.tup [t.2.1,t.2.2]):=fun t ht=>by
  have hm:t.1∈Ts:=by rw [←hfst];exact mem_map.mpr ⟨t,ht,rfl⟩
  rw [aV (fun z=>hSn (by rw [←z];exact hm))];exact yX (by rw [hfst];exact hTn) ht
 have IF:Inv X pins σ (upd (fL H1 (Ts.zip (xs.zip ys))) h1.objs.size (.lst (Ts.map V.ref))) {s1 with heap:=h2,toks:=tk}:=by
  refine I1.laidN kA (fun b hb=> ?_) grow fun b u e hn0=> ?_
  ·have hb':@LT.lt Nat _ b s1.heap.objs.size:=hb;have n1:b≠h1.objs.size:=fun z=>by have z':@Eq Nat _ _:=z;omega
   rw [aV n1,pL];rw [hfst];exact fun z=>by have:=hTm b z;have this:@LT.lt Nat _ _ _:=this;omega
  ·by_cases eb:b=h1.objs.size
   ·rw [eb,aG]at e;cases e;rw [eb];have hacc2:acc=(Ts.map Value.ref).toArray:=by rw [←hacc]
    rw [hacc2]at hS;exact⟨by rw [length_map];omega,Ts.map Value.ref,c,tN Ts,hS⟩
   ·rw [aV eb]at e;obtain⟨t,ht,e1,e2⟩:=yE e hn0;obtain⟨j,hj⟩:=mem_iff_getElem?.mp ht;obtain⟨hj1,hj2⟩:=getElem?_zip_eq_some.mp hj;obtain⟨hj3,hj4⟩:=getElem?_zip_eq_some.mp hj2;obtain⟨x,y,g1,g2,g3,_⟩:=hTs j t.1 hj1;obtain⟨ux,hux,rx⟩:=rv.get hj3;obtain⟨uy,huy,ry⟩:=rw'.get hj4;rw [g1]at hux;cases hux;rw [g2]at huy;cases huy;rw [e2,←e1];exact⟨by show 2<=sizeLine;rw [sizeLine_eq];decide,[x,y],.cons rx (.cons ry .nil),⟨_,g3,rfl,_,rfl⟩⟩
 refine⟨.ref h1.objs.size,_,IF,rfl,q _ Ts _ hS0 grow atS (yY (by rw [length_zip];omega) fun j t z h1 h2=> ?_)⟩;exact atT (t,z) (mem_iff_getElem?.mpr ⟨j,getElem?_zip_eq_some.mpr ⟨h1,h2⟩⟩)
end
end L2
namespace M52
open PySem L2 PyProof.Rows Grd Wlk Cyc Srt Set4
noncomputable def qI:Sp:=fun vs H Q _=> ∃p h t g w cs cl od hs ks,vs=[.ref p,.ref h,.ref t]/\PhA H p h t g w cs cl od hs ks/\∀H',Same H H'->Q (.bl true) H'
noncomputable abbrev nRi:List Str:=["_law_plea","_law_houses","_law_parting","_law_here","_law_left","_law_some","_law_less","_law_told","_law_ways_here"]
theorem scRi:gK nRi ["_law_plea","_law_houses","_law_parting"] (bC fY):=by ac_rfl
theorem wW:(["_law_one","_law_other"]:List Str).Nodup:=by decide +kernel
noncomputable abbrev rEnd:List Stmt:=(cR fY).drop 3
theorem oA (H:Hp)(n:Nat):∀ks:List Int,∃bs,E3 (EqD H n) (ks.map V.int) (ks.map V.int) bs/\bs.all id=true
 | []=> ⟨[],trivial,rfl⟩
 |k::ks=>by
  obtain⟨bs,h1,h2⟩:=oA H n ks;refine⟨decide (k=k)::bs,⟨EqD.int n k k,h1⟩,?_⟩;rw [all_cons,h2,zjV rfl];rfl
theorem qV:∀l:List Int,l.sum=dA l
 | []=>rfl
 |x::l=>by rw [sum_cons,qV l];rfl
section
variable {P:Program}{w:World}{K:W.Frag}{mg:Str->Option Value}{base:Heap}
variable {f:Addr}{cdv:Value}{A:Around}{outer:List Env}{s:Shared}{H0:Hp}{E:XK}
noncomputable abbrev XR (P:Program)(w:World)(K:W.Frag)(mg:Str->Option Value)(base:Heap)(f:Addr)(cdv:Value)(A:Around)(outer:List Env)(s:Shared)(H0:Hp)(E:XK):Cx:=(fH CX0 P w K mg base nRi "_law_right" (bC fY) f cdv A outer s H0 E).nox
theorem A2i (TC:TxC mg)(hr:Room 17 (XR P w K mg base f cdv A outer s H0 E).A)(aS:A1 P w K mg base 17 "settled" qG)(aP:A1 P w K mg base 12 "is_parting" kE)(aY:A1 P w K mg base 16 "_law_ways" pI):∃tt,PSs (XR P w K mg base f cdv A outer s H0 E) rEnd tt/\
  ∀(D:cY)(o4 o5 o6 o7 o8:Option V)(p h t th:Addr)(g:bD)(w:Nat)(cs:List Int)(cl:List C3)(od:Int)(hs:List Pl)(ks e:List Int)(H:Hp),PhA H p h t g w cs cl od hs ks->H th=some (.tup (e.map V.int))->Stl g cs cl od hs ks e->
   (∀H',Same H H'->D.rt (.bl true) H')->tt D [some (.ref p),some (.ref h),some (.ref t),some (.ref th),o4,o5,o6,o7,o8] H:=by
 have nd:=scRi.nd;refine⟨_,aN (bT (i:=7) nd rfl (Or.inl rfl) (aS.c hr (aB (pv 0) (aB (pv 1) (aB (pv 2) aA)))))<|
  aN (bV (PW.pt (gW (bX (yV 1 (cX hr)) (pv 7) (pv 3) (nomark _)) (gW (cD (bQ (bH nP rfl TC.isinstance boot_isinstance (aB (pv 7) (aB (nV (v:=.ty "tuple") rfl TC.tuple boot_tuple rfl) aA))))) (jK (cD (bQ (aP.c hr (aB (pv 0) (aB (pv 7) aA))))))))) (aQ (bA eR)) bU)<|
  aN (bT (i:=8) nd rfl (Or.inl rfl) (A55 rfl rfl TC.list rfl TC.zip (cI (aY.c hr (aB (pv 0) (aB (pv 1) (aB (pv 7) aA)))) (cI (aY.c hr (aB (pv 0) (aB (pv 1) (aB (pv 2) aA)))) aA))))<|
  aQ (bA (fQ (eL (pC 1 (cX hr)) (bJ (bC fY).names nRi ["_law_one","_law_other"] [] rfl (cU (pv 8)) rfl rfl rfl (by decide +kernel)
    (fun Z=>bN rfl (aX (nm1 0 wW) (aX (nm1 1 wW) bM))) (fun Z=>dY (bX nI (pv 0) (pv 1) (nomark _))) (fun Z=>pv 0)) (cN aA) (nomark _))
   (fP (eL (zX 1 (cX hr)) (aS.c hr (aB (pv 0) (aB (pv 1) (aB (pv 7) aA)))) (pv 7) (nomark _))))),?_⟩
 intro D o4 o5 o6 o7 o8 p h t th g w' cs cl od hs ks e H B eth hst k;refine⟨_,rfl,_,rfl,_,rfl,p,h,t,g,w',cs,cl,od,hs,ks,rfl,B,fun t1 e1 H1 s1 B1 st1 fle=> ?_⟩;obtain rfl:=st1.one hst;obtain⟨bs,hb1,hb2⟩:=oA H1 1 e1;refine⟨_,rfl,_,rfl,t1,th,_,_,bs,rfl,rfl,.inl ⟨B1.B.t,s1 _ _ eth⟩,hb1,_,rfl,?_⟩;rw [hb2];refine bL ⟨_,rfl,_,"tuple",.type "tuple",true,rfl,.tup B1.B.t,by kernel_rfl,_,rfl,bL ?_⟩;refine⟨_,rfl,_,rfl,p,t1,g,w',cs,cl,od,e1,rfl,B1.B,fun H2 s2=> ?_⟩;rw [B1.b];refine⟨_,rfl,?_⟩;refine bL ?_;have B2:=B1.same s2;refine⟨_,rfl,_,rfl,_,rfl,p,h,t1,g,w',cs,cl,od,hs,e1,rfl,B2,fun la H3 hla s3 ela=> ?_⟩;have sA:=(s1.trans s2).trans s3;refine⟨_,rfl,_,rfl,_,rfl,p,h,t,g,w',cs,cl,od,hs,ks,rfl,B.same sA,fun lb H4 hlb s4 elb=> ?_⟩;refine⟨la,lb,_,_,rfl,SqL.of (s4 _ _ ela),SqL.of elb,by unfold eI;simp only [length_map],fun lz ps H5 hlz s5 elz hPz=> ?_⟩;have sB:=(sA.trans s4).trans s5;have hpl:ps.length=_:=Paired.length hPz;refine⟨_,rfl,lz,rfl,⟨_,SqL.of elz⟩,fun Z r hr'=> ?_⟩;refine dQ (K:=K) (a:=lz) (xs:=ps.map V.ref) (fun i σ H'=>(∃o0 o1,σ=[o0,o1])/\Same H5 H'/\H' r=some (.lst [])) ⟨⟨_,_,rfl⟩,aM hr',aG⟩ (fun i σ H' _ h=>SqL.of (h.2.1 _ _ elz)) ?_ ?_
 ·rintro i x σ H' hx ⟨⟨o0,o1,rfl⟩,hs',er⟩;obtain⟨b,hb,rfl⟩:=dW hx;obtain⟨z,hz,eb⟩:=fS hPz hb;obtain⟨hz1,hz2⟩:=getElem?_zip_eq_some.mp hz;obtain⟨a1,ha1,ea1⟩:=lY hz1;obtain⟨a2,ha2,ea2⟩:=lY hz2;unfold eI at ha1 ha2;rw [getElem?_map]at ha1 ha2;cases hk:(hI cl)[i]? with
  |none=>rw [hk]at ha1;cases ha1
  |some n=>
   rw [hk]at ha1 ha2;cases ha1;cases ha2;have hle:=fle n (mem_of_getElem? hk);refine⟨b,_,rfl,SqT.of (hs' _ _ eb),rfl,_,_,rfl,_,_,rfl,rfl,?_⟩;refine⟨_,rfl,_,rfl,_,_,ea1.symm,ea2.symm,_,rfl,dR (fun z=>absurd z (by omega)) fun z=> ?_⟩;exact⟨⟨_,_,rfl⟩,hs',er⟩
 ·rintro σ H6 ⟨⟨o0,o1,rfl⟩,hs',er⟩;refine⟨by show 0<=sizeLine;decide,fun l0 hl0=> ?_⟩;have u:=aM (o:=.lst []) hl0;refine⟨r,l0,[],[],rfl,rfl,u _ _ er,aG,.inr ⟨[],trivial,_,rfl,fR ?_⟩⟩;have sC:=(((s2.trans s3).trans s4).trans s5).trans (hs'.trans u);have B7:=B1.same sC;generalize upd H6 l0 (.lst [])=H7 at u sC B7⊢;refine⟨_,rfl,_,rfl,_,rfl,p,h,t1,g,w',cs,cl,od,hs,e1,rfl,B7,fun t2 e2 H8 s8 B8 st8 _=> ?_⟩;obtain rfl:=st8.one (.stop st1.fin);obtain⟨bs2,hc1,hc2⟩:=oA H8 1 e2;refine⟨_,rfl,t2,t1,_,_,bs2,rfl,rfl,.inl ⟨B8.B.t,s8 _ _ B7.B.t⟩,hc1,?_⟩;rw [hc2];exact k H8 ((s1.trans sC).trans s8)
end
theorem A7l (h:c∈bW g ks i):c∈aT pos g:=by obtain⟨z,hz,rfl⟩:=mem_map.mp h;exact(of_mem_zip (mem_filter.mp hz).1).1
theorem A1c (B:PhA H p h t g w cs cl od hs ks):∀n∈eI g cl hs ks,-1000<=n/\n<=1000:=fun n hn=>by
 obtain⟨k,hk,rfl⟩:=mem_map.mp hn;have hne:=(B.ne (gB hk)).2.2;have h0:=xP (hs:=hs) hne;refine⟨by omega,?_⟩;unfold bP;have h2:(bW g ks k).map (gZ (hs.getD k.toNat (0,0)))≠[]:=fun z=>hne (List.map_eq_nil_iff.mp z);obtain⟨c,hc,e⟩:=mem_map.mp (lW h2).1;rw [←e];obtain⟨b1,b2,b3,b4⟩:=rK B.B.D.G B.B.D.g3 B.B.D.w4 (A7l hc);have hb:(-99<=(hs.getD k.toNat (0,0)).1/\(hs.getD k.toNat (0,0)).1<=99)/\-99<=(hs.getD k.toNat (0,0)).2/\(hs.getD k.toNat (0,0)).2<=99:=by
  rw [getD_eq_getElem?_getD];cases q:hs[k.toNat]? with
  |none=>exact⟨⟨by decide,by decide⟩,by decide,by decide⟩
  |some x=>exact B.o.b x (mem_of_getElem? q)
 unfold gZ ab;omega
theorem uQ (g:bD)(cl:List C3)(hs:List Pl)(ks:List Int):(eI g cl hs ks).length<=1000:=by unfold eI;rw [length_map];have:=A0s cl;omega
section
variable {P:Program}{w:World}{K:W.Frag}{mg:Str->Option Value}{base:Heap}
theorem B1j (F:D1 K mg "_law_right" fY ["_law_plea","_law_houses","_law_parting"])(TC:TxC mg)(aS:A1 P w K mg base 17 "settled" qG)(aP:A1 P w K mg base 12 "is_parting" kE)(aY:A1 P w K mg base 16 "_law_ways" pI)(aW:A1 P w K mg base 16 "who_would" pG)(aE:A1 P w K mg base 16 "exchanged" qN):A1 P w K mg base 18 "_law_right" qI:=by
  refine F.k nRi ?_;ac_nf
  · obtain⟨p,h,t,g,w',cs,cl,od,hs,ks,rfl,B,q⟩:=h
    obtain⟨tb,hb,rb⟩:=A2i (P:=P) (w:=w) (K:=K) (mg:=mg) (base:=base) (f:=f) (cdv:=cdv) (A:=A) (outer:=outer) (s:=s) (H0:=H) (E:=E) TC hr aS aP aY;have eb:cR fY=(cR fY).getD 0 pNo::(cR fY).getD 1 pNo::(cR fY).getD 2 pNo::rEnd:=rfl;rw [eb];generalize rEnd=S1 at hb;refine⟨_,aN (gJ (i:=3) (j:=4) rfl nd rfl rfl (by decide) rfl rfl (aB (pv 2) (cI (bH (lB rfl) rfl TC.sum boot_sum (cI (aY.c hr (aB (pv 0) (aB (pv 1) (aB (pv 2) aA)))) aA)) aA)) rfl)<|
      aN (bT (i:=5) nd rfl (Or.inl rfl) (aW.c hr (aB (pv 0) (aB (pv 1) (aB (pv 3) aA)))))<|
      aN (kF PassesOwn.never (bX (sO 1 (cX hr)) (pv 5) (cN aA) (nomark _))
        (aN (bT (i:=3) nd rfl (Or.inl rfl) (aE.c hr (aB (pv 0) (aB (pv 1) (aB (pv 3) (eF (bI cB (bI dM (pv 5) aK (fun _ _=>rfl)) aK (fun _ _=>rfl)) (eF (bI cB (bI dM (pv 5) aK (fun _ _=>rfl)) aK (fun _ _=>rfl)) aA)))))))<|
         aN (bT (i:=6) nd rfl (Or.inl rfl) (bH (lB rfl) rfl TC.sum boot_sum (cI (aY.c hr (aB (pv 0) (aB (pv 1) (aB (pv 3) aA)))) aA)))<|
         aN (bV (bX nI (pv 6) (bF fJ (pv 4) aK) (nomark _)) (aQ (bA eR)) bU)<|
         aQ (gJ (i:=4) (j:=5) rfl nd rfl rfl (by decide) rfl rfl (aB (pv 6) (cI (aW.c hr (aB (pv 0) (aB (pv 1) (aB (pv 3) aA)))) aA)) rfl))) hb,?_⟩
    refine⟨_,rfl,_,rfl,_,rfl,_,rfl,p,h,t,g,w',cs,cl,od,hs,ks,rfl,B,fun ly H1 hly s1 ely=> ?_⟩;refine⟨ly,eI g cl hs ks,rfl,SqL.of ely,uQ ..,A1c B,?_⟩;rw [qV];refine⟨_,_,rfl,?_⟩;refine⟨_,rfl,_,rfl,_,rfl,p,h,t,g,w',cs,cl,od,hs,ks,rfl,B.same s1,fun l0 ps0 H2 hl0 s2 el0 hP0=> ?_⟩;have s12:=s1.trans s2;refine⟨fun m σ H'=> ∃th l ks' ps,(∃o6,σ=[some (.ref p),some (.ref h),some (.ref t),some (.ref th),some (.int (dA (eI g cl hs ks'))),some (.ref l),o6,none,none])/\Same H H'/\StW H' p h g w' cs cl od hs ks th l ks' ps/\m=(dA (eI g cl hs ks')).toNat,
      ⟨_,t,l0,ks,ps0,⟨_,rfl⟩,s12,⟨B.same s12,el0,hP0,fun e h=>h,fun k _=>Int.le_refl _⟩,rfl⟩,?_⟩
    rintro m σ H' ⟨th,l,ks',ps,⟨o6,rfl⟩,hs',W,rfl⟩;refine⟨_,rfl,by show 0<=sizeLine;decide,fun ln hln=> ?_⟩;have u:=aM (o:=.lst []) hln;refine⟨l,ln,_,[],rfl,rfl,u _ _ W.l,aG,?_⟩;have B2:=W.B.same u;have el2:=u _ _ W.l;have hP2:=W.P.same u;have hH2:=hs'.trans u;generalize upd H' ln (.lst [])=H3 at B2 el2 hP2 hH2⊢;have hpl:ps.length=_:=Paired.length hP2;cases hw:gE g cs cl od hs ks' with
    |nil=>
      right
      rw [hw]at hpl;obtain rfl:ps=[]:=eq_nil_of_length_eq_zero hpl;refine⟨[],trivial,_,rfl,bL ?_⟩;exact rb _ _ _ _ _ _ p h t th g w' cs cl od hs ks ks' H3 (B.same hH2) B2.B.t (W.e ks' (.stop hw)) fun H4 s4=>q H4 (hH2.trans s4)
    |cons c rest=>
      left
      rw [hw]at hpl hP2;refine⟨fun z=> ?_,_,rfl,fR ⟨_,fun σ' H' h=>h,?_⟩⟩
      · rw [length_map,hpl]at z;cases z
      obtain⟨b,bs,rfl⟩:∃b bs,ps=b::bs:=exists_cons_of_ne_nil (fun z=>by rw [z]at hpl;cases hpl);have eb':H3 b=some (.tup [.int c.1,.int c.2]):=by cases hP2 with|cons r _=>exact r
      have hc:c∈gE g cs cl od hs ks':=by rw [hw];exact zjR
      obtain⟨hc1,hc2⟩:=mem_filter.mp hc;obtain⟨c1,c2,c12⟩:=mD hc1;obtain⟨hle,hless⟩:=uI hc;refine⟨_,rfl,_,rfl,_,rfl,_,rfl,l,_,0,.ref b,rfl,rfl,SqL.of el2,bR (j:=0) rfl,b,_,0,_,rfl,rfl,SqT.of eb',rfl,_,rfl,l,_,0,.ref b,rfl,rfl,SqL.of el2,bR (j:=0) rfl,b,_,1,_,rfl,rfl,SqT.of eb',rfl,?_⟩;refine⟨p,h,th,g,w',cs,cl,od,hs,ks',c.1,c.2,rfl,B2,gB c1,gB c2,by omega,hc2,fun t2 H4 s4 B4=> ?_⟩;refine⟨_,rfl,_,rfl,_,rfl,p,h,t2,g,w',cs,cl,od,hs,swK c.1 c.2 ks',rfl,B4,fun ly2 H5 hly2 s5 ely2=> ?_⟩;refine⟨ly2,eI g cl hs (swK c.1 c.2 ks'),rfl,SqL.of ely2,uQ ..,A1c B4,?_⟩;rw [qV];refine⟨_,rfl,_,rfl,_,_,rfl,rfl,_,_,rfl,rfl,_,rfl,dR (fun z=>absurd z (by omega)) fun _=> ?_⟩;refine⟨_,rfl,_,rfl,_,rfl,_,rfl,p,h,t2,g,w',cs,cl,od,hs,swK c.1 c.2 ks',rfl,B4.same s5,fun l2 ps2 H6 hl2 s6 el6 hP6=> ?_⟩;refine⟨_,_,rfl,?_⟩;have nn:=zP B4;exact⟨_,by omega,t2,l2,swK c.1 c.2 ks',ps2,⟨_,rfl⟩,(hH2.trans s4).trans (s5.trans s6),⟨B4.same (s5.trans s6),el6,hP6,fun e h=>W.e e (.step hw h),fun k hk=>Int.le_trans (hle k hk) (W.f k hk)⟩,rfl⟩
end
noncomputable def nT (K:W.Frag):Sp:=fun vs H Q _=> ∃(a:Addr)(ns:List Int),vs=[.ref a]/\SqL K H a (ns.map V.int)/\ns.length<=63/\∀H',Q (.bl true) H'
noncomputable abbrev uR:List Str:=["_law_script","_law_cell_here","_law_pen_here","_law_plea","_law_houses","_law_some","_law_at","_law_parting"]
noncomputable abbrev A7v:List Stmt:=jH ((cR kH).getD 0 pNo)
section
variable {P:Program}{w:World}{K:W.Frag}{mg:Str->Option Value}{base:Heap}
theorem scLaw:gK uR ["_law_script"] (bC kH):=by ac_rfl
section
variable {f:Addr}{cdv:Value}{A:Around}{outer:List Env}{s:Shared}{H0:Hp}{E:XK}
noncomputable abbrev XL (P:Program)(w:World)(K:W.Frag)(mg:Str->Option Value)(base:Heap)(f:Addr)(cdv:Value)(A:Around)(outer:List Env)(s:Shared)(H0:Hp)(E:XK):Cx:=(fH CX0 P w K mg base uR "law" (bC kH) f cdv A outer s H0 E).nox
theorem A3p (TC:TxC mg)(hr:Room 18 (XL P w K mg base f cdv A outer s H0 E).A)(aR:A1 P w K mg base 18 "_law_right" qI)(aD:A1 P w K mg base 1 "_law_draw" gG)
  (aE:A1 P w K mg base 1 "_law_pen" qF)(aL:A1 P w K mg base 2 "_law_loose" oP)(aO:A1 P w K mg base 2 "_law_contrary" rY)(aP:A1 P w K mg base 5 "_law_partings" nX):∃tt,PSs (XL P w K mg base f cdv A outer s H0 E) A7v tt/\
  ∀(D:cY)(o0 o2 o3 o4 o5 o6 o7:Option V)(i:Int)(H:Hp),(∀o2' o3' o4' o5' o6' o7' H',Same H H'->D.nx [o0,some (.int i),o2',o3',o4',o5',o6',o7'] H')->tt D [o0,some (.int i),o2,o3,o4,o5,o6,o7] H:=by
 have nd:=scLaw.nd;refine⟨_,aN (bT (i:=2) nd rfl (Or.inl rfl) (aE.c hr (aB (pv 1) aA)))<|
  aN (bT (i:=3) nd rfl (Or.inl rfl) (aL.c hr (aB (pv 2) aA)))<|
  aN (gJ (i:=4) (j:=5) rfl nd rfl rfl (by decide) rfl rfl (cI (aO.c hr (aB (pv 2) (aB (pv 3) aA))) (cI (aP.c hr (aB (pv 3) aA)) aA)) rfl)<|
  aN (bT (i:=6) nd rfl (Or.inl rfl) (aD.c hr (aB (pv 2) (dE (bF eO (bH fE rfl TC.len PySem.boot_len (aB (pv 5) aA)) aK) aA))))<|
  aQ (fF PassesOwn.never rfl (cU (bF nM (bF nM (iZ jD (pv 5) nH (hJ aK)) (iZ jD (pv 5) (hJ (pv 6)) (hJ (bF eO (pv 6) aK)))) (iZ jD (pv 5) (hJ (jR iY aK)) nH))) (nm1 7 nd)
   (aQ (bV (cD (bQ (aR.c hr (aB (pv 3) (aB (pv 4) (aB (pv 7) aA)))))) (aQ (bA eR)) bU))),?_⟩
 intro D o0 o2 o3 o4 o5 o6 o7 i H hD;refine⟨_,rfl,i,rfl,fun pn H1 hp0 s1 pen=> ?_⟩;refine⟨_,rfl,pn,rfl,pen,fun pl g w' cs cl od H2 st2 hP c3=> ?_⟩;refine⟨_,rfl,_,rfl,pn,pl,g,w',cs,cl,od,rfl,st2.pen,hP,fun h hs H3 st3 hh ho=> ?_⟩;have x3:=st3.ext st2.pen;have st23:=st2.trans st3;have hP3:=hP.ext x3;refine⟨_,rfl,pl,g,w',cs,cl,od,rfl,hP3,c3,fun l zs H4 hl s4 el hz hzs=> ?_⟩;have st4:=st23.same s4;have nl:l≠pn:=st23.pen.fresh hl;refine⟨_,_,rfl,?_⟩;refine⟨_,rfl,_,rfl,l,_,rfl,.inl (SqL.of el),_,_,rfl,rfl,?_⟩;refine⟨pn,_,rfl,st4.pen,by omega,by rw [length_map];omega,fun d H5 d0 d1 st5=> ?_⟩;have x5:=st5.ext st4.pen;have st45:=st4.trans st5;have el5:=st5.keep _ _ nl el;have sH5:Same H H5:=fun b u e=>st45.keep b u (bG e hp0) (s1 _ _ e);have fin:∀H',Same H5 H'->∀z∈zs,PhA H' pl h z.1 g w' cs cl od hs z.2:=fun H' s' z hz=>by
  obtain⟨e1,e2⟩:=hzs z hz;exact⟨⟨((hP3.same s4).ext x5).same s',s' _ _ (x5.tup _ _ e1),e2.l,e2.h⟩,e2.b,SqA.ext (SqA.ext (SqA.ext hh s4.ext) x5) s'.ext,ho⟩
 have hxl:(zs.map fun z=>V.ref z.1).length<=262144:=by rw [length_map];exact hz
 have hxm:∀x∈zs.map fun z=>V.ref z.1,∃z∈zs,x=V.ref z.1:=fun x hx=>by
  obtain⟨z,hz,rfl⟩:=mem_map.mp hx;exact⟨z,hz,rfl⟩
 generalize (zs.map fun z=>V.ref z.1)=xs at el5 hxl hxm;have c1:=kX xs none (some 1);have c2:=kX xs (some d) (some (d+2));have c3':=kX xs (some (-1)) none;refine⟨_,rfl,_,rfl,l,_,rfl,SqL.of el5,fun l1 hl1=> ?_⟩;have v1:=aM (o:=.lst (cutV xs none (some 1))) hl1;have e1:(upd H5 l1 (.lst (cutV xs none (some 1)))) l1=some (.lst (cutV xs none (some 1))):=aG;generalize upd H5 l1 (.lst (cutV xs none (some 1)))=H6 at v1 e1⊢;refine⟨_,rfl,_,rfl,_,rfl,_,rfl,_,_,rfl,rfl,_,rfl,l,_,rfl,SqL.of (v1 _ _ el5),fun l3 hl3=> ?_⟩;have v3:=aM (o:=.lst (cutV xs (some d) (some (d+2)))) hl3;have e3:(upd H6 l3 (.lst (cutV xs (some d) (some (d+2))))) l3=some (.lst (cutV xs (some d) (some (d+2)))):=aG;generalize upd H6 l3 (.lst (cutV xs (some d) (some (d+2))))=H8 at v3 e3⊢;have m2:=@nK xs (some d) (some (d+2));generalize cutV xs (some d) (some (d+2))=ys2 at e3 m2 c2;refine⟨l1,l3,_,_,rfl,rfl,v3 _ _ e1,e3,by rw [sizeLine_eq];omega,fun l4 hl4=> ?_⟩;have v4:=aM (o:=.lst (cutV xs none (some 1)++ys2)) hl4;have e4:(upd H8 l4 (.lst (cutV xs none (some 1)++ys2))) l4=some (.lst (cutV xs none (some 1)++ys2)):=aG;generalize upd H8 l4 (.lst (cutV xs none (some 1)++ys2))=H9 at v4 e4⊢;have s59:=(v1.trans v3).trans v4;refine⟨_,rfl,_,rfl,_,rfl,l,_,rfl,SqL.of (s59 _ _ el5),fun l5 hl5=> ?_⟩;have v5:=aM (o:=.lst (cutV xs (some (-1)) none)) hl5;have e5:(upd H9 l5 (.lst (cutV xs (some (-1)) none))) l5=some (.lst (cutV xs (some (-1)) none)):=aG;generalize upd H9 l5 (.lst (cutV xs (some (-1)) none))=Ha at v5 e5⊢;have m1:∀x∈cutV xs none (some 1),x∈xs:=fun x hx=>nK hx;have m3:∀x∈cutV xs (some (-1)) none,x∈xs:=fun x hx=>nK hx;generalize cutV xs none (some 1)=ys1 at e4 m1 c1;generalize cutV xs (some (-1)) none=ys3 at e5 m3 c3';refine⟨l4,l5,_,_,rfl,rfl,v5 _ _ e4,e5,by rw [sizeLine_eq,length_append];omega,fun l6 hl6=> ?_⟩;have v6:=aM (o:=.lst (ys1++ys2++ys3)) hl6;have e6:(upd Ha l6 (.lst (ys1++ys2++ys3))) l6=some (.lst (ys1++ys2++ys3)):=aG;generalize upd Ha l6 (.lst (ys1++ys2++ys3))=Hb at v6 e6⊢;have s5b:=(s59.trans v5).trans v6;have hmem:∀x∈ys1++ys2++ys3,∃z∈zs,x=V.ref z.1:=fun x hx=>by
  rcases mem_append.mp hx with z|z
  ·rcases mem_append.mp z with z|z
   ·exact hxm x (m1 x z)
   ·exact hxm x (m2 z)
  ·exact hxm x (m3 x z)
 refine⟨l6,rfl,⟨_,SqL.of e6⟩,?_⟩;refine dQ (K:=K) (a:=l6) (xs:=ys1++ys2++ys3) (fun j σ H'=>(∃o7,σ=[o0,some (.int i),some (.ref pn),some (.ref pl),some (.ref h),some (.ref l),some (.int d),o7])/\Same Hb H')
  ⟨⟨_,rfl⟩,Same.refl _⟩ (fun j σ H' _ h=>SqL.of (h.2 _ _ e6)) ?_ ?_
 ·rintro j y σ H' hj ⟨⟨o7,rfl⟩,hs'⟩;obtain⟨z,hz,rfl⟩:=hmem y (mem_of_getElem? hj);refine⟨_,rfl,_,rfl,_,rfl,pl,h,z.1,g,w',cs,cl,od,hs,z.2,rfl,fin H' (s5b.trans hs') z hz,fun H'' s''=> ?_⟩;exact⟨_,rfl,bL ⟨⟨_,rfl⟩,hs'.trans s''⟩⟩
 ·rintro σ H' ⟨⟨o7,rfl⟩,hs'⟩;exact hD _ _ _ _ _ _ H' (sH5.trans (s5b.trans hs'))
end
theorem B04 {f:Addr}{fd:FuncData}(F:Fun K "law" "law" kH f fd)(TC:TxC mg)(aR:A1 P w K mg base 18 "_law_right" qI)(aD:A1 P w K mg base 1 "_law_draw" gG)
  (aE:A1 P w K mg base 1 "_law_pen" qF)(aL:A1 P w K mg base 2 "_law_loose" oP)(aO:A1 P w K mg base 2 "_law_contrary" rY)(aP:A1 P w K mg base 5 "_law_partings" nX)(aZ:A1 P w K mg base 1 "_law_cell" (uJ K)):gD P w K mg base CX0 19 f fd ["_law_script"] (nT K):=by
 refine F.ok scLaw (fun vs H Q E h=> ?_) (fun cdv A outer s H vs Q E hr h=> ?_)
 ·obtain⟨a,ns,rfl,_⟩:=h;rfl
 ·obtain⟨a,ns,rfl,hS,hlen,q⟩:=h;have nd:=scLaw.nd;obtain⟨tb,hb,rb⟩:=A3p (P:=P) (w:=w) (K:=K) (mg:=mg) (base:=base) (f:=f) (cdv:=cdv) (A:=A) (outer:=outer) (s:=s) (H0:=H) (E:=E) TC hr aR aD aE aL aO aP;refine⟨_,aN (fF PassesOwn.never rfl (cU (bF nM (cN (cI (aZ.c hr (aB (pv 0) (cM aK aA))) aA)) (iZ jD (pv 0) (hJ aK) (hJ aK)))) (nm1 1 nd) hb)<|
   aQ (bA eR),?_⟩
  refine⟨_,rfl,a,ns,0,rfl,hS,by decide,fun c0=> ?_⟩;refine⟨by show 1<=sizeLine;decide,fun l0 hl0=> ?_⟩;have s0:=aM (o:=.lst [.int c0]) hl0;refine⟨_,rfl,_,rfl,_,rfl,a,_,rfl,s0.seq hS,fun l1 hl1=> ?_⟩;have s1:=aM (o:=.lst (cutV (ns.map V.int) (some 1) (some 3))) hl1;have hcl:=kX (ns.map V.int) (some 1) (some 3);rw [length_map]at hcl;refine⟨l0,l1,_,_,rfl,rfl,s1 _ _ aG,aG,by rw [sizeLine_eq];show 1+_<=_;omega,fun lc hlc=> ?_⟩;have e2:(upd (upd (upd H l0 (.lst [.int c0])) l1 (.lst (cutV (ns.map V.int) (some 1) (some 3)))) lc (.lst ([.int c0]++cutV (ns.map V.int) (some 1) (some 3)))) lc=some (.lst ([.int c0]++cutV (ns.map V.int) (some 1) (some 3))):=aG;generalize upd (upd (upd H l0 (.lst [.int c0])) l1 (.lst (cutV (ns.map V.int) (some 1) (some 3)))) lc (.lst ([.int c0]++cutV (ns.map V.int) (some 1) (some 3)))=H1 at e2⊢;refine⟨lc,rfl,⟨_,SqL.of e2⟩,?_⟩;refine dQ (K:=K) (a:=lc) (xs:=[.int c0]++cutV (ns.map V.int) (some 1) (some 3)) (fun i σ H'=>(∃o1 o2 o3 o4 o5 o6 o7,σ=[some (.ref a),o1,o2,o3,o4,o5,o6,o7])/\Same H1 H')
   ⟨⟨_,_,_,_,_,_,_,rfl⟩,Same.refl _⟩ (fun i σ H' _ h=>SqL.of (h.2 _ _ e2)) ?_ ?_
  ·rintro i y σ H' hi ⟨⟨o1,o2,o3,o4,o5,o6,o7,rfl⟩,hs⟩;obtain⟨c,rfl⟩:∃c,y=V.int c:=by
    rcases mem_append.mp (mem_of_getElem? hi)with z|z
    ·exact⟨c0,mem_singleton.mp z⟩
    ·obtain⟨c,_,e⟩:=mem_map.mp (nK z);exact⟨c,e.symm⟩
   exact rb _ (some (.ref a)) o2 o3 o4 o5 o6 o7 c H' fun o2' o3' o4' o5' o6' o7' H2 s2=> ⟨⟨_,_,_,_,_,_,_,rfl⟩,hs.trans s2⟩
  ·rintro σ H' _;exact q H'
end
end M52
namespace M52
open PySem L2 PyProof.Rows Grd
theorem all_mk {l:W.OpenLaw}{w:World}{K:W.Frag}{h:Heap}{mg:Str->Option Value}{fa:Addr}{t0 t1 t2 t3 t4 t5 t6 t7 t8 t9 t10 t11 t12:Tok}(X:K.In h)(G:h.Ns mainGlobals mg)(hfa:mg "law" =some (.ref fa))
  (q0:Fk K "is_number" zE)
  (q1:Fk K "is_number_within" zI)
  (q2:Fk K "is_tuple_within" xB)
  (q3:Fk K "places_of_cells" sR)
  (q4:Fk K "is_row" pU)
  (q5:Fk K "is_mead" lZ)
  (q6:Fk K "check_mead" vA)
  (q7:Fk K "cells_of" yW)
  (q8:Fk K "roads_of" oI)
  (q9:Fk K "worth_together" jW)
  (q10:Fk K "places_beside" xU)
  (q11:Fk K "piece_round" nC)
  (q12:Fk K "is_rising" sJ)
  (q13:Fk K "is_one_piece" yB)
  (q14:Fk K "has_some_of" pS)
  (q15:Fk K "cells_at_road" pT)
  (q16:Fk K "is_custom" sX)
  (q17:Fk K "is_claim" A0t)
  (q18:Fk K "are_claims" lN)
  (q19:Fk K "check_custom" yD)
  (q20:Fk K "check_claims" yR)
  (q21:Fk K "stand_under" qD)
  (q22:Fk K "check_claims_under" wH)
  (q23:Fk K "is_holder" rL)
  (q24:Fk K "check_holder" A0g)
  (q25:Fk K "holders_of" sD)
  (q26:Fk K "count_together" rB)
  (q27:Fk K "count_of" rM)
  (q28:Fk K "fraction" vZ)
  (q29:Fk K "share_of" yA)
  (q30:Fk K "_law_cell" vK)
  (q31:Fk K "_law_pen" A08)
  (q32:Fk K "_law_draw" sI)
  (q33:Fk K "_law_holders" rR)
  (q34:Fk K "is_odd" uH)
  (q35:Fk K "is_plea" wC)
  (q36:Fk K "check_plea" A0f)
  (q37:Fk K "check_plea_and_holder" vS)
  (q38:Fk K "whole_worth" vY)
  (q39:Fk K "due_of" vQ)
  (q40:Fk K "is_sound" yI)
  (q41:Fk K "worth_the_due" qA)
  (q42:Fk K "is_fit" zZ)
  (q43:Fk K "land_within" sLW)
  (q44:Fk K "is_parting" lQ)
  (q45:Fk K "check_parting" A0r)
  (q46:Fk K "is_house" sW)
  (q47:Fk K "are_houses" qM)
  (q48:Fk K "check_houses" wM)
  (q49:Fk K "check_plea_and_houses" wZ)
  (q50:Fk K "far_between" yN)
  (q51:Fk K "far_with" sP)
  (q52:Fk K "check_parted" A1d)
  (q53:Fk K "far_of" A0b)
  (q54:Fk K "_law_next" vF)
  (q55:Fk K "_law_at_road" pE)
  (q56:Fk K "_law_cells" rO)
  (q57:Fk K "_law_piece" nA)
  (q58:Fk K "_law_worth" sY)
  (q59:Fk K "_law_fits" lD)
  (q60:Fk K "_law_fit_lands" lE)
  (q61:Fk K "_law_partings" gN)
  (q62:Fk K "_law_loose" fA)
  (q63:Fk K "check_two_holders" xE)
  (q64:Fk K "turned_about" mE)
  (q65:Fk K "would_exchange" pO)
  (q66:Fk K "exchanged" yS)
  (q67:Fk K "who_would" mQ)
  (q68:Fk K "settled" yM)
  (q69:Fk K "_law_contrary" vC)
  (q70:Fk K "_law_ways" pN)
  (q71:Fk K "_law_right" fY)
  (q72:Fk K "law" kH)
  (v0:W.nsIn K mainGlobals "MOST_ROWS" =some (some (.int 4 t0)))
  (v1:W.nsIn K mainGlobals "MOST_COLUMNS" =some (some (.int 6 t1)))
  (v2:W.nsIn K mainGlobals "MOST_CELLS" =some (some (.int 10 t2)))
  (v3:W.nsIn K mainGlobals "MOST_WORTH" =some (some (.int 99 t3)))
  (v4:W.nsIn K mainGlobals "WATER" =some (some (.int (-2) t4)))
  (v5:W.nsIn K mainGlobals "ROAD" =some (some (.int (-1) t5)))
  (v6:W.nsIn K mainGlobals "MOST_SORTS" =some (some (.int 6 t6)))
  (v7:W.nsIn K mainGlobals "MOST_COUNTED" =some (some (.int 100 t7)))
  (v8:W.nsIn K mainGlobals "MOST_HOLDERS" =some (some (.int 4 t8)))
  (v9:W.nsIn K mainGlobals "MOST_RIGHTS" =some (some (.int 20 t9)))
  (v10:W.nsIn K mainGlobals "MOST_CLAIMS" =some (some (.int 12 t10)))
  (v11:W.nsIn K mainGlobals "MOST_ODD" =some (some (.int 999 t11)))
  (v12:W.nsIn K mainGlobals "FARTHEST_OUT" =some (some (.int 99 t12)))
  (z0:W.nsIn K mainGlobals "isinstance" =some none)
  (z1:W.nsIn K mainGlobals "int" =some none)
  (z2:W.nsIn K mainGlobals "bool" =some none)
  (z3:W.nsIn K mainGlobals "tuple" =some none)
  (z4:W.nsIn K mainGlobals "len" =some none)
  (z5:W.nsIn K mainGlobals "all" =some none)
  (z6:W.nsIn K mainGlobals "enumerate" =some none)
  (z7:W.nsIn K mainGlobals "range" =some none)
  (z8:W.nsIn K mainGlobals "list" =some none)
  (z9:W.nsIn K mainGlobals "zip" =some none)
  (z10:W.nsIn K mainGlobals "sum" =some none)
  (z11:W.nsIn K mainGlobals "dict" =some none)
  (z12:W.nsIn K mainGlobals "set" =some none)
  (z13:W.nsIn K mainGlobals "sorted" =some none)
  (z14:W.nsIn K mainGlobals "any" =some none)
  (z15:W.nsIn K mainGlobals "abs" =some none)
  (z16:W.nsIn K mainGlobals "reversed" =some none)
  (z17:W.nsIn K mainGlobals "repr" =some none)
  (z18:W.nsIn K mainGlobals "min" =some none)
  (z19:W.nsIn K mainGlobals "max" =some none):
  ∃fd:FuncData,(∀(s:Shared)(v:Value),BindsTo s fd ⟨[v],[]⟩ [("_law_script",v)])/\∀base:Heap,K.In base->base.Ns mainGlobals mg->gD l.prog w K mg base CX0 19 fa fd ["_law_script"] (nT K):=by
 have T0:Txt mg:=⟨W.mg_none_of X G z0,W.mg_none_of X G z1,W.mg_none_of X G z2,W.mg_none_of X G z3,W.mg_none_of X G z4,W.mg_none_of X G z5,W.mg_none_of X G z6,⟨_,W.mg_of X G v0⟩,⟨_,W.mg_of X G v1⟩,⟨_,W.mg_of X G v2⟩,⟨_,W.mg_of X G v3⟩,⟨_,W.mg_of X G v4⟩⟩;have T1:dX mg:=⟨W.mg_none_of X G z7,W.mg_none_of X G z8,W.mg_none_of X G z9,W.mg_none_of X G z10,W.mg_none_of X G z11,W.mg_none_of X G z12,W.mg_none_of X G z13,W.mg_none_of X G z14,W.mg_none_of X G z15,⟨_,W.mg_of X G v5⟩⟩;have T2:TxC mg:=⟨W.mg_none_of X G z0,W.mg_none_of X G z1,W.mg_none_of X G z2,W.mg_none_of X G z3,W.mg_none_of X G z4,W.mg_none_of X G z5,W.mg_none_of X G z14,W.mg_none_of X G z9,W.mg_none_of X G z7,W.mg_none_of X G z10,W.mg_none_of X G z8,W.mg_none_of X G z12,W.mg_none_of X G z13,⟨_,W.mg_of X G v6⟩,⟨_,W.mg_of X G v7⟩,⟨_,W.mg_of X G v8⟩,⟨_,W.mg_of X G v9⟩,⟨_,W.mg_of X G v10⟩⟩;have T3:TxD mg:=⟨W.mg_none_of X G z16,W.mg_none_of X G z17,⟨_,W.mg_of X G v11⟩⟩;have T4:TxH mg:=⟨W.mg_none_of X G z18,W.mg_none_of X G z19,⟨_,W.mg_of X G v12⟩⟩;obtain⟨_,F,hb⟩:=q72.law (y:="_law_script") X G hfa fun _ _ _ _ _ _ _=>rfl;refine⟨_,hb,fun base _ _=> ?_⟩;have g0:A1 l.prog w K mg base _ _ _:=A5c (q0.d X G) T0;have g1:=A9q (q1.d X G) g0;have g2:A1 l.prog w K mg base _ _ _:=B1b (q2.d X G) T0;have g3:A1 l.prog w K mg base _ _ _:=A9l (q3.d X G) T0;have g4:=A64 (q4.d X G) T0 g2 g1;have g5:=A7o (q5.d X G) T0 g2 g4 g3;have g6:=A17 (q6.d X G) g5;have g7:=A6r (q7.d X G) g6 g3;have g8:=A8a (q8.d X G) T0 T1 g6;have g9:A1 l.prog w K mg base _ _ _:=A5u (q9.d X G) T1;have g10:A1 l.prog w K mg base _ _ _:=A1x (q10.d X G);have g11:=A9z (q11.d X G) T0 T1 g10;have g12:=B0x (q13.d X G) g11;have g13:A1 l.prog w K mg base _ _ _:=A68 (q14.d X G) T1;have g14:=A19 (q15.d X G) T1 g8 g7 g10;have g15:A1 l.prog w K mg base _ _ _:=A48 (q9.d X G) T1;have g16:A1 l.prog w K mg base _ _ _:=B1e (q12.d X G) T2;have g17:=B0e (q16.d X G) T2 g2 g1;have g18:=B1q (q17.d X G) T2 g2 g1;have g19:=A4l (q18.d X G) T2 g2 g18 g16;have g20:=A34 (q19.d X G) g17;have g21:=B0s (q20.d X G) g19;have g22:A1 l.prog w K mg base _ _ _:=A1k (q21.d X G) T2;have g23:=B0r (q22.d X G) g20 g21 g22;have g24:=A8c (q23.d X G) T2 g0;have g25:=A5z (q24.d X G) g24;have g26:=A4k (q25.d X G) T2 g21 g24;have g27:A1 l.prog w K mg base _ _ _:=A80 (q26.d X G) T2;have g28:=B1o (q27.d X G) g23 g25 g27;have g29:A1 l.prog w K mg base _ _ _:=A97 (q28.d X G);have g30:=A47 (q29.d X G) g29 g28 g27;have g31:A1 l.prog w K mg base _ _ _:=A8k (q30.d X G) T2;have g32:A1 l.prog w K mg base _ _ _:=A8q (q31.d X G) T2;have g33:A1 l.prog w K mg base _ _ _:=A9i (q32.d X G) T2;have g34:A1 l.prog w K mg base _ _ _:=A61 (q33.d X G) T2;have g35:=A4g (q34.d X G) T3 g1;have g36:=A53 (q35.d X G) g2 g5 g17 g19 g22 g35;have g37:=A74 (q36.d X G) g36;have g38:=A7a (q37.d X G) g37 g25;have g39:=A8n (q38.d X G) g9 g7;have g40:=A8d (q39.d X G) g38 g30 g29 g39;have g41:=A93 (q40.d X G) g13 g12;have g42:=A79 (q41.d X G) T1 g40 g15;have g43:=A84 (q42.d X G) g41 g14 g42;have g44:=A4q (q43.d X G) T0 T1 g7;have g45:=A46 (q44.d X G) T0 g37 g7 g2 g24 g26 g43 g44;have g46:=A4a (q45.d X G) g45;have g47:=B0c (q46.d X G) T0 T4 g2 g1;have g48:=A49 (q47.d X G) T0 T2 g2 g47;have g49:=A5p (q48.d X G) g48;have g50:=A50 (q49.d X G) g37 g49;have g51:A1 l.prog w K mg base _ _ _:=A10 (q50.d X G) T1;have g52:=A8i (q51.d X G (by intro _ _ _ _ _ _ us hl;match us,hl with| [_,_,_,_],_=>rfl)) T4 g44 g51;have g53:=B1n (q52.d X G) g50 g46;have g54:=A3b (q53.d X G (by intro _ _ _ _ _ _ us hl;match us,hl with| [_,_,_,_],_=>rfl)) g53 g25 g52;have g55:A1 l.prog w K mg base _ _ _:=B05 (q54.d X G) T1;have g56:=A7q (q55.d X G) T0 g55;have g57:A1 l.prog w K mg base _ _ _:=A1j (q56.d X G) T0;have g58:=A6v (q57.d X G) T0 T1 g55;have g59:A1 l.prog w K mg base _ _ _:=A6u (q58.d X G) T1;have g60:=B02 (q59.d X G) T2 T1 g59 g57 g56 g58;have g61:=A3r (q60.d X G) g57 g60;have g62:=A6g (q61.d X G) T0 T1 g57 g34 g61;have g63:=A8g (q62.d X G) T2 g33;have g64:=A4w (q63.d X G) g25;have g65:A1 l.prog w K mg base _ _ _:=A40 (q64.d X G) T2;have g66:=A16 (q65.d X G (by intro _ _ _ _ _ _ us hl;match us,hl with| [_,_,_,_,_],_=>rfl)) T0 g53 g64 g65 g52 g45;have g67:=A8y (q66.d X G (by intro _ _ _ _ _ _ us hl;match us,hl with| [_,_,_,_,_],_=>rfl)) g66 g65;have g68:=A7i (q67.d X G) g53 g26 g66;have g69:=A8s (q68.d X G) g68 g67;have g70:=A6x (q69.d X G) T2 g33 g57;have g71:=A2l (q70.d X G) g54 g34;have g72:=B1j (q71.d X G) T2 g69 g45 g71 g68 g67;exact B04 F T2 g72 g33 g32 g63 g70 g62 g31
theorem walk {l:W.OpenLaw}{q:Program}{loose:List Str}{XP:(Str->Option Value)->Heap->Prop}{YP:World->Heap->Prop}{d:DefRec}{K:Params->W.Frag}(hn:l.most=some 63)(hdf:d.params.defaults=[])
  (hY:∀(w:World)(h:Heap),YP w h->(K w.params).In h)
  (F:∀(w:World)(mg:Str->Option Value)(fa:Addr)(h:Heap),(K w.params).In h->h.Ns mainGlobals mg->mg d.name=some (.ref fa)->
   ∃fd:FuncData,(∀(s:Shared)(u:Value),BindsTo s fd ⟨[u],[]⟩ [("_law_script",u)])/\∀base:Heap,(K w.params).In base->base.Ns mainGlobals mg->gD l.prog w (K w.params) mg base CX0 19 fa fd ["_law_script"] (nT (K w.params))):
  W.WalkO q loose XP YP l.row.toRowW d [] (fun f vs=>PySem.call f vs):=
 L2.walk_of (n:=63) (k:=19) (x:="_law_script") (CX:=fun _=>CX0) (sp:=fun w=>nT (K w.params)) hn (by decide) hdf ⟨rfl,by decide,by decide,rfl⟩ hY F (fun _ _ a ns hl _ hS=> ⟨a,ns,rfl,hS,hl,fun _=>rfl⟩) fun _ _ _ _ _ z=>z
end M52
open PySem PySem.W PyProof.Rows L2
namespace PySem.W.Fast
theorem tw2801753858644787689:True:=⟨⟩
theorem tw4245417815319226067:True:=⟨⟩
theorem tw6013637628338291524:True:=⟨⟩
theorem tw18339093352316496176:True:=⟨⟩
theorem tw8797855814593100104:True:=⟨⟩
theorem tw9057050163578681019:True:=⟨⟩
theorem tw10607855800535804430:True:=⟨⟩
theorem tw15576721188951668401:True:=⟨⟩
theorem tw9968857332905214104:True:=⟨⟩
theorem tw1887973587701682619:True:=⟨⟩
theorem tw4559852043942330312:True:=⟨⟩
theorem tw4482450720112094482:True:=⟨⟩
theorem tw17429577806791985840:True:=⟨⟩
theorem tw2401088434237743894:True:=⟨⟩
theorem tw16719641431920534197:True:=⟨⟩
theorem tw12952916426519292300:True:=⟨⟩
theorem tw9740395507650302709:True:=⟨⟩
theorem tw9940593775895044470:True:=⟨⟩
theorem tw13938500084719528838:True:=⟨⟩
theorem tw10393057679018195031:True:=⟨⟩
theorem tw8190043297707267849:True:=⟨⟩
theorem tw11856187171815156043:True:=⟨⟩
theorem tw7672336637395426626:True:=⟨⟩
theorem tw5003814832776909716:True:=⟨⟩
theorem tw1476345958438484748:True:=⟨⟩
theorem tw16125716309151255406:True:=⟨⟩
theorem tw10836543278015250707:True:=⟨⟩
theorem tw13312066150520034170:True:=⟨⟩
theorem tw2990661055429368360:True:=⟨⟩
theorem tw16310675331415017692:True:=⟨⟩
theorem tw16986766581365382939:True:=⟨⟩
theorem tw7285263666821684392:True:=⟨⟩
theorem tw10241021278676223788:True:=⟨⟩
theorem tw7871971885577999349:True:=⟨⟩
theorem tw2491596402028506744:True:=⟨⟩
theorem tw16116414666876871397:True:=⟨⟩
theorem tw15871569492787664203:True:=⟨⟩
theorem tw16538578492662344786:True:=⟨⟩
theorem tw68046378651839647:True:=⟨⟩
theorem tw3302557122723029411:True:=⟨⟩
theorem tw3433687859784866713:True:=⟨⟩
theorem tw16095466884026165278:True:=⟨⟩
theorem tw269241964159960699:True:=⟨⟩
theorem tw879305638228336180:True:=⟨⟩
theorem tw12696408200352474614:True:=⟨⟩
theorem tw735980502536958515:True:=⟨⟩
theorem tw1244622493482249847:True:=⟨⟩
theorem tw1529587632355121250:True:=⟨⟩
theorem tw1634274737948948066:True:=⟨⟩
theorem tw4960010040996283057:True:=⟨⟩
theorem tw15130111683711044785:True:=⟨⟩
theorem tw6934666142595285989:True:=⟨⟩
theorem tw11111699235040381027:True:=⟨⟩
theorem tw3411459253336154601:True:=⟨⟩
theorem tw15318434737943890831:True:=⟨⟩
theorem tw9939703438525703447:True:=⟨⟩
theorem tw15953221226219637952:True:=⟨⟩
theorem tw15274458588517984899:True:=⟨⟩
theorem tw11267723494241079222:True:=⟨⟩
theorem tw15855790228088528355:True:=⟨⟩
theorem tw4207737776629190208:True:=⟨⟩
theorem tw3801696771887603474:True:=⟨⟩
theorem tw7189852215606933699:True:=⟨⟩
theorem tw12077318892621483240:True:=⟨⟩
theorem tw3956684271819330688:True:=⟨⟩
theorem tw13168439756325655312:True:=⟨⟩
theorem tw15494002116902841620:True:=⟨⟩
theorem tw148524804646044124:True:=⟨⟩
theorem tw9027558549389311893:True:=⟨⟩
theorem tw11536362163222293836:True:=⟨⟩
theorem tw397400855397816148:True:=⟨⟩
theorem tw6938179046956849771:True:=⟨⟩
theorem tw13760115165904013011:True:=⟨⟩
theorem tw8600225482262006688:True:=⟨⟩
theorem tw251306956752409053:True:=⟨⟩
theorem tw11159091901582748201:True:=⟨⟩
theorem tw14987538596872764463:True:=⟨⟩
theorem tw8202536292144998694:True:=⟨⟩
theorem tw16507151941805409672:True:=⟨⟩
theorem tw6960399786420559021:True:=⟨⟩
theorem tw6663569163477605030:True:=⟨⟩
theorem tw14417401878337492746:True:=⟨⟩
theorem tw16800411042284907029:True:=⟨⟩
theorem tw10893744219342190726:True:=⟨⟩
theorem tw11117209384326774863:True:=⟨⟩
theorem tw3316552084444526363:True:=⟨⟩
theorem tw7473485116847657245:True:=⟨⟩
theorem tw10405226729996645317:True:=⟨⟩
theorem tw14410955399797375001:True:=⟨⟩
theorem tw2659938749697482229:True:=⟨⟩
theorem tw2104218373019516541:True:=⟨⟩
theorem tw534192469756271437:True:=⟨⟩
theorem tw1187601223099502312:True:=⟨⟩
theorem tw11851864759941485178:True:=⟨⟩
theorem tw5552356189112947454:True:=⟨⟩
theorem tw11745725717517989371:True:=⟨⟩
theorem tw5721269508501287571:True:=⟨⟩
theorem tw7913038427812978426:True:=⟨⟩
theorem tw1672736500044815643:True:=⟨⟩
theorem tw16344612800537262284:True:=⟨⟩
theorem tw12184612238674320671:True:=⟨⟩
theorem tw818800556747717019:True:=⟨⟩
theorem tw3474629163543409148:True:=⟨⟩
theorem tw13751876909433748172:True:=⟨⟩
theorem tw14081795557141251435:True:=⟨⟩
theorem tw10438895133564715003:True:=⟨⟩
theorem tw5622159037333289054:True:=⟨⟩
theorem tw8333836159358535473:True:=⟨⟩
theorem tw11624909665817449577:True:=⟨⟩
theorem tw4744107743264818227:True:=⟨⟩
theorem tw2365536098017551717:True:=⟨⟩
theorem tw13100946893102467645:True:=⟨⟩
theorem tw4832166834058918266:True:=⟨⟩
theorem tw3089625585998326429:True:=⟨⟩
theorem tw1521502285202227104:True:=⟨⟩
theorem tw16004507019296482636:True:=⟨⟩
theorem tw413600524017945697:True:=⟨⟩
theorem tw3946717316762028835:True:=⟨⟩
theorem tw9168967810031544479:True:=⟨⟩
theorem tw14065795014149257677:True:=⟨⟩
theorem tw12992517183505674319:True:=⟨⟩
theorem tw11167607954268207366:True:=⟨⟩
theorem tw13729475625962298551:True:=⟨⟩
theorem tw4795460863524790548:True:=⟨⟩
theorem tw10509517685674269113:True:=⟨⟩
theorem tw8558189310888734838:True:=⟨⟩
theorem tw1364342566555416329:True:=⟨⟩
theorem tw2873793876785227252:True:=⟨⟩
theorem tw12122304091069104351:True:=⟨⟩
theorem tw17127705934101279176:True:=⟨⟩
theorem tw3408669162985981063:True:=⟨⟩
theorem tw6415059021152257895:True:=⟨⟩
theorem tw17633044943882302253:True:=⟨⟩
theorem tw4921237299441844262:True:=⟨⟩
theorem tw7547880463804903548:True:=⟨⟩
theorem tw3926390568869605022:True:=⟨⟩
theorem tw5909444278950116809:True:=⟨⟩
theorem tw1234011857446625007:True:=⟨⟩
theorem tw11578175703650821897:True:=⟨⟩
theorem tw9718855744184421337:True:=⟨⟩
theorem tw17944486844756259258:True:=⟨⟩
theorem tw17751250463695502526:True:=⟨⟩
theorem tw9539056282413905561:True:=⟨⟩
theorem tw13506850962603271455:True:=⟨⟩
theorem tw16375855990331968935:True:=⟨⟩
theorem tw4848473312241708640:True:=⟨⟩
theorem tw10035283823462290204:True:=⟨⟩
theorem tw12534917957464921469:True:=⟨⟩
theorem tw8543986244352423777:True:=⟨⟩
theorem tw10448403155773901626:True:=⟨⟩
theorem tw2038309595521619693:True:=⟨⟩
theorem tw13466257904434918270:True:=⟨⟩
theorem tw15934509145026541069:True:=⟨⟩
theorem tw12790412078781944732:True:=⟨⟩
theorem tw17549204374870171043:True:=⟨⟩
theorem tw18106117622390174125:True:=⟨⟩
theorem tw17171491980809929071:True:=⟨⟩
theorem tw10625765863034878053:True:=⟨⟩
theorem tw18259514900087934811:True:=⟨⟩
theorem tw18152239169687582763:True:=⟨⟩
theorem tw8797168144321327662:True:=⟨⟩
theorem tw7997837065969744091:True:=⟨⟩
theorem tw9637345304352634606:True:=⟨⟩
theorem tw3164643768057137068:True:=⟨⟩
theorem tw17482717611830234645:True:=⟨⟩
theorem tw13693840531916219702:True:=⟨⟩
theorem tw3078925286354272810:True:=⟨⟩
theorem tw14181322309395096921:True:=⟨⟩
theorem tw15902046739389907228:True:=⟨⟩
theorem tw9195986208807075037:True:=⟨⟩
theorem tw4776093830009823444:True:=⟨⟩
theorem tw2612219877963585893:True:=⟨⟩
theorem tw15659834430753914101:True:=⟨⟩
theorem tw10802519566187296592:True:=⟨⟩
theorem tw3510505004178921569:True:=⟨⟩
theorem tw14419943112023197070:True:=⟨⟩
theorem tw9426291074601937579:True:=⟨⟩
theorem tw2637133629678964009:True:=⟨⟩
theorem tw8452752003211298093:True:=⟨⟩
theorem tw153690025408498361:True:=⟨⟩
theorem tw9068128689588333694:True:=⟨⟩
theorem tw6247628439916810672:True:=⟨⟩
theorem tw5136366109803660470:True:=⟨⟩
theorem tw4479145677778429504:True:=⟨⟩
theorem tw13295955537715046298:True:=⟨⟩
theorem tw1372597229941640124:True:=⟨⟩
theorem tw12475991649571186518:True:=⟨⟩
theorem tw13425673978230893845:True:=⟨⟩
theorem tw5684559723975670149:True:=⟨⟩
theorem tw12612654886208162641:True:=⟨⟩
theorem tw13546588967418319276:True:=⟨⟩
theorem tw12913979104104284185:True:=⟨⟩
theorem tw5817997680429827711:True:=⟨⟩
theorem tw16628965677173224846:True:=⟨⟩
theorem tw2965110489429005047:True:=⟨⟩
theorem tw10468014402424030676:True:=⟨⟩
theorem tw5161130755335766412:True:=⟨⟩
theorem tw6506680176890951807:True:=⟨⟩
theorem tw14216498166122094017:True:=⟨⟩
theorem tw15412808591094847315:True:=⟨⟩
theorem tw1708329645484665219:True:=⟨⟩
theorem tw9863060212208822996:True:=⟨⟩
theorem tw7335944740305807818:True:=⟨⟩
theorem tw14045823111060012221:True:=⟨⟩
theorem tw6214341708374661443:True:=⟨⟩
theorem tw16854370245587103595:True:=⟨⟩
theorem tw12430718822476303357:True:=⟨⟩
theorem tw5701432924849999866:True:=⟨⟩
theorem tw5579943694856975107:True:=⟨⟩
theorem tw853174744447106234:True:=⟨⟩
theorem tw8786399245961876185:True:=⟨⟩
theorem tw8102506815031786809:True:=⟨⟩
theorem tw194126064934416967:True:=⟨⟩
theorem tw15633938132974291508:True:=⟨⟩
theorem tw17532900729307166020:True:=⟨⟩
theorem tw1255195748191483565:True:=⟨⟩
theorem tw7428077448665644098:True:=⟨⟩
theorem tw3794461872594749258:True:=⟨⟩
theorem tw8420747657236802725:True:=⟨⟩
theorem tw7764394259963059786:True:=⟨⟩
theorem tw9949971391048132659:True:=⟨⟩
theorem tw8300330323341120606:True:=⟨⟩
theorem tw16364726032649041001:True:=⟨⟩
theorem tw14298365403474093342:True:=⟨⟩
theorem tw10606442778036352949:True:=⟨⟩
theorem tw12966885352648910118:True:=⟨⟩
theorem tw14487994846587936715:True:=⟨⟩
theorem tw3471928701454912588:True:=⟨⟩
theorem tw15044218436283997527:True:=⟨⟩
theorem tw13171014616426405431:True:=⟨⟩
theorem tw14361411649723970100:True:=⟨⟩
theorem tw8038047473955722498:True:=⟨⟩
theorem tw4905659034959854556:True:=⟨⟩
theorem tw2455893249515403456:True:=⟨⟩
theorem tw14663947336876964821:True:=⟨⟩
theorem tw12360956041713186624:True:=⟨⟩
theorem tw14507615395454688470:True:=⟨⟩
theorem tw3701390135102028714:True:=⟨⟩
theorem tw16541035284681838068:True:=⟨⟩
theorem tw5841089169855946652:True:=⟨⟩
theorem tw15765731118024176478:True:=⟨⟩
theorem tw8240622876220993560:True:=⟨⟩
theorem tw17712215479346049792:True:=⟨⟩
theorem tw3839045527880350886:True:=⟨⟩
theorem tw2881692929639038453:True:=⟨⟩
theorem tw3585616790979684963:True:=⟨⟩
theorem tw17175602017976983454:True:=⟨⟩
theorem tw6793390288414241372:True:=⟨⟩
theorem tw6994693734467580368:True:=⟨⟩
theorem tw862144546205648468:True:=⟨⟩
theorem tw1204313924820724248:True:=⟨⟩
theorem tw17150351914349976477:True:=⟨⟩
theorem tw14945889957006226788:True:=⟨⟩
theorem tw1288045536040465342:True:=⟨⟩
theorem tw1864792331948347706:True:=⟨⟩
theorem tw17591058165265201572:True:=⟨⟩
theorem tw14958713638558218603:True:=⟨⟩
theorem tw16887056582398790981:True:=⟨⟩
theorem tw11926546750560062740:True:=⟨⟩
theorem tw2846141795675919557:True:=⟨⟩
theorem tw1721679988340895640:True:=⟨⟩
theorem tw4219246779311284018:True:=⟨⟩
theorem tw9219290831637657468:True:=⟨⟩
theorem tw6998309004286266241:True:=⟨⟩
theorem tw13750265504603639396:True:=⟨⟩
theorem tw203886049367349989:True:=⟨⟩
theorem tw8622407170483455311:True:=⟨⟩
theorem tw2319508598884400379:True:=⟨⟩
theorem tw5996833686404310926:True:=⟨⟩
theorem tw2216255950708096316:True:=⟨⟩
theorem tw7984986654716396503:True:=⟨⟩
theorem tw14628298404158818443:True:=⟨⟩
theorem tw14685835388882283220:True:=⟨⟩
theorem tw13008355703647044514:True:=⟨⟩
theorem tw5650781127899641315:True:=⟨⟩
theorem tw5553745225075441624:True:=⟨⟩
theorem tw1354087232956940034:True:=⟨⟩
theorem tw6301266562420353344:True:=⟨⟩
theorem tw12714766309132188586:True:=⟨⟩
theorem tw12293411175639661312:True:=⟨⟩
theorem tw8760866165983809606:True:=⟨⟩
theorem tw1237617287085811948:True:=⟨⟩
theorem tw3892893685773331201:True:=⟨⟩
theorem tw14693540989756362390:True:=⟨⟩
theorem tw9564835012425009863:True:=⟨⟩
theorem tw2737901261232208732:True:=⟨⟩
theorem tw15683882753312946838:True:=⟨⟩
theorem tw18240984413906423498:True:=⟨⟩
theorem tw17574482417192640108:True:=⟨⟩
theorem tw15636476347721593990:True:=⟨⟩
theorem tw3474446255669355869:True:=⟨⟩
theorem tw6542084031440425934:True:=⟨⟩
theorem tw9362760995054284345:True:=⟨⟩
theorem tw1630865753599563118:True:=⟨⟩
theorem tw2530433279321015897:True:=⟨⟩
theorem tw18267308844616105914:True:=⟨⟩
theorem tw4554683641689754079:True:=⟨⟩
theorem tw10455765041626125608:True:=⟨⟩
theorem tw2613817482513131576:True:=⟨⟩
theorem tw14500657170418351940:True:=⟨⟩
theorem tw5758925048984673130:True:=⟨⟩
theorem tw10154663382175784104:True:=⟨⟩
theorem tw8580327690017337017:True:=⟨⟩
theorem tw15788643856143204772:True:=⟨⟩
theorem tw8261410127210268157:True:=⟨⟩
theorem tw8383867412514971892:True:=⟨⟩
theorem tw4932793468265520132:True:=⟨⟩
theorem tw13950107720545781082:True:=⟨⟩
theorem tw842040705365332370:True:=⟨⟩
theorem tw4578826566974847568:True:=⟨⟩
theorem tw10557501088823771956:True:=⟨⟩
theorem tw7759336614388161959:True:=⟨⟩
theorem tw11991884488761223530:True:=⟨⟩
theorem tw10247915753096939192:True:=⟨⟩
theorem tw11465076592765872634:True:=⟨⟩
theorem tw9362479773912472382:True:=⟨⟩
theorem tw231251824293313420:True:=⟨⟩
theorem tw14900327913368646145:True:=⟨⟩
theorem tw14289783276302837041:True:=⟨⟩
theorem tw3713624945496598035:True:=⟨⟩
theorem tw10115123113296846489:True:=⟨⟩
theorem tw7981770834890510113:True:=⟨⟩
theorem tw18414521324622106481:True:=⟨⟩
theorem tw13631945550083142314:True:=⟨⟩
theorem tw1786382717183355832:True:=⟨⟩
theorem tw6239015170323403042:True:=⟨⟩
theorem tw10707421274885131985:True:=⟨⟩
theorem tw13483463779529751247:True:=⟨⟩
theorem tw9504259821200269927:True:=⟨⟩
theorem tw4391229203134240268:True:=⟨⟩
theorem tw5133969246160566420:True:=⟨⟩
theorem tw3043462969376756731:True:=⟨⟩
theorem tw5445116764777019277:True:=⟨⟩
theorem tw4234042558526556738:True:=⟨⟩
theorem tw2201331614382029251:True:=⟨⟩
theorem tw6453409071152956361:True:=⟨⟩
theorem tw13015738405899519565:True:=⟨⟩
theorem tw12891308211509705198:True:=⟨⟩
theorem tw16699460087855989010:True:=⟨⟩
theorem tw13804579891992244576:True:=⟨⟩
theorem tw9163770759316597665:True:=⟨⟩
theorem tw5150137577648803605:True:=⟨⟩
theorem tw8585783913455550607:True:=⟨⟩
theorem tw14644326445760058263:True:=⟨⟩
theorem tw12767873070787961833:True:=⟨⟩
theorem tw18376407614265915485:True:=⟨⟩
theorem tw3136845762009551959:True:=⟨⟩
theorem tw17818871817923521636:True:=⟨⟩
theorem tw9440320227646280690:True:=⟨⟩
theorem tw16453455602001716804:True:=⟨⟩
theorem tw14397284000328313513:True:=⟨⟩
theorem tw8613802745696650915:True:=⟨⟩
theorem tw1636951695720463219:True:=⟨⟩
theorem tw9877918498719857567:True:=⟨⟩
theorem tw13391306792971108052:True:=⟨⟩
theorem tw14092876447629417714:True:=⟨⟩
theorem tw18050354285953981377:True:=⟨⟩
theorem tw11825016000999471571:True:=⟨⟩
theorem tw8865627226841171023:True:=⟨⟩
theorem tw2241155475285537192:True:=⟨⟩
theorem tw10769501520608096681:True:=⟨⟩
theorem tw8314883182447978021:True:=⟨⟩
theorem tw8081828997146822500:True:=⟨⟩
theorem tw8555773943481265207:True:=⟨⟩
theorem tw3155627963874638087:True:=⟨⟩
theorem tw4189625457356602172:True:=⟨⟩
theorem tw4285744352929881191:True:=⟨⟩
theorem tw2831967018044090764:True:=⟨⟩
theorem tw6901783034897394378:True:=⟨⟩
theorem tw16097066094430225418:True:=⟨⟩
theorem tw15828689160160097272:True:=⟨⟩
theorem tw11685984087763362165:True:=⟨⟩
theorem tw11753373031939963281:True:=⟨⟩
theorem tw16623068221939685411:True:=⟨⟩
theorem tw15497305115387043824:True:=⟨⟩
theorem tw9277203419664612284:True:=⟨⟩
theorem tw4000259129287408552:True:=⟨⟩
theorem tw10184343620793926389:True:=⟨⟩
theorem tw10439737754999039122:True:=⟨⟩
theorem tw2489593387125689204:True:=⟨⟩
theorem tw18373346470402536041:True:=⟨⟩
theorem tw11584342873239251755:True:=⟨⟩
theorem tw13872384975929723467:True:=⟨⟩
theorem tw6173854311144394863:True:=⟨⟩
theorem tw7489875869068616210:True:=⟨⟩
theorem tw11324823974005665791:True:=⟨⟩
theorem tw9644831160343138732:True:=⟨⟩
theorem tw15681341561781281965:True:=⟨⟩
theorem tw2641331759052708895:True:=⟨⟩
theorem tw16803495722757798299:True:=⟨⟩
theorem tw5370749578877392545:True:=⟨⟩
theorem tw17870618430508033841:True:=⟨⟩
theorem tw8937106903320461799:True:=⟨⟩
theorem tw6494262564090765102:True:=⟨⟩
theorem tw4766866448281010843:True:=⟨⟩
theorem tw15875121613767114127:True:=⟨⟩
theorem tw9302550168759068015:True:=⟨⟩
theorem tw7299084183842905124:True:=⟨⟩
theorem tw43681505798461218:True:=⟨⟩
theorem tw2127293530052894101:True:=⟨⟩
theorem tw6331842030311211637:True:=⟨⟩
theorem tw10706516378719011412:True:=⟨⟩
theorem tw2493695287700586155:True:=⟨⟩
theorem tw12258362192235972662:True:=⟨⟩
theorem tw4291238475885258157:True:=⟨⟩
theorem tw17901968398684567433:True:=⟨⟩
theorem tw887641776740693407:True:=⟨⟩
theorem tw11337264834830206369:True:=⟨⟩
theorem tw2723539801357841819:True:=⟨⟩
theorem tw1538023423948373183:True:=⟨⟩
theorem tw11830103017253610085:True:=⟨⟩
theorem tw11112322464846892121:True:=⟨⟩
theorem tw17354640145127759798:True:=⟨⟩
theorem tw16593450395807456204:True:=⟨⟩
theorem tw5871547221664212661:True:=⟨⟩
theorem tw5305546590017370708:True:=⟨⟩
theorem tw9707457597752599970:True:=⟨⟩
theorem tw7923637899704766747:True:=⟨⟩
theorem tw14429127190071002070:True:=⟨⟩
theorem tw13307818478864299375:True:=⟨⟩
theorem tw17666704750616041028:True:=⟨⟩
theorem tw3551568472879889802:True:=⟨⟩
theorem tw2694721883610320186:True:=⟨⟩
theorem tw8640787747480070949:True:=⟨⟩
theorem tw3730143219633380808:True:=⟨⟩
theorem tw11371136939819086530:True:=⟨⟩
theorem tw17611980432497821116:True:=⟨⟩
theorem tw1369025711786972105:True:=⟨⟩
theorem tw15324361968878886985:True:=⟨⟩
theorem tw1471292090650058287:True:=⟨⟩
theorem tw9025347303329701407:True:=⟨⟩
theorem tw10672603895948169090:True:=⟨⟩
theorem tw5347200209571386784:True:=⟨⟩
theorem tw7950775495900196746:True:=⟨⟩
theorem tw4423171064700511318:True:=⟨⟩
theorem tw14183993744612709376:True:=⟨⟩
theorem tw5158099991420332902:True:=⟨⟩
theorem tw6950046193104603476:True:=⟨⟩
theorem tw12017729261260078747:True:=⟨⟩
theorem tw17552774059897569524:True:=⟨⟩
theorem tw11622592953085536430:True:=⟨⟩
theorem tw4730491240964304201:True:=⟨⟩
theorem tw13283282754946139391:True:=⟨⟩
theorem tw18360994735241967526:True:=⟨⟩
theorem tw8518683785101673151:True:=⟨⟩
theorem tw9020210434282155091:True:=⟨⟩
theorem tw127017897681307426:True:=⟨⟩
theorem tw11524041987562829177:True:=⟨⟩
theorem tw16344961082345508320:True:=⟨⟩
theorem tw17712890646339587322:True:=⟨⟩
theorem tw5906992934192753123:True:=⟨⟩
theorem tw1572123563399721174:True:=⟨⟩
theorem tw15526467607899009903:True:=⟨⟩
theorem tw13817465591807763663:True:=⟨⟩
theorem tw9550459186028009983:True:=⟨⟩
theorem tw17245242283483407716:True:=⟨⟩
theorem tw12941696531651674027:True:=⟨⟩
theorem tw9990489329347965281:True:=⟨⟩
theorem tw1672287714449704369:True:=⟨⟩
theorem tw17939746933209054303:True:=⟨⟩
theorem tw2773166519216907362:True:=⟨⟩
theorem tw3745925079760675628:True:=⟨⟩
theorem tw1355514212347836572:True:=⟨⟩
theorem tw8611927853792152912:True:=⟨⟩
theorem tw5920534666297034053:True:=⟨⟩
theorem tw12510928955782670196:True:=⟨⟩
theorem tw15634319965377309485:True:=⟨⟩
theorem tw12724442781094657721:True:=⟨⟩
theorem tw11817038782716005242:True:=⟨⟩
theorem tw16285820744505572087:True:=⟨⟩
theorem tw495310483429561468:True:=⟨⟩
theorem tw6159120963736036713:True:=⟨⟩
theorem tw15939330132959834066:True:=⟨⟩
theorem tw6697574016348526298:True:=⟨⟩
theorem tw110058216227640219:True:=⟨⟩
theorem tw13437487858197483181:True:=⟨⟩
theorem tw10826342519946363180:True:=⟨⟩
theorem tw9371280767227861050:True:=⟨⟩
theorem tw10464706982797574315:True:=⟨⟩
theorem tw1333649796623350348:True:=⟨⟩
theorem tw6656320053803510258:True:=⟨⟩
theorem tw10451735130931605304:True:=⟨⟩
theorem tw9477280574996481716:True:=⟨⟩
theorem tw2755801095828880448:True:=⟨⟩
theorem tw6189928372059742336:True:=⟨⟩
theorem tw8932575755825248941:True:=⟨⟩
theorem tw6609058942516028025:True:=⟨⟩
theorem tw18026763947547915666:True:=⟨⟩
theorem tw8532210159667904307:True:=⟨⟩
theorem tw6701782395346058401:True:=⟨⟩
theorem tw11825821582141995436:True:=⟨⟩
theorem tw16898734848987063258:True:=⟨⟩
theorem tw1585270779390579680:True:=⟨⟩
theorem tw9658779058840964728:True:=⟨⟩
theorem tw11247071606206311986:True:=⟨⟩
theorem tw7985301174697940067:True:=⟨⟩
theorem tw11985629522133630144:True:=⟨⟩
theorem tw12696561495091288639:True:=⟨⟩
theorem tw11280234792206183595:True:=⟨⟩
theorem tw1724473917421009536:True:=⟨⟩
theorem tw3828788106212003459:True:=⟨⟩
theorem tw10599814472212564261:True:=⟨⟩
theorem tw9518177363338334312:True:=⟨⟩
theorem tw15377715475324230562:True:=⟨⟩
theorem tw15290133244096248126:True:=⟨⟩
theorem tw16260631653877396561:True:=⟨⟩
theorem tw7395535645738867801:True:=⟨⟩
theorem tw9771251473641890234:True:=⟨⟩
theorem tw894441129634693389:True:=⟨⟩
theorem tw15356516445249092597:True:=⟨⟩
theorem tw3488392206157018647:True:=⟨⟩
theorem tw12128043093569098425:True:=⟨⟩
theorem tw2079840440133274970:True:=⟨⟩
theorem tw11065612083517041046:True:=⟨⟩
theorem tw16357997688878665777:True:=⟨⟩
theorem tw8638510078558987104:True:=⟨⟩
theorem tw14397681728989911334:True:=⟨⟩
theorem tw6967326945585207872:True:=⟨⟩
theorem tw2646177427086358580:True:=⟨⟩
theorem tw11424726749290574940:True:=⟨⟩
theorem tw341663330127735127:True:=⟨⟩
theorem tw7512571129606727963:True:=⟨⟩
theorem tw9418604646427511126:True:=⟨⟩
theorem tw3215213081555713860:True:=⟨⟩
theorem tw15462879850744994991:True:=⟨⟩
theorem tw12668216436417503254:True:=⟨⟩
theorem tw10227181739385408456:True:=⟨⟩
theorem tw3667593954414799031:True:=⟨⟩
theorem tw15724784481279730680:True:=⟨⟩
theorem tw11984795539580100713:True:=⟨⟩
end PySem.W.Fast
set_option maxRecDepth 100000 in
set_option maxHeartbeats 0 in
theorem PySem.Challenge.cw_meadshares_k52_whole_settled_at_last_holds : PySem.Challenge.rw_meadshares_k52_whole_settled_at_last.Holds := by
 w_on;o_law;k_head;(case hw=>w_witness2)
 k_fill
 refine' M52.walk (l:=PySem.Challenge.rw_meadshares_k52_whole_settled_at_last) rfl rfl (fun w h Y=>PySem.W.kIn_of Y) ?F
 case F=>
  intro w mg fa h KX G hmg
  refine' M52.all_mk KX G hmg ?q0 ?q1 ?q2 ?q3 ?q4 ?q5 ?q6 ?q7 ?q8 ?q9 ?q10 ?q11 ?q12 ?q13 ?q14 ?q15 ?q16 ?q17 ?q18 ?q19 ?q20 ?q21 ?q22 ?q23 ?q24 ?q25 ?q26 ?q27 ?q28 ?q29 ?q30 ?q31 ?q32 ?q33 ?q34 ?q35 ?q36 ?q37 ?q38 ?q39 ?q40 ?q41 ?q42 ?q43 ?q44 ?q45 ?q46 ?q47 ?q48 ?q49 ?q50 ?q51 ?q52 ?q53 ?q54 ?q55 ?q56 ?q57 ?q58 ?q59 ?q60 ?q61 ?q62 ?q63 ?q64 ?q65 ?q66 ?q67 ?q68 ?q69 ?q70 ?q71 ?q72 ?v0 ?v1 ?v2 ?v3 ?v4 ?v5 ?v6 ?v7 ?v8 ?v9 ?v10 ?v11 ?v12 ?z0 ?z1 ?z2 ?z3 ?z4 ?z5 ?z6 ?z7 ?z8 ?z9 ?z10 ?z11 ?z12 ?z13 ?z14 ?z15 ?z16 ?z17 ?z18 ?z19
  (case q0|q1|q2|q3|q4|q5|q6|q7|q8|q9|q10|q11|q12|q13|q14|q15|q16|q17|q18|q19|q20|q21|q22|q23|q24|q25|q26|q27|q28|q29|q30|q31|q32|q33|q34|q35|q36|q37|q38|q39|q40|q41|q42|q43|q44|q45|q46|q47|q48|q49|q50|q51|q52|q53|q54|q55|q56|q57|q58|q59|q60|q61|q62|q63|q64|q65|q66|q67|q68|q69|q70|q71|q72=>refine' B0i ?a ?l ?c ?k;(case a|l|c|k=>k_is))
  (case v0|v1|v2|v3|v4|v5|v6|v7|v8|v9|v10|v11|v12|z0|z1|z2|z3|z4|z5|z6|z7|z8|z9|z10|z11|z12|z13|z14|z15|z16|z17|z18|z19=>k_is)